import PyProof.Rows.All
import Wide.All
import OpenK.AllK
import Wide.FinOn
import Lean
import PyProof.EqAt
import PyProof.EqKinds
import PyProof.TupleCall
import PySem.Challenge.RW_currentfloor_k41_steps_done_and_back
noncomputable section
set_option Elab.async false
set_option linter.all false
set_option maxRecDepth 100000
namespace L2
open PySem PySem.Spec PyProof.Rows
abbrev A2:=Sum Int Str
def IJ:A2->Value->Bool
 | .inl k,v=>Value.isInt k v
 | .inr x,v=>Value.isStrOf x v
def ao(w:World):A2->Int
 | .inl k=>hashInt k
 | .inr x=>hashStr w x
theorem Fh:∀{k:A2} {v:Value},IJ k v=true->(∃i t,k=Sum.inl i/\v=Value.int i t)\/(∃x t,k=Sum.inr x/\v=Value.str x t)
 | .inl i,v,h=>by
  obtain⟨t,e⟩:=Value.isInt_shape (k:=i) (v:=v) h;exact .inl ⟨i,t,rfl,e⟩
 | .inr x,v,h=>by
  obtain⟨t,e⟩:=Value.isStrOf_shape (x:=x) (v:=v) h;exact .inr ⟨x,t,rfl,e⟩
theorem Ul(i:Int)(t:Tok):IJ (.inl i) (.int i t)=true:=by simp[IJ,Value.isInt]
theorem Ub(x:Str)(t:Tok):IJ (.inr x) (.str x t)=true:=by simp[IJ,Value.isStrOf]
theorem Yc(a b:Int):decide ((Sum.inl a:A2)=Sum.inl b)=(a == b):=by
 by_cases e:a=b
 ·subst e; simp
 ·have h:¬(Sum.inl a:A2)=Sum.inl b:=λq=>e (Sum.inl.inj q)
  rw[decide_eq_false h];exact(beq_eq_false_iff_ne.mpr e).symm
theorem YZ(a b:Str):decide ((Sum.inr a:A2)=Sum.inr b)=decide (a=b):=by
 by_cases e:a=b
 ·subst e; simp
 ·have h:¬(Sum.inr a:A2)=Sum.inr b:=λq=>e (Sum.inr.inj q)
  rw[decide_eq_false h,decide_eq_false e]
theorem Yp(a:Int)(b:Str):decide ((Sum.inl a:A2)=Sum.inr b)=false:=decide_eq_false (λq=>nomatch q)
theorem Yi(a:Str)(b:Int):decide ((Sum.inr a:A2)=Sum.inl b)=false:=decide_eq_false (λq=>nomatch q)
def D2(prog:Program)(w:World):PySem.KeyKind prog w A2 where
 is:=IJ
 hash:=ao w
 inj:=λv a b ha hb=>by
  rcases Fh ha with ⟨i,t,rfl,rfl⟩ | ⟨x,t,rfl,rfl⟩
  ·rcases Fh hb with ⟨j,u,rfl,e⟩ | ⟨y,u,rfl,e⟩
   ·injection e with e1 _; rw[e1]
   ·exact nomatch e
  ·rcases Fh hb with ⟨j,u,rfl,e⟩ | ⟨y,u,rfl,e⟩
   ·exact nomatch e
   ·injection e with e1 _; rw[e1]
 byValue:=λk v h=>by
  rcases Fh h with ⟨i,t,rfl,rfl⟩ | ⟨x,t,rfl,rfl⟩ <;> rfl
 pyHash:=λhv h=>by
  rcases Fh hv with ⟨i,t,rfl,rfl⟩ | ⟨x,t,rfl,rfl⟩
  ·exact wpAny_pyHash_int h
  ·exact wpAny_pyHash_str h
 eqBool:=λhu hv h=>by
  rcases Fh hu with ⟨i,t,rfl,rfl⟩ | ⟨x,t,rfl,rfl⟩
  ·rcases Fh hv with ⟨j,u,rfl,rfl⟩ | ⟨y,u,rfl,rfl⟩
   ·rw[Yc] at h; exact wpAny_eqBool_int h
   ·rw[Yp] at h; exact SeqAt.EqAt.int_str i t y u _ _ _ _ h
  ·rcases Fh hv with ⟨j,u,rfl,rfl⟩ | ⟨y,u,rfl,rfl⟩
   ·rw[Yi] at h; exact SeqAt.EqAt.str_int x t j u _ _ _ _ h
   ·rw[YZ] at h; exact wpAny_eqBool_str h
 «strs»:=λk x t v h=>by
  rcases Fh h with ⟨i,u,rfl,e⟩ | ⟨y,u,rfl,e⟩
  ·exact nomatch e
  ·injection e with e1 _
   subst e1;cases v <;> rfl
theorem Tn(prog:Program)(w:World)(i:Int)(t:Tok):(D2 prog w).is (.inl i) (.int i t)=true:=Ul i t
theorem Tr(prog:Program)(w:World)(x:Str)(t:Tok):(D2 prog w).is (.inr x) (.str x t)=true:=Ub x t
inductive V where
 | Ay | bl (b:Bool) | int (i:Int) | str (x:Str) | ED (b:Array UInt8) | Fe (b:UInt64) | ref (a:Addr) | ty (n:String)
 deriving DecidableEq
def Av:V->Value->Prop
 | .Ay,u=>u=Value.none
 | .bl b,u=>u=Value.bool b
 | .int i,u=>∃t,u=Value.int i t
 | .str x,u=>∃t,u=Value.str x t
 | .ED b,u=>∃t,u=Value.bytes b t
 | .Fe b,u=>∃t,u=Value.float b t
 | .ref a,u=>u=Value.ref a
 | .ty n,u=>u=Value.type n
abbrev Ah:List V->List Value->Prop:=Paired Av
theorem Ah.length{xs:List V}{us:List Value}(r:Ah xs us):xs.length=us.length:=Paired.length r
theorem Ah.get:∀{xs:List V} {us:List Value} {i:Nat} {x:V},Ah xs us->xs[i]?=some x->∃u,us[i]?=some u/\Av x u
 | _,_,_,_,.nil,e=>by simp at e
 | _,_,0,_,.cons r _,e=>by simp at e; subst e; exact⟨_,rfl,r⟩
 | _,_,i+1,x,.cons _ t,e=>by
  obtain⟨u,h1,h2⟩:=Ah.get (i:=i) (x:=x) t (by simpa using e);exact⟨u,by simpa using h1,h2⟩
theorem Ah.set{x:V}{u:Value}(r:Av x u):∀{xs:List V} {us:List Value} (i:Nat),Ah xs us->Ah (xs.set i x) (us.set i u)
 | _,_,_,.nil=>.nil
 | _,_,0,.cons _ t=>.cons r t
 | _,_,i+1,.cons q t=>.cons q (Ah.set r i t)
theorem Ah.FO:∀{xs ys:List V} {us ws:List Value},Ah xs us->Ah ys ws->Ah (xs++ys) (us++ws)
 | _,_,_,_,.nil,s=>s
 | _,_,_,_,.cons r t,s=>.cons r (Ah.FO t s)
theorem Ah.take:∀{xs:List V} {us:List Value} (n:Nat),Ah xs us->Ah (xs.take n) (us.take n)
 | _,_,0,_=>.nil
 | _,_,_+1,.nil=>.nil
 | _,_,n+1,.cons r t=>.cons r (Ah.take n t)
theorem Ah.drop:∀{xs:List V} {us:List Value} (n:Nat),Ah xs us->Ah (xs.drop n) (us.drop n)
 | _,_,0,r=>r
 | _,_,_+1,.nil=>.nil
 | _,_,n+1,.cons _ t=>Ah.drop n t
theorem Ah.QD:∀{xs:List V} {us:List Value} {i:Nat},Ah xs us->xs[i]?=none->us[i]?=none:=λ{xs us i} r e=>by
 have h1:=r.length;have h2:xs.length<=i:=List.getElem?_eq_none_iff.mp e;exact List.getElem?_eq_none_iff.mpr (by omega)
def DI:Option V->Option Value->Prop
 | some v,some u=>Av v u
 | none,none=>True
 | _,_=>False
def KV{κ:Type}:List (κ×V)->List (κ×Value)->Prop:=Paired λ(p:κ×V) (q:κ×Value)=>p.1=q.1/\Av p.2 q.2
def kV:A2->V
 | .inl i=>.int i
 | .inr x=>.str x
inductive HO where
  | AN (xs:List V)
  | AH (xs:List V)
  | dK (kvs:List (A2×V)) | dT (kvs:List (List A2×V))
  | set (S:Int->Bool) (n:Nat)
  | Az (C dx:Addr) (fs:List (Str×V))
  | Cq (x:Addr)
  | xd (fs:List (Str×V))
  | Lo (f x:Addr)
  | Lp (lo hi:Int)
  | Df (o:Obj) (u:HO)
  | HF (ps:Array Value)
  | ext (φ:Heap->Prop)
abbrev Hp:=Addr->Option HO
def AK(H:Hp)(a:Addr)(o:HO):Hp:=λb=>if b=a then some o else H b
theorem AX{H:Hp}{a:Addr}{o:HO}:AK H a o a=some o:=by unfold AK; rw[if_pos rfl]
theorem An{H:Hp}{a b:Addr}{o:HO}(h:b≠a):AK H a o b=H b:=by unfold AK; rw[if_neg h]
theorem ZV{H:Hp}{a b:Addr}{o u:HO}(h:H a=some o)(h':H b=some u)(d:o≠u):a≠b:=by
 intro e; subst e; rw[h] at h'; exact d (Option.some.inj h')
theorem A5{H:Hp}{a b:Addr}{o:HO}(h:H a=some o)(h':H b=none):a≠b:=by
 intro e; subst e; rw[h] at h'; cases h'
section
variable (P:Program) (w:World)
def BR(H:Hp)(h:Heap)(a:Addr):HO->Prop
 | .AN xs=>xs.length<=sizeLine/\∃(its:List Value) (n:Nat),Ah xs its/\h.get? a=some { cls:=.type "list",data:=.seq its.toArray n }
 | .AH xs=>xs.length<=sizeLine/\∃its:List Value,Ah xs its/\IsTup h a its.toArray/\∃o,h.get? a=some o/\o.dict=none
 | .dK kvs=>kvs.length<=sizeLine/\(a == sysModules)=false/\∃vs,KV kvs vs/\h.DictOf (D2 P w) a vs
 | .dT kvs=>kvs.length<=sizeLine/\(a == sysModules)=false/\∃xs:List (List A2×Addr×Value),
   Paired (λ(p:List A2×V) (q:List A2×Addr×Value)=>p.1=q.1/\H q.2.1=some (.AH (p.1.map kV))/\Av p.2 q.2.2) kvs xs /\
   ∃o es ep,h.get? a=some o/\o.ExactDict/\o.data=.dict es ep/\es.toList=xs.map (entryOfKey (tupleKind (D2 P w)))/\(xs.map (·.1)).Nodup
 | .set S n=>h.SetOf (intKind P w) a S n
 | .Az C dx fs=>H dx=some (.Cq a)/\fs.length<=1000/\dx≠a/\h.get? a=some (PySem.W.instObj C dx) /\
   ∃mA,h.Ns1 dx mA/\(∀f,DI (fs.lookup f) (mA f))/\PySem.Within mA (fs.map (·.1))
 | .Cq _=>∃o,h.get? a=some o
 | .xd fs=>∃mA,h.Ns1 a mA/\∀f,DI (fs.lookup f) (mA f)
 | .Lp lo hi=>∃t u v,h.get? a=some { cls:=.type "range",data:=.fields #[.int lo t,.int hi u,.int 1 v] }
 | .Df o u=>h.get? a=some o/\BR H h a u
 | .HF ps=>h.get? a=some { cls:=.none,data:=.fields ps }
 | .Lo f x=>h.get? a=some (PySem.W.methodObj (.ref f) (.ref x))
 | .ext φ=>φ h/\(∃o,h.get? a=some o)/\∀h1 h2:Heap,φ h1->(∀o,h1.get? a=some o->h2.get? a=some o)->φ h2
def BS(H:Hp)(h:Heap):Prop:=∀a o,H a=some o->BR P w H h a o
end
section
variable {P:Program} {w:World} {H H':Hp} {h h':Heap} {a:Addr} {o:HO}
theorem BR.lt(x:BR P w H h a o):a<h.objs.size:=by
 cases o with
 | AN xs=>obtain⟨_,_,_,_,e⟩:=x; exact Heap.lt_size e
 | AH xs=>obtain⟨_,_,_,p,_⟩:=x; exact p.lt
 | dK kvs=>obtain⟨_,_,_,_,o,_,_,e,_⟩:=x; exact Heap.lt_size e
 | dT kvs=>obtain⟨_,_,_,_,o,_,_,e,_⟩:=x; exact Heap.lt_size e
 | set S n=>obtain⟨o,_,_,_,e,_⟩:=x; exact Heap.lt_size e
 | Az C dx fs=>obtain⟨_,_,_,e,_⟩:=x; exact Heap.lt_size e
 | Cq y=>obtain⟨_,e⟩:=x; exact Heap.lt_size e
 | xd fs=>obtain⟨_,⟨_,_,_,e,_⟩,_⟩:=x; exact Heap.lt_size e
 | Lp lo hi=>obtain⟨_,_,_,e⟩:=x; exact Heap.lt_size e
 | Df ob u=>obtain⟨e,_⟩:=x; exact Heap.lt_size e
 | HF ps=>exact Heap.lt_size (show h.get? a=some _ from x)
 | Lo f y=>exact Heap.lt_size (show h.get? a=some _ from x)
 | ext φ=>obtain⟨_,⟨_,e⟩,_⟩:=x; exact Heap.lt_size e
theorem Paired.Nh{α β:Type}{F G:α->β->Prop}:∀{l₁:List α} {l₂:List β},Paired F l₁ l₂->(∀a b,F a b->G a b)->Paired G l₁ l₂
 | _,_,.nil,_=>.nil
 | _,_,.cons r t,f=>.cons (f _ _ r) (Paired.Nh t f)
theorem BR.E4 (x:BR P w H h a o) (k:∀b u,(b=a\/H b=some (.Cq a))->h.get? b=some u->h'.get? b=some u)
  (ho:∀b,H b=some (.Cq a)->H' b=some (.Cq a)) (ht:∀b xs,H b=some (.AH xs)->H' b=some (.AH xs)):BR P w H' h' a o:=by
 induction o with
 | AN xs=>obtain⟨z,its,n,r,e⟩:=x; exact⟨z,its,n,r,k _ _ (.inl rfl) e⟩
 | AH xs=>obtain⟨z,its,r,⟨ob,e,c⟩,ob2,e2,c2⟩:=x; exact⟨z,its,r,⟨ob,k _ _ (.inl rfl) e,c⟩,ob2,k _ _ (.inl rfl) e2,c2⟩
 | dK kvs=>obtain⟨z,y,vs,r,ob,es,ep,e,c⟩:=x; exact⟨z,y,vs,r,ob,es,ep,k _ _ (.inl rfl) e,c⟩
 | dT kvs =>
  obtain⟨z,y,xs,r,ob,es,ep,e,c⟩:=x;exact⟨z,y,xs,Paired.Nh r λp q z=>⟨z.1,ht _ _ z.2.1,z.2.2⟩,ob,es,ep,k _ _ (.inl rfl) e,c⟩
 | set S n=>obtain⟨ob,es,ep,t,e,c⟩:=x; exact⟨ob,es,ep,t,k _ _ (.inl rfl) e,c⟩
 | Az C dx fs =>
  obtain⟨d,z,ne,e,mA,⟨od,es,ep,e2,c⟩,r⟩:=x;exact⟨ho _ d,z,ne,k _ _ (.inl rfl) e,mA,⟨od,es,ep,k _ _ (.inr d) e2,c⟩,r⟩
 | Cq y=>obtain⟨ob,e⟩:=x; exact⟨ob,k _ _ (.inl rfl) e⟩
 | xd fs=>obtain⟨mA,⟨od,es,ep,e,c⟩,r⟩:=x; exact⟨mA,⟨od,es,ep,k _ _ (.inl rfl) e,c⟩,r⟩
 | Lp lo hi=>obtain⟨t,u,v,e⟩:=x; exact⟨t,u,v,k _ _ (.inl rfl) e⟩
 | Df ob u ih=>obtain⟨e,q⟩:=x; exact⟨k _ _ (.inl rfl) e,ih q⟩
 | HF ps =>
  have e:h.get? a=some { cls:=.none,data:=.fields ps }:=x;show h'.get? a=some { cls:=.none,data:=.fields ps };exact k a _ (.inl rfl) e
 | Lo f y =>
  have e:h.get? a=some (PySem.W.methodObj (.ref f) (.ref y)):=x;show h'.get? a=some (PySem.W.methodObj (.ref f) (.ref y));exact k a _ (.inl rfl) e
 | ext φ=>obtain⟨p,⟨o,e⟩,st⟩:=x; exact⟨st _ _ p λo q=>k _ _ (.inl rfl) q,⟨o,k _ _ (.inl rfl) e⟩,st⟩
theorem BS.lt(x:BS P w H h)(e:H a=some o):a<h.objs.size:=(x a o e).lt
theorem BS.fresh(x:BS P w H h)(e:h.objs.size<=a):H a=none:=by
 cases q:H a with
 | none=>rfl
 | some u=>exact absurd (Nat.lt_of_lt_of_le (x.lt q) e) (Nat.lt_irrefl _)
theorem BS.CK(x:BS P w H h)(k:∀b u,h.get? b=some u->h'.get? b=some u):BS P w H h':=λa o e =>
 (x a o e).E4 (λb u _ q=>k b u q) (λ_ q=>q) λ_ _ q=>q
theorem BS.laid(x:BS P w H h)(k:∀b u,h.get? b=some u->h'.get? b=some u)(hp:h.objs.size<=a)(new:BR P w (AK H a o) h' a o):BS P w (AK H a o) h':=λb u e=>by
 have hn:=x.fresh hp;by_cases hb:b=a
 ·subst hb; rw[AX] at e; cases e; exact new
 ·rw[An hb] at e;exact(x b u e).E4 (λc v _ q=>k c v q) (λc q=>by rw[An (A5 q hn)]; exact q) λc xs q=>by rw[An (A5 q hn)]; exact q
end
def Rd(H:Hp)(a:Addr)(u:HO):Prop:=H a=some u\/∃o,H a=some (.Df o u)
theorem Rd.of{H:Hp}{a:Addr}{u:HO}(h:H a=some u):Rd H a u:=.inl h
theorem Rd.ok{P:Program}{w:World}{H:Hp}{h:Heap}{a:Addr}{u:HO}(r:Rd H a u)(x:BS P w H h):BR P w H h a u:=by
 rcases r with r | ⟨o,r⟩
 ·exact x a u r
 ·obtain⟨_,q⟩:=x a _ r;exact q
def J5:Option HO->Prop
 | some (.AN _)=>True
 | some (.dK _)=>True
 | some (.dT _)=>True
 | some (.set _ _)=>True
 | some (.Az _ _ _)=>True
 | some (.ext _)=>True
 | _=>False
section
variable {P:Program} {w:World} {H:Hp} {h h':Heap} {x e:Addr} {o':HO}
theorem BS.Gg (ok:BS P w H h) (mu:J5 (H x)) (he:e=x\/H e=some (.Cq x)) (k:∀b u,b≠e->h.get? b=some u->h'.get? b=some u) (heo:∃u,h'.get? e=some u)
  (new:BR P w (AK H x o') h' x o'):BS P w (AK H x o') h':=λb u q=>by
 have nown:∀c y,H c=some (.Cq y)->c≠x:=λc y r z=>by subst z; rw[r] at mu; exact mu
 have ntup:∀c xs,H c=some (.AH xs)->c≠x:=λc xs r z=>by subst z; rw[r] at mu; exact mu
 by_cases hb:b=x
 ·subst hb; rw[AX] at q; cases q; exact new
 ·rw[An hb] at q;by_cases hbe:b=e
  ·have q':H b=some (.Cq x):=by
    rcases he with z | z
    ·exact absurd (hbe.trans z) hb
    ·rw[hbe]; exact z
   rw[q] at q'; cases q';obtain⟨v,hv⟩:=heo;exact⟨v,by rw[hbe]; exact hv⟩
  ·refine(ok b u q).E4 (λc v hc r=>k c v ?_ r) (λc r=>by rw[An (nown c b r)]; exact r) λc xs r=>by rw[An (ntup c xs r)]; exact r
   rcases hc with rfl | hc
   ·exact hbe
   ·rintro rfl;rcases he with z | z
    ·exact nown c b hc z
    ·rw[hc] at z; cases z; exact hb rfl
end
structure Un(fs ex:List Addr)(H H':Hp)(h h':Heap):Prop where
 keep:∀b o,h.get? b=some o->H b=none->b∉fs->b∉ex->h'.get? b=some o
 slot:∀b o,h.get? b=some o->H b=none->b∈fs->b∉ex->∃sl,h'.get? b=some { o with slots:=sl }
 free:∀b o,h.get? b=some o->H b=none->b∉ex->H' b=none
 there:∀b o,h.get? b=some o->b∉ex->∃o',h'.get? b=some o'
 tups:∀b xs,H b=some (.AH xs)->H' b=some (.AH xs)
 frzs:∀b o u,H b=some (.Df o u)->H' b=some (.Df o u)
 tbls:∀b ps,H b=some (.HF ps)->∃more,H' b=some (.HF (ps++more))
section
variable {fs fs' ex ex':List Addr} {H H1 H2:Hp} {h h1 h2 h':Heap} {a x e:Addr} {o:HO}
theorem Un.any(u:Un fs ex H H1 h h1){b:Addr}{ob:Obj}(q:h.get? b=some ob)(n:H b=none)(hx:b∉ex):∃sl,h1.get? b=some { ob with slots:=sl }:=by
 by_cases hb:b∈fs
 ·exact u.slot b ob q n hb hx
 ·exact⟨ob.slots,u.keep b ob q n hb hx⟩
theorem Un.trans(a:Un fs ex H H1 h h1)(b:Un fs ex H1 H2 h1 h2):Un fs ex H H2 h h2 where
 keep:=λc ob q n hc hx=>b.keep c ob (a.keep c ob q n hc hx) (a.free c ob q n hx) hc hx
 slot:=λc ob q n hc hx=>by
  obtain⟨sl,e1⟩:=a.slot c ob q n hc hx;obtain⟨sl',e2⟩:=b.slot c _ e1 (a.free c ob q n hx) hc hx;exact⟨sl',e2⟩
 free:=λc ob q n hx=>by
  obtain⟨o',e1⟩:=a.there c ob q hx;exact b.free c o' e1 (a.free c ob q n hx) hx
 there:=λc ob q hx=>by
  obtain⟨o',e1⟩:=a.there c ob q hx;exact b.there c o' e1 hx
 tups:=λc xs q=>b.tups c xs (a.tups c xs q)
 frzs:=λc ob xs q=>b.frzs c ob xs (a.frzs c ob xs q)
 tbls:=λc ps q=>by
  obtain⟨m1,e1⟩:=a.tbls c ps q;obtain⟨m2,e2⟩:=b.tbls c _ e1;exact⟨m1++m2,by rw[e2,Array.append_assoc]⟩
theorem Un.CK(k:∀b u,h.get? b=some u->h'.get? b=some u):Un fs ex H H h h' :=
 ⟨λb ob q _ _ _=>k b ob q,λb ob q _ _ _=>⟨ob.slots,k b ob q⟩,λ_ _ _ n _=>n,λb ob q _=>⟨ob,k b ob q⟩,λ_ _ q=>q,λ_ _ _ q=>q,λ_ ps q=>⟨#[],by rw[q]; simp⟩⟩
theorem Un.refl:Un fs ex H H h h:=Un.CK λ_ _ q=>q
theorem Un.laid(k:∀b u,h.get? b=some u->h'.get? b=some u)(hp:h.objs.size<=a)(hn:H a=none):Un fs ex H (AK H a o) h h' where
 keep:=λb u q _ _ _=>k b u q
 slot:=λb u q _ _ _=>⟨u.slots,k b u q⟩
 free:=λb u q n _=>by rw[An (Nat.ne_of_lt (Nat.lt_of_lt_of_le (Heap.lt_size q) hp))]; exact n
 there:=λb u q _=>⟨u,k b u q⟩
 tups:=λb xs q=>by rw[An (A5 q hn)]; exact q
 frzs:=λb u xs q=>by rw[An (A5 q hn)]; exact q
 tbls:=λb ps q=>⟨#[],by rw[An (A5 q hn),q]; simp⟩
theorem Un.Gg(mu:J5 (H x))(he:e=x\/H e=some (.Cq x))(k:∀b u,b≠e->h.get? b=some u->h'.get? b=some u)(heo:∃u,h'.get? e=some u):Un fs ex H (AK H x o) h h':=by
 have hx:∀b,H b=none->b≠x:=λb n z=>by subst z; rw[n] at mu; exact mu
 have hb:∀b,H b=none->b≠e:=λb n z=>by
  subst z;rcases he with r | r
  ·exact hx b n r
  ·rw[n] at r; cases r
 have hm:∀b u,H b=some u->¬J5 (some u)->b≠x:=λb u q nm z=>by subst z; rw[q] at mu; exact nm mu
 refine⟨λb u q n _ _=>k b u (hb b n) q,λb u q n _ _=>⟨u.slots,k b u (hb b n) q⟩,λb u q n _=>by rw[An (hx b n)]; exact n,λb u q _=>?_,
  λb xs q=>by rw[An (hm b _ q λz=>z)]; exact q,λb u xs q=>by rw[An (hm b _ q λz=>z)]; exact q,λb ps q=>⟨#[],by rw[An (hm b _ q λz=>z),q]; simp⟩⟩
 by_cases hbe:b=e
 ·subst hbe; exact heo
 ·exact⟨u,k b u hbe q⟩
theorem Un.mono(u:Un fs ex H H1 h h1)(hs:∀b∈fs,b∈fs')(hx:∀b∈ex,b∈ex'):Un fs' ex' H H1 h h1 :=
 ⟨λb ob q n hb he=>u.keep b ob q n (λz=>hb (hs b z)) λz=>he (hx b z),λ_ _ q n _ he=>u.any q n λz=>he (hx _ z),λb ob q n he=>u.free b ob q n λz=>he (hx b z),λb ob q he=>u.there b ob q λz=>he (hx b z),u.tups,u.frzs,u.tbls⟩
end
def L4(h:Heap)(H:Hp):List Addr:=(List.range h.objs.size).filter λa=>(H a).isSome
def Fx(h:Heap)(H:Hp):Heap:=PySem.W.hideAll h (L4 h H)
theorem Uk(h:Heap)(H:Hp):(Fx h H).objs.size=h.objs.size:=PySem.W.hideAll_size _ _
theorem V0{h:Heap}{H:Hp}{b:Addr}{o:Obj}(e:h.get? b=some o)(n:H b=none):(Fx h H).get? b=some o :=
 PySem.W.hideAll_get _ e λhm=>by
  have q:(H b).isSome=true:=(List.mem_filter.mp hm).2;rw[n] at q; simp at q
theorem Xh{h:Heap}{H:Hp}{b:Addr}{o:Obj}(e:(Fx h H).get? b=some o):h.get? b=some o/\H b=none:=by
 have e':h.get? b=some o:=PySem.W.of_hideAll (L4 h H) e;refine⟨e',?_⟩;cases q:H b with
 | none=>rfl
 | some x =>
  have hm:b∈L4 h H:=List.mem_filter.mpr ⟨List.mem_range.mpr (Heap.lt_size e'),by simp[q]⟩;have z:(Fx h H).get? b=none:=PySem.W.hideAll_none (L4 h H) hm;rw[z] at e; cases e
def XD(g h:Heap)(L:Addr):List (Addr×Obj):=(List.range h.objs.size).filterMap λa=>if a=L\/(g.get? a).isSome=true then none else (h.get? a).map λo=>(a,o)
def rest(g h:Heap)(L d:Addr):List (Addr×Obj):=(XD g h L).filter λp=>decide (p.1≠d)
structure Mod(K:PySem.W.Frag)(mg:Str->Option Value)(base:Heap):Prop where
 Dg:K.In base
 FT:base.Ns mainGlobals mg
 Hi:∃mb,base.Ns builtinsNs mb/\∀x:Str,x≠"__name__"->mb x=bootBuiltins x
 nolimit:base.NoLimit
structure Cx where
 prog:Program
 w:World
 K:PySem.W.Frag
 mg:Str->Option Value
 base:Heap
 A:Around
 N:List Str
 s₀:Shared
 H₀:Hp
 env:Env
 outer:List Env
 stack:List Env
 ex:List Addr
 fn:Str->Bool
 By:Bool
 pn:List (Addr×Obj)
 xe:Value->Shared->Prop
def BP(l:List Env):List Addr:=l.filterMap (·.frame)
abbrev Cx.fs(X:Cx):List Addr:=BP X.outer
def OA(sc:Scope)(x:Str):Prop:=sc.names.lookup x=some .local\/sc.names.lookup x=some .cell\/sc.names.lookup x=some .free
def Hg(sc:Scope)(x:Str):Prop:=sc.names.lookup x=some .local\/sc.names.lookup x=some .cell
def Cn(env:Env)(h:Heap)(m:Str->Option Value)(x:Str)(u:Value):Prop :=
 (env.kindOf x=some .local/\m x=some u)\/((env.kindOf x=some .cell\/env.kindOf x=some .free)/\∃c,env.cells.lookup x=some c/\h.IsCell c (some u))
structure Cx.Ok(X:Cx):Prop where
 BY:Mod X.K X.mg X.base
 kind:X.env.scope.kind=.function
 FT:X.env.globals=mainGlobals
 Hi:X.env.builtins=builtinsNs
 above:X.s₀.heap.objs.size<=X.env.locals
 inj:∀x y c,X.env.cells.lookup x=some c->X.env.cells.lookup y=some c->x=y
 has:∀x,(X.env.kindOf x=some .cell\/X.env.kindOf x=some .free)->∃c,X.env.cells.lookup x=some c
 Ig:∀x c,X.fn x=true->X.env.cells.lookup x=some c->X.s₀.heap.objs.size<=c
 hd:X.By=true->X.A.handled=none
 frames:X.A.frames=some X.stack
 Jw:X.stack=X.outer\/(X.stack=X.env :: X.outer/\X.env.frame=some X.env.locals)
 OE:∀b∈X.ex,b≠X.env.locals/\∀x c,X.env.cells.lookup x=some c->c≠b
 bs:∀b o,X.base.get? b=some o->X.s₀.heap.get? b=some o/\X.H₀ b=none
 E9:X.base.objs.size<=X.s₀.heap.objs.size
 IU:∀b o,X.base.get? b=some o->b∉X.ex
 IL:∀b∈X.ex,b∉X.fs
 DH:X.s₀.heap.FunFrames X.base X.outer
 FC:∀b∈X.fs,X.H₀ b=none
structure AL(X:Cx)(pins:List (Addr×Obj))(σ:List (Option V))(H:Hp)(s:Shared):Prop where
 ok:X.Ok
 os:s.os=X.s₀.os
 bare:AllBare s.gens
 base:Un X.fs X.ex X.H₀ H X.s₀.heap s.heap
 Cv:∃m,s.heap.Ns X.env.locals m/\∀(i:Nat) (x:Str) (v:V),X.N[i]?=some x->σ[i]?=some (some v)->OA X.env.scope x->∃u,Av v u/\Cn X.env s.heap m x u
 cell:∀x c,X.env.cells.lookup x=some c->∃v,s.heap.IsCell c v
 free:H X.env.locals=none
 Dr:∀x c,X.env.cells.lookup x=some c->H c=none
 Ct:∀p∈X.pn++pins,s.heap.get? p.1=some p.2/\H p.1=none/\p.1≠X.env.locals/\p.1∉X.fs/\∀v,p.2.data≠.cell v
 hok:BS X.prog X.w H s.heap
 len:σ.length=X.N.length
section
variable {X:Cx} {pins:List (Addr×Obj)} {σ:List (Option V)} {H H':Hp} {s:Shared} {h':Heap}
theorem Cx.Ok.aL(ok:X.Ok){b:Addr}{o:Obj}(e:X.base.get? b=some o):b∉X.fs:=λhb=>by
 have:=(ok.DH.mem hb).1
 rw[e] at this; cases this
theorem AL.bs(I:AL X pins σ H s):∀b o,X.base.get? b=some o->s.heap.get? b=some o/\H b=none:=λb o e =>
 ⟨I.base.keep b o (I.ok.bs b o e).1 (I.ok.bs b o e).2 (I.ok.aL e) (I.ok.IU b o e),I.base.free b o (I.ok.bs b o e).1 (I.ok.bs b o e).2 (I.ok.IU b o e)⟩
theorem AL.bk(I:AL X pins σ H s):∀b o,X.base.get? b=some o->s.heap.get? b=some o:=λb o e=>(I.bs b o e).1
theorem AL.BY(I:AL X pins σ H s):Mod X.K X.mg X.base:=I.ok.BY
theorem AL.BF(I:AL X pins σ H s):X.K.In s.heap:=I.ok.BY.Dg.keeps I.bk
theorem AL.nolimit(I:AL X pins σ H s):s.heap.NoLimit:=I.ok.BY.nolimit.keeps I.bk
theorem AL.lt(I:AL X pins σ H s):X.env.locals<s.heap.objs.size:=let ⟨_,hn,_⟩:=I.Cv; hn.lt
theorem AL.sz(I:AL X pins σ H s):X.s₀.heap.objs.size<=s.heap.objs.size:=Nat.le_trans I.ok.above (Nat.le_of_lt I.lt)
theorem AL.aG(I:AL X pins σ H s){a:Addr}(h:s.heap.objs.size<=a):a∉X.fs:=λhb=>by
 obtain⟨_,o,ho,_⟩:=I.ok.DH.mem hb;exact absurd (Nat.lt_of_lt_of_le (Heap.lt_size ho) (Nat.le_trans I.sz h)) (Nat.lt_irrefl _)
theorem AL.cne(I:AL X pins σ H s):∀x c,X.env.cells.lookup x=some c->c≠X.env.locals:=λx c e z=>by
 obtain⟨v,o,ho,hd⟩:=I.cell x c e;obtain⟨m,⟨o',es,ep,ho',hd',_⟩,_⟩:=I.Cv;rw[z,ho'] at ho; cases ho; rw[hd'] at hd; cases hd
theorem AL.DH(I:AL X pins σ H s):s.heap.FunFrames X.base X.outer:=by
 have all:∀(l:List Env),(∀b∈BP l,b∈X.fs)->X.s₀.heap.FunFrames X.base l->s.heap.FunFrames X.base l:=by
  intro l
  induction l with
  | nil=>intro _ _; trivial
  | cons env r ih =>
   intro hs hl;obtain⟨hk,⟨L,o,hf,hn,ho,hd⟩,hr⟩:=hl;have hL:L∈X.fs:=hs L (by unfold BP; rw[List.filterMap_cons,hf]; exact List.mem_cons_self);obtain⟨sl,e⟩:=I.base.slot L o ho (I.ok.FC L hL) hL λz=>I.ok.IL L z hL
   exact⟨hk,⟨L,_,hf,hn,e,hd⟩,ih (λb hb=>hs b (by unfold BP; rw[List.filterMap_cons,hf]; exact List.mem_cons_of_mem _ hb)) hr⟩
 exact all X.outer (λ_ hb=>hb) I.ok.DH
theorem AL.stack(I:AL X pins σ H s):s.heap.FunFrames X.base X.stack:=by
 rcases I.ok.Jw with e | ⟨e,hf⟩
 ·rw[e]; exact I.DH
 ·rw[e];obtain⟨m,hn,_⟩:=I.Cv;refine .cons (by rw[I.ok.kind]; decide) hf hn ?_ I.DH;exact Heap.get?_none_of_le (Nat.le_trans I.ok.E9 I.ok.above)
theorem AL.IA(I:AL X pins σ H s):∀b∈BP X.stack,b∈X.env.locals :: X.fs:=λb hb=>by
 rcases I.ok.Jw with e | ⟨e,hf⟩
 ·rw[e] at hb; exact List.mem_cons_of_mem _ hb
 ·rw[e] at hb;unfold BP at hb;rw[List.filterMap_cons,hf] at hb;exact hb
theorem AL.Kc(I:AL X pins σ H s):∀b∈BP X.stack,H b=none:=λb hb=>by
 rcases List.mem_cons.mp (I.IA b hb) with e | hb
 ·rw[e]; exact I.free
 ·obtain⟨_,o,ho,_⟩:=I.ok.DH.mem hb;exact I.base.free b o ho (I.ok.FC b hb) λz=>I.ok.IL b z hb
theorem AL.step {g':Array GenState} {t':Nat} {d':Drawn} {ch:List Addr} (I:AL X pins σ H s)
  (hch:∀b∈ch,(b∈X.ex\/X.s₀.heap.objs.size<=b)/\b≠X.env.locals/\(∀x c,X.env.cells.lookup x=some c->c≠b)/\∀p∈X.pn++pins,p.1≠b)
  (keep:∀b o,b≠X.env.locals->b∉X.fs->b∉ch->s.heap.get? b=some o->H b=none->h'.get? b=some o)
  (slot:∀b o,b≠X.env.locals->b∈X.fs->b∉ch->s.heap.get? b=some o->H b=none->∃sl,h'.get? b=some { o with slots:=sl }) (free:∀b o,b∉ch->s.heap.get? b=some o->H b=none->H' b=none)
  (there:∀b o,b∉ch->s.heap.get? b=some o->∃o',h'.get? b=some o')
  (tups:∀b xs,H b=some (.AH xs)->H' b=some (.AH xs)) (frzs:∀b o u,H b=some (.Df o u)->H' b=some (.Df o u)) (tbls:∀b ps,H b=some (.HF ps)->∃more,H' b=some (.HF (ps++more)))
  (ns:∀m,s.heap.Ns X.env.locals m->h'.Ns X.env.locals m) (hok:BS X.prog X.w H' h') (hg:AllBare g') :
  AL X pins σ H' { s with heap:=h',gens:=g',drawn:=d',toks:=t' }:=by
 have neL:∀b o,X.s₀.heap.get? b=some o->b≠X.env.locals:=λb o e=>Nat.ne_of_lt (Nat.lt_of_lt_of_le (Heap.lt_size e) I.ok.above)
 have neC:∀b o,X.s₀.heap.get? b=some o->b∉X.ex->b∉ch:=λb o e hx hb=>by
  rcases(hch b hb).1 with z | z
  ·exact hx z
  ·exact absurd (Nat.lt_of_lt_of_le (Heap.lt_size e) z) (Nat.lt_irrefl _)
 have cellK:∀x c,X.env.cells.lookup x=some c->∀v,s.heap.IsCell c v->h'.IsCell c v:=λx c e v ⟨o,ho,hd⟩=>by
  have nch:c∉ch:=λz=>(hch c z).2.2.1 x c e rfl
  by_cases hc:c∈X.fs
  ·obtain⟨sl,q⟩:=slot c o (I.cne x c e) hc nch ho (I.Dr x c e);exact⟨_,q,hd⟩
  ·exact⟨o,keep c o (I.cne x c e) hc nch ho (I.Dr x c e),hd⟩
 refine⟨I.ok,I.os,hg,⟨λb o e n hb hx=>?_,λb o e n hb hx=>?_,λb o e n hx=>?_,λb o e hx=>?_,λb xs e=>tups b xs (I.base.tups b xs e),λb o xs e=>frzs b o xs (I.base.frzs b o xs e),λb ps e=>?_⟩,?_,λx c e=>?_,?_,λx c e=>?_,λp hp=>?_,hok,I.len⟩
 ·exact keep b o (neL b o e) hb (neC b o e hx) (I.base.keep b o e n hb hx) (I.base.free b o e n hx)
 ·obtain⟨sl,e1⟩:=I.base.slot b o e n hb hx;obtain⟨sl',e2⟩:=slot b _ (neL b o e) hb (neC b o e hx) e1 (I.base.free b o e n hx);exact⟨sl',e2⟩
 ·obtain⟨o',e1⟩:=I.base.there b o e hx;exact free b o' (neC b o e hx) e1 (I.base.free b o e n hx)
 ·obtain⟨o',e1⟩:=I.base.there b o e hx;exact there b o' (neC b o e hx) e1
 ·obtain⟨m1,e1⟩:=I.base.tbls b ps e;obtain⟨m2,e2⟩:=tbls b _ e1;exact⟨m1++m2,by rw[e2,Array.append_assoc]⟩
 ·obtain⟨m,hn,hl⟩:=I.Cv;refine⟨m,ns m hn,λi x v e1 e2 e3=>?_⟩;obtain⟨u,r,l⟩:=hl i x v e1 e2 e3;refine⟨u,r,?_⟩;rcases l with l | ⟨k,c,e,z⟩
  ·exact .inl l
  ·exact .inr ⟨k,c,e,cellK x c e _ z⟩
 ·obtain⟨v,z⟩:=I.cell x c e;exact⟨v,cellK x c e v z⟩
 ·obtain⟨m,⟨o,_,_,ho,_⟩,_⟩:=I.Cv;exact free _ o (λz=>(hch _ z).2.1 rfl) ho I.free
 ·obtain⟨v,o,ho,hd⟩:=I.cell x c e;exact free c o (λz=>(hch c z).2.2.1 x c e rfl) ho (I.Dr x c e)
 ·obtain⟨e,n,ne,nf,d⟩:=I.Ct p hp;have nch:p.1∉ch:=λz=>(hch p.1 z).2.2.2 p hp rfl
  exact⟨keep p.1 p.2 ne nf nch e n,free p.1 p.2 nch e n,ne,nf,d⟩
theorem AL.un{t':Nat}(I:AL X pins σ H s)(u:Un X.fs [] H H' s.heap h')(hok:BS X.prog X.w H' h'):AL X pins σ H' { s with heap:=h',toks:=t' }:=by
 obtain⟨m,⟨o,es,ep,ho,r⟩,_⟩:=id I.Cv;obtain⟨sl,hL⟩:=u.any ho I.free (by simp);exact I.step (g':=s.gens) (d':=s.drawn) (ch:=[]) (λ_ z=>nomatch z) (λb o _ hb _ e n=>u.keep b o e n hb (by simp)) (λb o _ hb _ e n=>u.slot b o e n hb (by simp)) (λb o _ e n=>u.free b o e n (by simp)) (λb o _ e=>u.there b o e (by simp)) u.tups u.frzs u.tbls (λm' hm=>by
  obtain⟨o',es',ep',ho',r'⟩:=hm;rw[ho] at ho'; cases ho';exact⟨_,es',ep',hL,r'⟩) hok I.bare
theorem AL.call {g':Array GenState} {t':Nat} {d':Drawn} {ch:List Addr} (I:AL X pins σ H s) (u:Un (BP X.stack) ch H H' s.heap h') (hok:BS X.prog X.w H' h') (hg:AllBare g')
  (hch:∀b∈ch,(b∈X.ex\/X.s₀.heap.objs.size<=b)/\b≠X.env.locals/\(∀x c,X.env.cells.lookup x=some c->c≠b)/\∀p∈X.pn++pins,p.1≠b) :
  AL X pins σ H' { s with heap:=h',gens:=g',drawn:=d',toks:=t' }:=by
 obtain⟨m,⟨o,es,ep,ho,r⟩,_⟩:=id I.Cv;obtain⟨sl,hL⟩:=u.any ho I.free λz=>(hch _ z).2.1 rfl
 exact I.step (ch:=ch) hch (λb o hL hb hc e n=>u.keep b o e n (λz=>(List.mem_cons.mp (I.IA b z)).elim hL hb) hc) (λb o _ _ hc e n=>u.any e n hc) (λb o hc e n=>u.free b o e n hc) (λb o hc e=>u.there b o e hc) u.tups u.frzs u.tbls (λm' hm=>by
  obtain⟨o',es',ep',ho',r'⟩:=hm;rw[ho] at ho'; cases ho';exact⟨_,es',ep',hL,r'⟩) hok hg
theorem AL.FN {t':Nat} {it:Addr} (I:AL X pins σ H s) (k:∀b o,b≠it->s.heap.get? b=some o->h'.get? b=some o) (hn:H it=none) (hL:it≠X.env.locals)
  (h1:it∈X.ex\/X.s₀.heap.objs.size<=it) (h2:∀x c,X.env.cells.lookup x=some c->c≠it) (h3:∀p∈X.pn++pins,p.1≠it):AL X pins σ H { s with heap:=h',toks:=t' }:=by
 have nit:∀b u,H b=some u->b≠it:=λb u e z=>by rw[z,hn] at e; cases e
 refine I.step (g':=s.gens) (d':=s.drawn) (ch:=[it]) (λb hb=>?_) (λb o _ _ hc e _=>k b o (λz=>hc (by simp[z])) e) (λb o _ _ hc e _=>⟨o.slots,k b o (λz=>hc (by simp[z])) e⟩) (λ_ _ _ _ n=>n)
  (λb o hc e=>⟨o,k b o (λz=>hc (by simp[z])) e⟩) (λ_ _ e=>e) (λ_ _ _ e=>e) (λb ps e=>⟨#[],by rw[e]; simp⟩) (λm hm=>?_) (λb u e=>?_) I.bare
 ·have e:b=it:=by simpa using hb
  subst e;exact⟨h1,hL,h2,h3⟩
 ·obtain⟨o,es,ep,ho,r⟩:=hm;exact⟨o,es,ep,k _ o (Ne.symm hL) ho,r⟩
 ·refine(I.hok b u e).E4 (λc v hc q=>k c v ?_ q) (λ_ q=>q) λ_ _ q=>q
  rcases hc with z | z
  ·rw[z]; exact nit b u e
  ·exact nit c _ z
theorem AL.DR(I:AL X pins σ H s)(t:Nat):AL X pins σ H { s with toks:=t }:=I.un (h':=s.heap) (t':=t) Un.refl I.hok
theorem AL.CK{t':Nat}(I:AL X pins σ H s)(k:∀b u,s.heap.get? b=some u->h'.get? b=some u):AL X pins σ H { s with heap:=h',toks:=t' }:=I.un (Un.CK k) (I.hok.CK k)
theorem AL.laid{a:Addr}{o:HO}{t':Nat}(I:AL X pins σ H s)(k:∀b u,s.heap.get? b=some u->h'.get? b=some u)(hp:s.heap.objs.size<=a)(new:BR X.prog X.w (AK H a o) h' a o):
  AL X pins σ (AK H a o) { s with heap:=h',toks:=t' }:=I.un (Un.laid k hp (I.hok.fresh hp)) (I.hok.laid k hp new)
theorem AL.Gg {x e:Addr} {o:HO} {t':Nat} (I:AL X pins σ H s) (mu:J5 (H x)) (he:e=x\/H e=some (.Cq x)) (k:∀b u,b≠e->s.heap.get? b=some u->h'.get? b=some u) (heo:∃u,h'.get? e=some u)
  (new:BR X.prog X.w (AK H x o) h' x o):AL X pins σ (AK H x o) { s with heap:=h',toks:=t' }:=I.un (Un.Gg mu he k heo) (I.hok.Gg mu he k heo new)
theorem AL.QS{pins':List (Addr×Obj)}(I:AL X pins σ H s)(h:∀p∈pins',s.heap.get? p.1=some p.2/\H p.1=none/\p.1≠X.env.locals/\p.1∉X.fs/\∀v,p.2.data≠.cell v):AL X pins' σ H s :=
 ⟨I.ok,I.os,I.bare,I.base,I.Cv,I.cell,I.free,I.Dr,λp hp=>(List.mem_append.mp hp).elim (λz=>I.Ct p (List.mem_append_left _ z)) (h p),I.hok,I.len⟩
theorem MO{N:List Str}(hN:N.Nodup){i j:Nat}{x:Str}(a:N[i]?=some x)(b:N[j]?=some x):i=j:=by
 obtain⟨h1,e1⟩:=List.getElem?_eq_some_iff.mp a;obtain⟨h2,e2⟩:=List.getElem?_eq_some_iff.mp b;exact(List.getElem_inj hN).mp (e1.trans e2.symm)
theorem Ox {M:Model} {A:Around} {E:Value->Shared->Prop} {i:Nat} {x:Str} {v:V} {u:Value} {Q:Unit->Shared->Prop} (I:AL X pins σ H s) (hN:X.N.Nodup) (hi:X.N[i]?=some x) (hx:Hg X.env.scope x) (r:Av v u)
  (h:∀s',AL X pins (σ.set i (some v)) H s'->(∃a,Heap.SameBut a s.heap s'.heap/\(a=X.env.locals\/X.env.cells.lookup x=some a))->Q () s') (hf:X.fn x=true\/X.env.scope.names.lookup x=some .local:=by first | exact .inl rfl | exact .inr rfl | assumption):wpAny M A (storeName X.env x u) Q E s:=by
 obtain⟨m,hn,hl⟩:=id I.Cv;have hcls:(X.env.scope.kind == .class || (X.env.scope.kind == .module && X.env.locals != X.env.globals))=false:=by rw[I.ok.kind]; rfl
 have hiσ:i<σ.length:=by rw[I.len]; exact(List.getElem?_eq_some_iff.mp hi).1
 have cne:=I.cne;have tracked:∀{a:Addr} {h':Heap},(∃o,s.heap.get? a=some o/\H a=none)->Heap.SameBut a s.heap h'->BS X.prog X.w H h':=λ{a h'} ha hs b ob e=>by
  obtain⟨_,_,hfree⟩:=ha;refine(I.hok b ob e).E4 (λc w' hc q=>(hs.2 c ?_).trans q) (λ_ q=>q) λ_ _ q=>q
  rintro rfl;rcases hc with rfl | hc
  ·rw[hfree] at e; cases e
  ·rw[hfree] at hc; cases hc
 rcases hx with hk | hk
 ·refine wpAny_storeName_local hk hn (λh' hn' hs=>?_) hcls;obtain⟨oL,_,_,hoL,_⟩:=id hn;refine h _ ⟨I.ok,I.os,I.bare,⟨λb o e n hb hx=>?_,λb o e n hb hx=>?_,I.base.free,λb o e hx=>?_,I.base.tups,I.base.frzs,I.base.tbls⟩,⟨_,hn',λj y v' e1 e2 e3=>?_⟩,λy c e=>?_,I.free,I.Dr,λp hp=>?_,tracked ⟨oL,hoL,I.free⟩ hs,by simpa using I.len⟩ ⟨_,hs,.inl rfl⟩
  ·exact(hs.2 b (Nat.ne_of_lt (Nat.lt_of_lt_of_le (Heap.lt_size e) I.ok.above))).trans (I.base.keep b o e n hb hx)
  ·obtain⟨sl,e1⟩:=I.base.slot b o e n hb hx;exact⟨sl,(hs.2 b (Nat.ne_of_lt (Nat.lt_of_lt_of_le (Heap.lt_size e) I.ok.above))).trans e1⟩
  ·obtain⟨o',e1⟩:=I.base.there b o e hx;exact⟨o',(hs.2 b (Nat.ne_of_lt (Nat.lt_of_lt_of_le (Heap.lt_size e) I.ok.above))).trans e1⟩
  ·by_cases hj:j=i
   ·subst hj;rw[hi] at e1; cases e1;rw[List.getElem?_set_self hiσ] at e2;cases e2;exact⟨u,r,.inl ⟨hk,by simp⟩⟩
   ·rw[List.getElem?_set_ne (Ne.symm hj)] at e2;obtain⟨u',r',q⟩:=hl j y v' e1 e2 e3;refine⟨u',r',?_⟩;rcases q with ⟨k,e⟩ | ⟨k,c,e,z⟩
    ·refine .inl ⟨k,?_⟩
     have:y≠x:=λe=>hj (MO hN e1 (e ▸ hi))
     simp[this,e]
    ·exact .inr ⟨k,c,e,z.sameBut hs (cne y c e)⟩
  ·obtain⟨w',z⟩:=I.cell y c e;exact⟨w',z.sameBut hs (cne y c e)⟩
  ·obtain⟨e,n,ne,nf,d⟩:=I.Ct p hp;exact⟨(hs.2 p.1 ne).trans e,n,ne,nf,d⟩
 ·have hfn:X.fn x=true:=by
   rcases hf with z | z
   ·exact z
   ·rw[z] at hk; cases hk
  obtain⟨c,hc⟩:=I.ok.has x (.inl hk);obtain⟨w',z⟩:=I.cell x c hc;refine wpAny_storeName_cell I.ok.kind hk hc z (λh' hc' hs=>?_);obtain⟨oc,hoc,hocd⟩:=id z;refine h { s with heap:=h' } ⟨I.ok,I.os,I.bare,⟨λb o e n hb hx=>?_,λb o e n hb hx=>?_,I.base.free,λb o e hx=>?_,I.base.tups,I.base.frzs,I.base.tbls⟩,⟨m,hn.sameBut hs (Ne.symm (cne x c hc)),λj y v' e1 e2 e3=>?_⟩,λy c' e=>?_,I.free,I.Dr,λp hp=>?_,tracked ⟨oc,hoc,I.Dr x c hc⟩ hs,by simpa using I.len⟩ ⟨c,hs,.inr hc⟩
  ·exact(hs.2 b (Nat.ne_of_lt (Nat.lt_of_lt_of_le (Heap.lt_size e) (I.ok.Ig x c hfn hc)))).trans (I.base.keep b o e n hb hx)
  ·obtain⟨sl,e1⟩:=I.base.slot b o e n hb hx;exact⟨sl,(hs.2 b (Nat.ne_of_lt (Nat.lt_of_lt_of_le (Heap.lt_size e) (I.ok.Ig x c hfn hc)))).trans e1⟩
  ·obtain⟨o',e1⟩:=I.base.there b o e hx;exact⟨o',(hs.2 b (Nat.ne_of_lt (Nat.lt_of_lt_of_le (Heap.lt_size e) (I.ok.Ig x c hfn hc)))).trans e1⟩
  ·by_cases hj:j=i
   ·subst hj;rw[hi] at e1; cases e1;rw[List.getElem?_set_self hiσ] at e2;cases e2;exact⟨u,r,.inr ⟨.inl hk,c,hc,hc'⟩⟩
   ·rw[List.getElem?_set_ne (Ne.symm hj)] at e2;obtain⟨u',r',q⟩:=hl j y v' e1 e2 e3;refine⟨u',r',?_⟩;rcases q with q | ⟨k,c',e,z'⟩
    ·exact .inl q
    ·refine .inr ⟨k,c',e,z'.sameBut hs ?_⟩;rintro rfl;exact hj (MO hN e1 (I.ok.inj _ _ _ e hc ▸ hi))
  ·by_cases hcc:c'=c
   ·subst hcc; exact⟨_,hc'⟩
   ·obtain⟨w2,z2⟩:=I.cell y c' e;exact⟨w2,z2.sameBut hs hcc⟩
  ·obtain⟨e,n,ne,nf,d⟩:=I.Ct p hp;refine⟨(hs.2 p.1 ?_).trans e,n,ne,nf,d⟩;intro q;rw[q,hoc] at e;have q':oc=p.2:=Option.some.inj e;exact d w' (by rw[<-q']; exact hocd)
theorem MS {M:Model} {A:Around} {E:Value->Shared->Prop} {i:Nat} {x:Str} {v:V} {u:Value} {Q:Unit->Shared->Prop} (I:AL X pins σ H s) (hN:X.N.Nodup) (hi:X.N[i]?=some x) (hx:Hg X.env.scope x) (r:Av v u)
  (h:∀s',AL X pins (σ.set i (some v)) H s'->Q () s') (hf:X.fn x=true\/X.env.scope.names.lookup x=some .local:=by first | exact .inl rfl | exact .inr rfl | assumption):wpAny M A (storeName X.env x u) Q E s :=
 Ox I hN hi hx r (λs' I' _=>h s' I') hf
theorem AL.NK {s':Shared} {ch:List Addr} (I:AL X pins σ H s) (ho:s'.os=s.os) (u:Un (BP X.stack) ch H H' s.heap s'.heap) (hok:BS X.prog X.w H' s'.heap) (hg:AllBare s'.gens)
  (hch:∀b∈ch,(b∈X.ex\/X.s₀.heap.objs.size<=b)/\b≠X.env.locals/\(∀x c,X.env.cells.lookup x=some c->c≠b)/\∀p∈X.pn++pins,p.1≠b):AL X pins σ H' s':=by
 obtain⟨h',g',d',t',o'⟩:=s';have e:o'=s.os:=ho;subst e;exact I.call (g':=g') (t':=t') (d':=d') u hok hg hch
end
abbrev XK:=Value->Option Addr->Hp->Prop
abbrev St:=List (Option V)
abbrev VK:=V->Hp->Prop
abbrev TE:=St->Hp->VK->Prop
abbrev TT:=St->Hp->(Bool->Hp->Prop)->Prop
abbrev TA:=St->Hp->(List V->Hp->Prop)->Prop
structure C5 where
 nx:St->Hp->Prop
 rt:VK
 bk:St->Hp->Prop:=λ_ _=>False
 ct:St->Hp->Prop:=λ_ _=>False
abbrev TS:=C5->St->Hp->Prop
def EP(X:Cx)(pins:List (Addr×Obj))(σ:St)(Q:VK)(u:Value)(s':Shared):Prop:=∃v H',AL X pins σ H' s'/\Av v u/\Q v H'
def TP(X:Cx)(pins:List (Addr×Obj))(σ:St)(Q:Bool->Hp->Prop)(b:Bool)(s':Shared):Prop:=∃H',AL X pins σ H' s'/\Q b H'
def AP(X:Cx)(pins:List (Addr×Obj))(σ:St)(Q:List V->Hp->Prop)(us:List Value)(s':Shared):Prop:=∃vs H',AL X pins σ H' s'/\Ah vs us/\Q vs H'
def SP(X:Cx)(pins:List (Addr×Obj))(D:C5)(f:Flow)(s':Shared):Prop :=
 match f with
 | .next=>∃σ' H',AL X pins σ' H' s'/\D.nx σ' H'
 | .brk=>∃σ' H',AL X pins σ' H' s'/\D.bk σ' H'
 | .cont=>∃σ' H',AL X pins σ' H' s'/\D.ct σ' H'
 | .ret u=>∃v σ' H',AL X pins σ' H' s'/\Av v u/\D.rt v H'
def PE(X:Cx)(e:Expr)(t:TE):Prop :=
 ∀(pins:List (Addr×Obj)) (s:Shared) (σ:St) (H:Hp) (Q:VK),AL X pins σ H s->t σ H Q->wpAny (model X.prog X.w) X.A (eval e X.env) (EP X pins σ Q) X.xe s
def PT(X:Cx)(e:Expr)(t:TT):Prop :=
 ∀(pins:List (Addr×Obj)) (s:Shared) (σ:St) (H:Hp) (Q:Bool->Hp->Prop),AL X pins σ H s->t σ H Q->wpAny (model X.prog X.w) X.A (isTrue e X.env (eval e X.env)) (TP X pins σ Q) X.xe s
def PW(X:Cx)(e:Expr)(t:TT):Prop :=
 ∀(whole:Sem Value) (pins:List (Addr×Obj)) (s:Shared) (σ:St) (H:Hp) (Q:Bool->Hp->Prop),AL X pins σ H s->t σ H Q->wpAny (model X.prog X.w) X.A (isTrue e X.env whole) (TP X pins σ Q) X.xe s
theorem PW.pt{X:Cx}{e:Expr}{t:TT}(h:PW X e t):PT X e t:=h _
def PA(X:Cx)(es:List Expr)(t:TA):Prop :=
 ∀(pos:Pos) (pins:List (Addr×Obj)) (s:Shared) (σ:St) (H:Hp) (Q:List V->Hp->Prop),AL X pins σ H s->t σ H Q->wpAny (model X.prog X.w) X.A (spliced (backTo pos (starEach es X.env))) (AP X pins σ Q) X.xe s
def PS(X:Cx)(st:Stmt)(t:TS):Prop :=
 ∀(pins:List (Addr×Obj)) (s:Shared) (σ:St) (H:Hp) (D:C5),AL X pins σ H s->t D σ H->wpAny (model X.prog X.w) X.A (exec st X.env) (SP X pins D) X.xe s
def Cs(X:Cx)(st:List Stmt)(t:TS):Prop :=
 ∀(pins:List (Addr×Obj)) (s:Shared) (σ:St) (H:Hp) (D:C5),AL X pins σ H s->t D σ H->wpAny (model X.prog X.w) X.A (execs st X.env) (SP X pins D) X.xe s
theorem Aa{α:Type}{t:Sem α}{Q Q':α->Shared->Prop}{M:Model}{A:Around}{E:Value->Shared->Prop}{s:Shared}(h:wpAny M A t Q E s)(hQ:∀a s,Q a s->Q' a s):wpAny M A t Q' E s:=wpAny_mono h hQ λ_ _ x=>x
section
variable {X:Cx}
inductive SK(i:Nat)(σ:St)(H:Hp)(Q:VK):Prop
 | mk (v:V) (e:σ[i]?=some (some v)) (q:Q v H):SK i σ H Q
def Ar(i:Nat):TE:=λσ H Q=>SK i σ H Q
inductive OD(x:V)(H:Hp)(Q:Bool->Hp->Prop):Prop
 | mk (c:Bool) (e:x=.bl c) (q:Q c H):OD x H Q
def tC(v:V):TE:=λ_ H Q=>Q v H
theorem X2{i:Nat}{x:Str}{pos:Pos}(hN:X.N[i]?=some x)(hv:OA X.env.scope x)(hd:(x == ("__debug__":Str))=false:=by decide)(hcd:(x == ("__classdict__":Str))=false:=by decide):PE X (.Name x pos) (Ar i):=by
 intro pins s σ H Q I h;obtain⟨v,e,h⟩:=h;obtain⟨m,hn,hl⟩:=I.Cv;obtain⟨u,r,l⟩:=hl i x v hN e hv;have fin:EP X pins σ Q u s:=⟨v,H,I,r,h⟩;rcases l with ⟨hk,hm⟩ | ⟨hk,c,hc,hcell⟩
 ·exact wpAny_Name (wpAny_loadName_local I.ok.kind hk hn hm fin) hd
 ·rcases hk with hk | hk
  ·exact wpAny_Name (wpAny_loadName_cell I.ok.kind hk hc hcell fin) hd
  ·exact wpAny_Name (wpAny_loadName_free I.ok.kind hk hc hcell fin hcd) hd
theorem AF{i j pos}:PE X (.Constant (.int i) j pos) (tC (.int i)):=λ_ _ _ H _ I h=>wpAny_Constant_int ⟨.int i,H,I.DR _,⟨_,rfl⟩,h⟩
theorem CA{b j pos}:PE X (.Constant (.bool b) j pos) (tC (.bl b)):=λ_ _ _ H _ I h=>Constant_bool ⟨.bl b,H,I,rfl,h⟩
theorem K1{j pos}:PE X (.Constant .none j pos) (tC .Ay):=λ_ _ _ H _ I h=>Constant_none ⟨.Ay,H,I,rfl,h⟩
theorem Bk{x j pos}:PE X (.Constant (.str x) j pos) (tC (.str x)):=λ_ _ _ H _ I h=>Calls.Constant_str ⟨.str x,H,I.DR _,⟨_,rfl⟩,h⟩
def Gl(X:Cx)(x:Str):Prop:=X.env.kindOf x=some .globalImplicit
theorem JB {E:Value->Shared->Prop} {pins:List (Addr×Obj)} {s:Shared} {σ:St} {H:Hp} {x:Str} {u:Value} {pos:Pos} {Q:Value->Shared->Prop} (I:AL X pins σ H s) (hg:Gl X x) (hm:X.mg x=some u) (h:Q u s)
  (hd:(x == ("__debug__":Str))=false:=by decide):wpAny (model X.prog X.w) X.A (eval (.Name x pos) X.env) Q E s :=
 Calls.Name_function_global I.ok.kind hg (Calls.loadGlobal_global (by rw[I.ok.FT]; exact I.BY.FT.keeps I.bk) hm h) hd
theorem IB {E:Value->Shared->Prop} {pins:List (Addr×Obj)} {s:Shared} {σ:St} {H:Hp} {x:Str} {u:Value} {pos:Pos} {Q:Value->Shared->Prop} (I:AL X pins σ H s) (hg:Gl X x) (hm:X.mg x=none) (hv:bootBuiltins x=some u) (h:Q u s)
  (hn:x≠"__name__":=by decide) (hd:(x == ("__debug__":Str))=false:=by decide):wpAny (model X.prog X.w) X.A (eval (.Name x pos) X.env) Q E s:=by
 obtain⟨mb,h1,h2⟩:=I.BY.Hi;exact Calls.Name_function_global I.ok.kind hg (Calls.loadGlobal_builtin (by rw[I.ok.FT]; exact I.BY.FT.keeps I.bk) hm (by rw[I.ok.Hi]; exact h1.keeps I.bk) ((h2 x hn).trans hv) h) hd
theorem HN{x:Str}{v:V}{u:Value}{pos:Pos}(hg:Gl X x)(hm:X.mg x=some u)(r:Av v u)(hd:(x == ("__debug__":Str))=false:=by decide):PE X (.Name x pos) (tC v) :=
 λ_ _ _ H _ I h=>JB I hg hm ⟨v,H,I,r,h⟩ hd
variable {a b:Expr} {ta tb:TE} {pos:Pos}
def PC(X:Cx)(op:CmpOp)(a b:Expr)(t:TE):Prop :=
 ∀(pins:List (Addr×Obj)) (s:Shared) (σ:St) (H:Hp) (Q:VK),AL X pins σ H s->t σ H Q →
  wpAny (model X.prog X.w) X.A (eval a X.env) (λv s₁=>wpAny (model X.prog X.w) X.A (eval b X.env) (λu s₂=>wpAny (model X.prog X.w) X.A (compareOp op v u) (EP X pins σ Q) X.xe s₂) X.xe s₁) X.xe s
theorem nobehind(b:Expr){op:CmpOp}(h:op≠.In)(h2:op≠.NotIn):behindInMarks op b=false:=by
 have e1:(op == CmpOp.In)=false:=by cases op <;> first | rfl | exact absurd rfl h
 have e2:(op == CmpOp.NotIn)=false:=by cases op <;> first | rfl | exact absurd rfl h2
 cases b <;> simp[behindInMarks,e1,e2]
def aT(ta:TE):TE:=λσ H Q=>ta σ H λx H1=>Q (.bl (decide (x=.Ay))) H1
def ZS(ta:TE):TE:=λσ H Q=>ta σ H λx H1=>Q (.bl (!decide (x=.Ay))) H1
theorem Av.Pn{x:V}{v:Value}(r:Av x v):(v == Value.none)=decide (x=.Ay):=by
 cases x with
 | Ay=>cases r; rfl
 | bl _=>cases r; rfl
 | int _=>obtain⟨t,rfl⟩:=r; rfl
 | str _=>obtain⟨t,rfl⟩:=r; rfl
 | ED _=>obtain⟨t,rfl⟩:=r; rfl
 | Fe _=>obtain⟨t,rfl⟩:=r; rfl
 | ref _=>cases r; rfl
 | ty _=>cases r; rfl
theorem Q9{j pos'}(ha:PE X a ta):PC X .Is a (.Constant .none j pos') (aT ta):=by
 intro pins s σ H Q I h;refine Aa (ha pins s σ H _ I h) λv s1 ⟨x,H1,I1,r1,q1⟩=>?_
 exact Constant_none (is_none_gen ⟨.bl _,H1,I1,by rw[r1.Pn]; rfl,q1⟩)
theorem QV{j pos'}(ha:PE X a ta):PC X .IsNot a (.Constant .none j pos') (ZS ta):=by
 intro pins s σ H Q I h;refine Aa (ha pins s σ H _ I h) λv s1 ⟨x,H1,I1,r1,q1⟩=>?_
 exact Constant_none (isnot_none_gen ⟨.bl _,H1,I1,by rw[r1.Pn]; rfl,q1⟩)
def tB(t:TE):TT:=λσ H Q=>t σ H λx H1=>OD x H1 Q
theorem JP{op:CmpOp}{t:TE}(h:PC X op a b t)(h1:behindInMarks op b=false:=by first | exact nobehind _ (by decide) (by decide) | rfl):PT X (.Compare a [op] [b] pos) (tB t):=by
 intro pins s σ H Q I hw;refine wpAny_isTrue_Compare1 (Aa (h pins s σ H _ I hw) λv s1 h1=>Aa h1 λu s2 h2=>Aa h2 λc s3 ⟨x,H1,I1,r1,q1⟩=>?_) h1;obtain⟨d,rfl,q⟩:=q1;cases r1;exact wpAny_truthy_bool ⟨H1,I1,q⟩
theorem DC{e:Expr}{t:TE}(h:PE X e t)(he:∀whole,isTrue e X.env whole=(do let v <-whole; standAt e.pos; holding [v] (truthy v)):=by intro _; rfl):PT X e (tB t):=by
 intro pins s σ H Q I hw;refine isTrue_plain (Aa (h pins s σ H _ I hw) λv s1 ⟨x,H1,I1,r1,q1⟩=>?_) (he _);obtain⟨d,rfl,q⟩:=q1;cases r1;exact wpAny_truthy_bool ⟨H1,I1,q⟩
variable {tA tB':TT} {rest:List Expr}
def au(t u:TT):TT:=λσ H Q=>t σ H λc H1=>if c=true then u σ H1 Q else Q false H1
def bO(t u:TT):TT:=λσ H Q=>t σ H λc H1=>if c=true then Q true H1 else u σ H1 Q
def Zm(t:TT):TT:=λσ H Q=>t σ H λc H1=>Q (!c) H1
theorem GX(ha:PT X a tA):PW X (.BoolOp .And [a] pos) tA:=by
 intro wh pins s σ H Q I h;refine isTrue_and (Aa (ha pins s σ H Q I h) λc s1 e=>?_);cases c with
 | true=>exact isTrue_and_nil e
 | false=>exact e
theorem Gf(ha:PT X a tA):PW X (.BoolOp .Or [a] pos) tA:=by
 intro wh pins s σ H Q I h;refine isTrue_or (Aa (ha pins s σ H Q I h) λc s1 e=>?_);cases c with
 | false=>exact isTrue_or_nil e
 | true=>exact e
theorem En(ha:PT X a tA)(hb:PW X (.BoolOp .And (b :: rest) pos) tB'):PW X (.BoolOp .And (a :: b :: rest) pos) (au tA tB'):=by
 intro wh pins s σ H Q I h;refine isTrue_and (Aa (ha pins s σ H _ I h) λc s1 ⟨H1,I1,q1⟩=>?_);cases c with
 | true=>exact hb wh pins s1 σ H1 Q I1 q1
 | false=>exact⟨H1,I1,q1⟩
theorem D9(ha:PT X a tA)(hb:PW X (.BoolOp .Or (b :: rest) pos) tB'):PW X (.BoolOp .Or (a :: b :: rest) pos) (bO tA tB'):=by
 intro wh pins s σ H Q I h;refine isTrue_or (Aa (ha pins s σ H _ I h) λc s1 ⟨H1,I1,q1⟩=>?_);cases c with
 | true=>exact⟨H1,I1,q1⟩
 | false=>exact hb wh pins s1 σ H1 Q I1 q1
theorem Gd(ha:PT X a tA):PT X (.UnaryOp .Not a pos) (Zm tA):=by
 intro pins s σ H Q I h;exact isTrue_not (ha pins s σ H (λc H1=>Q (!c) H1) I h)
def NB(ta tb:TE):TE:=λσ H Q=>ta σ H λx H1=>∃c,x=.bl c/\if c=true then tb σ H1 Q else Q (.bl false) H1
def aq(ta tb:TE):TE:=λσ H Q=>ta σ H λx H1=>∃c,x=.bl c/\if c=true then Q (.bl true) H1 else tb σ H1 Q
def M9(ta:TE):TE:=λσ H Q=>ta σ H λx H1=>∃c,x=.bl c/\Q (.bl (!c)) H1
theorem EM{op}{t:TE}(h:PE X a t):PE X (.BoolOp op [a] pos) t:=λpins s σ H Q I hw=>BoolOp_one (h pins s σ H Q I hw)
theorem FL(ha:PE X a ta)(hb:PE X (.BoolOp .And (b :: rest) pos) tb):PE X (.BoolOp .And (a :: b :: rest) pos) (NB ta tb):=by
 intro pins s σ H Q I h;refine BoolOp_and (Aa (ha pins s σ H _ I h) λv s1 ⟨x,H1,I1,r1,q1⟩=>?_);obtain⟨c,rfl,q1⟩:=q1;cases r1;refine wpAny_truthy_bool ?_;cases c with
 | true=>exact hb pins s1 σ H1 Q I1 q1
 | false=>exact⟨.bl false,H1,I1,rfl,q1⟩
theorem II(ha:PE X a ta)(hb:PE X (.BoolOp .Or (b :: rest) pos) tb):PE X (.BoolOp .Or (a :: b :: rest) pos) (aq ta tb):=by
 intro pins s σ H Q I h;refine BoolOp_or (Aa (ha pins s σ H _ I h) λv s1 ⟨x,H1,I1,r1,q1⟩=>?_);obtain⟨c,rfl,q1⟩:=q1;cases r1;refine wpAny_truthy_bool ?_;cases c with
 | false=>exact hb pins s1 σ H1 Q I1 q1
 | true=>exact⟨.bl true,H1,I1,rfl,q1⟩
theorem Q7(ha:PE X a ta):PE X (.UnaryOp .Not a pos) (M9 ta):=by
 intro pins s σ H Q I h;refine UnaryOp_ (Aa (ha pins s σ H _ I h) λv s1 ⟨x,H1,I1,r1,q1⟩=>?_);obtain⟨c,rfl,q1⟩:=q1;cases r1;exact not_of (wpAny_truthy_bool ⟨.bl (!c),H1,I1,rfl,q1⟩)
def bI(t:TT)(ta tb:TE):TE:=λσ H Q=>t σ H λc H1=>if c=true then ta σ H1 Q else tb σ H1 Q
theorem Wm{c:Expr}(hc:PT X c tA)(ha:PE X a ta)(hb:PE X b tb):PE X (.IfExp c a b pos) (bI tA ta tb):=by
 intro pins s σ H Q I h;refine wpAny_IfExp (Aa (hc pins s σ H _ I h) λd s1 ⟨H1,I1,q1⟩=>?_);cases d with
 | true=>exact ha pins s1 σ H1 Q I1 q1
 | false=>exact hb pins s1 σ H1 Q I1 q1
end
def AS(K:PySem.W.Frag)(H:Hp)(a:Addr)(xs:List V):Prop :=
 Rd H a (.AN xs) \/
  ∃(o:Obj) (its:Array Value) (n:Nat),K.lookup a=some o/\o.cls=.type "list"/\o.dict=none/\o.data=.seq its n/\its.size<=sizeLine/\Ah xs its.toList
def AJ(K:PySem.W.Frag)(H:Hp)(a:Addr)(xs:List V):Prop :=
 Rd H a (.AH xs) \/
  ∃(o:Obj) (its:Array Value) (n:Nat),K.lookup a=some o/\o.cls=.type "tuple"/\o.data=.seq its n/\its.size<=sizeLine/\Ah xs its.toList
def Z8:Value->Option V
 | .none=>some .Ay
 | .bool b=>some (.bl b)
 | .int i _=>some (.int i)
 | .str x _=>some (.str x)
 | .bytes b _=>some (.ED b)
 | .float b _=>some (.Fe b)
 | .ref a=>some (.ref a)
 | .type n=>some (.ty n)
 | _=>none
theorem Av.S9{x:V}{u:Value}(r:Av x u):Z8 u=some x:=by
 cases x with
 | Ay=>cases r; rfl
 | bl _=>cases r; rfl
 | int _=>obtain⟨t,rfl⟩:=r; rfl
 | str _=>obtain⟨t,rfl⟩:=r; rfl
 | ED _=>obtain⟨t,rfl⟩:=r; rfl
 | Fe _=>obtain⟨t,rfl⟩:=r; rfl
 | ref _=>cases r; rfl
 | ty _=>cases r; rfl
theorem Av.inj{x y:V}{u:Value}(r:Av x u)(q:Av y u):x=y:=Option.some.inj (r.S9.symm.trans q.S9)
theorem Ah.inj:∀{xs ys:List V} {us:List Value},Ah xs us->Ah ys us->xs=ys
 | _,_,_,.nil,.nil=>rfl
 | _,_,_,.cons r t,.cons r' t'=>by rw[r.inj r',Ah.inj t t']
section
variable {X:Cx} {pins:List (Addr×Obj)} {σ:St} {H:Hp} {s:Shared} {a:Addr} {xs ys:List V}
theorem AS.of{K:PySem.W.Frag}(h:H a=some (.AN xs)):AS K H a xs:=.inl (.inl h)
theorem AJ.of{K:PySem.W.Frag}(h:H a=some (.AH xs)):AJ K H a xs:=.inl (.inl h)
theorem AL.list(I:AL X pins σ H s)(h:AS X.K H a xs):∃its:List Value,Ah xs its/\PlainL s.heap a its.toArray/\xs.length<=sizeLine:=by
 rcases h with h | ⟨o,its,n,hk,hc,hd,hs,hz,r⟩
 ·obtain⟨z,its,n,r,e⟩:=h.ok I.hok;exact⟨its,r,⟨_,n,e,rfl,rfl,rfl⟩,z⟩
 ·refine⟨its.toList,r,⟨o,n,I.BF a o hk,hc,hd,by simpa using hs⟩,?_⟩;have e:=r.length;simp only[Array.length_toList] at e;omega
theorem AL.tuple(I:AL X pins σ H s)(h:AJ X.K H a xs):∃its:List Value,Ah xs its/\IsTup s.heap a its.toArray/\xs.length<=sizeLine:=by
 rcases h with h | ⟨o,its,n,hk,hc,hs,hz,r⟩
 ·obtain⟨z,its,r,p,_⟩:=h.ok I.hok;exact⟨its,r,p,z⟩
 ·refine⟨its.toList,r,⟨o,I.BF a o hk,hc,n,by simpa using hs⟩,?_⟩;have e:=r.length;simp only[Array.length_toList] at e;omega
theorem AL.list_inj(I:AL X pins σ H s)(h:AS X.K H a xs)(h':AS X.K H a ys):xs=ys:=by
 obtain⟨its,r,⟨o,n,e,_,_,d⟩,_⟩:=I.list h;obtain⟨its',r',⟨o',n',e',_,_,d'⟩,_⟩:=I.list h';rw[e] at e'; cases e';rw[d] at d';injection d' with d1 _
 have:its=its':=by simpa using congrArg Array.toList d1
 subst this;exact r.inj r'
theorem AL.VU(I:AL X pins σ H s)(h:AJ X.K H a xs)(h':AJ X.K H a ys):xs=ys:=by
 obtain⟨its,r,⟨o,e,_,n,d⟩,_⟩:=I.tuple h;obtain⟨its',r',⟨o',e',_,n',d'⟩,_⟩:=I.tuple h';rw[e] at e'; cases e';rw[d] at d';injection d' with d1 _
 have:its=its':=by simpa using congrArg Array.toList d1
 subst this;exact r.inj r'
end
abbrev Cx.C6(X:Cx)(E:Value->Shared->Prop):Cx:={ X with xe:=E }
abbrev Cx.Ea(X:Cx):Cx:=X.C6 λ_ _=>False
theorem Cx.Ok.C6{X:Cx}(ok:X.Ok)(E:Value->Shared->Prop):(X.C6 E).Ok :=
 ⟨ok.BY,ok.kind,ok.FT,ok.Hi,ok.above,ok.inj,ok.has,ok.Ig,ok.hd,ok.frames,ok.Jw,ok.OE,ok.bs,ok.E9,ok.IU,ok.IL,ok.DH,ok.FC⟩
theorem Cx.Ok.CH{X:Cx}{E:Value->Shared->Prop}(ok:(X.C6 E).Ok):X.Ok :=
 ⟨ok.BY,ok.kind,ok.FT,ok.Hi,ok.above,ok.inj,ok.has,ok.Ig,ok.hd,ok.frames,ok.Jw,ok.OE,ok.bs,ok.E9,ok.IU,ok.IL,ok.DH,ok.FC⟩
section
variable {X:Cx} {pins:List (Addr×Obj)} {σ:St} {H:Hp} {s:Shared} {E:Value->Shared->Prop}
theorem AL.C6(I:AL X pins σ H s)(E:Value->Shared->Prop):AL (X.C6 E) pins σ H s:=⟨I.ok.C6 E,I.os,I.bare,I.base,I.Cv,I.cell,I.free,I.Dr,I.Ct,I.hok,I.len⟩
theorem AL.CH(I:AL (X.C6 E) pins σ H s):AL X pins σ H s:=⟨I.ok.CH,I.os,I.bare,I.base,I.Cv,I.cell,I.free,I.Dr,I.Ct,I.hok,I.len⟩
theorem SP.CH{D:C5}{f:Flow}{s':Shared}(h:SP (X.C6 E) pins D f s'):SP X pins D f s':=by
 cases f with
 | next=>obtain⟨σ',H',I,q⟩:=h; exact⟨σ',H',I.CH,q⟩
 | brk=>obtain⟨σ',H',I,q⟩:=h; exact⟨σ',H',I.CH,q⟩
 | cont=>obtain⟨σ',H',I,q⟩:=h; exact⟨σ',H',I.CH,q⟩
 | ret u=>obtain⟨v,σ',H',I,r,q⟩:=h; exact⟨v,σ',H',I.CH,r,q⟩
theorem PE.Ea{e:Expr}{t:TE}(h:PE X.Ea e t):PE X e t:=λpins s σ H Q I hw =>
 wpAny_mono (h pins s σ H Q (I.C6 _) hw) (λ_ _ ⟨v,H',I',r,q⟩=>⟨v,H',I'.CH,r,q⟩) λ_ _ z=>False.elim z
theorem PT.Ea{e:Expr}{t:TT}(h:PT X.Ea e t):PT X e t:=λpins s σ H Q I hw =>
 wpAny_mono (h pins s σ H Q (I.C6 _) hw) (λ_ _ ⟨H',I',q⟩=>⟨H',I'.CH,q⟩) λ_ _ z=>False.elim z
theorem Cs.Ea{st:List Stmt}{t:TS}(h:Cs X.Ea st t):Cs X st t:=λpins s σ H D I hw =>
 wpAny_mono (h pins s σ H D (I.C6 _) hw) (λ_ _ q=>q.CH) λ_ _ z=>False.elim z
end
section
variable {X:Cx} {st:Stmt} {rest:List Stmt} {t u:TS} {e:Expr} {te:TE} {pos:Pos}
def La:TS:=λD σ H=>D.nx σ H
def Jn(t u:TS):TS:=λD σ H=>t { D with nx:=u D } σ H
theorem A6:Cs X [] La:=λ_ _ σ H _ I h=>wpAny_execs_nil ⟨σ,H,I,h⟩
theorem AR(h1:PS X st t)(h2:Cs X rest u):Cs X (st :: rest) (Jn t u):=by
 intro pins s σ H D I h;refine wpAny_execs_cons (Aa (h1 pins s σ H { D with nx:=u D } I h) λf s1 q=>?_);cases f with
 | next =>
  obtain⟨σ',H',I',q⟩:=q;exact h2 pins s1 σ' H' D I' q
 | ret v=>exact q
 | brk=>exact q
 | cont=>exact q
theorem AU(h1:PS X st t):Cs X [st] t:=by
 intro pins s σ H D I h;refine wpAny_execs_cons (Aa (h1 pins s σ H D I h) λf s1 q=>?_);cases f with
 | next=>exact wpAny_execs_nil q
 | ret v=>exact q
 | brk=>exact q
 | cont=>exact q
theorem AL.quiet{pins:List (Addr×Obj)}{σ:St}{H:Hp}{s:Shared}(I:AL X pins σ H s):interactive X.env=false:=by simp[interactive,I.ok.kind]
def ZG(te:TE):TS:=λD σ H=>te σ H λ_ H1=>D.nx σ H1
theorem GV(he:PE X e te)(hs:swapsWith e none pos.line X.env=pure false:=by rfl):PS X (.Expr e pos) (ZG te):=by
 intro pins s σ H D I h;exact wpAny_Expr_any (Aa (he pins s σ H _ I h) λv s1 ⟨x,H1,I1,r1,q1⟩=>⟨σ,H1,I1,q1⟩) I.quiet hs
def FU(te:TE):TS:=λD σ H=>te σ H D.rt
theorem AY(he:PE X e te):PS X (.Return (some e) pos) (FU te):=by
 intro pins s σ H D I h;exact wpAny_Return_some (Aa (he pins s σ H _ I h) λv s1 ⟨x,H1,I1,r1,q1⟩=>⟨x,σ,H1,I1,r1,q1⟩)
def Nm(c:TT)(t u:TS):TS:=λD σ H=>c σ H λb H1=>if b=true then t D σ H1 else u D σ H1
theorem A3{c:Expr}{a b:List Stmt}{tc:TT}(hc:PT X c tc)(ha:Cs X a t)(hb:Cs X b u):PS X (.If c a b pos) (Nm tc t u):=by
 intro pins s σ H D I h;refine wpAny_If (Aa (hc pins s σ H _ I h) λd s1 ⟨H1,I1,q1⟩=>?_);cases d with
 | true=>exact ha pins s1 σ H1 D I1 q1
 | false=>exact hb pins s1 σ H1 D I1 q1
def X0:TS:=λ_ _ _=>False
theorem Po:PS X st X0:=λ_ _ _ _ _ _ h=>h.elim
end
abbrev TG:=V->St->Hp->(St->Hp->Prop)->Prop
abbrev Fd:=List V->St->Hp->(St->Hp->Prop)->Prop
def PG(X:Cx)(target:Expr)(t:TG):Prop :=
 ∀(pins:List (Addr×Obj)) (s:Shared) (σ:St) (H:Hp) (v:V) (u:Value) (Q:St->Hp->Prop),AL X pins σ H s->Av v u->t v σ H Q →
  wpAny (model X.prog X.w) X.A (assign target X.env u) (λ_ s'=>∃σ' H',AL X pins σ' H' s'/\Q σ' H') X.xe s
def Jz(X:Cx)(ts:List Expr)(t:Fd):Prop :=
 ∀(pins:List (Addr×Obj)) (s:Shared) (σ:St) (H:Hp) (vs:List V) (us:List Value) (Q:St->Hp->Prop),AL X pins σ H s->Ah vs us->t vs σ H Q →
  wpAny (model X.prog X.w) X.A (assignInOrder ((assignEach ts X.env).map (·.2)) us) (λ_ s'=>∃σ' H',AL X pins σ' H' s'/\Q σ' H') X.xe s
abbrev Nx:=V->V->V->Hp->(Hp->Prop)->Prop
def Sm(X:Cx)(t:Nx):Prop :=
 ∀(pins:List (Addr×Obj)) (s:Shared) (σ:St) (H:Hp) (o i v:V) (ov iv u:Value) (Q:Hp->Prop),AL X pins σ H s->Av o ov->Av i iv->Av v u->t o i v H Q →
  wpAny (model X.prog X.w) X.A (setItem ov iv u) (λ_ s'=>∃H',AL X pins σ H' s'/\Q H') X.xe s
section
variable {X:Cx} {pos:Pos}
def CW(i:Nat):TG:=λv σ H Q=>Q (σ.set i (some v)) H
theorem A8{i:Nat}{x:Str}(hN:X.N.Nodup)(hi:X.N[i]?=some x)(hx:Hg X.env.scope x)(hf:X.fn x=true\/X.env.scope.names.lookup x=some .local:=by first | exact .inl rfl | exact .inr rfl | assumption):PG X (.Name x pos) (CW i):=by
 intro pins s σ H v u Q I r h;exact wpAny_assign_Name (MS I hN hi hx r (λs' I'=>⟨_,H,I',h⟩) hf)
inductive RV(vs:List V)(σ:St)(H:Hp)(Q:St->Hp->Prop):Prop
 | mk (e:vs=[]) (q:Q σ H):RV vs σ H Q
def SH:Fd:=λvs σ H Q=>RV vs σ H Q
inductive RF(t:TG)(u:Fd)(vs:List V)(σ:St)(H:Hp)(Q:St->Hp->Prop):Prop
 | mk (v:V) (r:List V) (e:vs=v :: r) (q:t v σ H λσ' H'=>u r σ' H' Q):RF t u vs σ H Q
def NH(t:TG)(u:Fd):Fd:=λvs σ H Q=>RF t u vs σ H Q
theorem FG:Jz X [] SH:=by
 intro pins s σ H vs us Q I r h;obtain⟨e,h⟩:=h;subst e;cases r;exact assignInOrder_nil ⟨σ,H,I,h⟩
theorem Bp {e:Expr} {es:List Expr} {t:TG} {u:Fd} (h1:PG X e t) (h2:Jz X es u)
  (hs:(assignEach (e :: es) X.env).map (·.2)=assign e X.env :: (assignEach es X.env).map (·.2):=by rfl):Jz X (e :: es) (NH t u):=by
 intro pins s σ H vs us Q I r h;obtain⟨v,vr,e1,h⟩:=h;subst e1;cases r with
 | cons r rr =>
  rw[hs];refine assignInOrder_cons (Aa (h1 pins s σ H _ _ _ I r h) λ_ s1 ⟨σ1,H1,I1,q1⟩=>?_);exact h2 pins s1 σ1 H1 _ _ Q I1 rr q1
inductive Rt(K:PySem.W.Frag)(n:Nat)(t:Fd)(v:V)(σ:St)(H:Hp)(Q:St->Hp->Prop):Prop
 | mk (a:Addr) (xs:List V) (e:v=.ref a) (s:AJ K H a xs) (l:xs.length=n) (q:t xs σ H Q):Rt K n t v σ H Q
def Nb(K:PySem.W.Frag)(n:Nat)(t:Fd):TG:=λv σ H Q=>Rt K n t v σ H Q
theorem YH {es:List Expr} {k:Nat} {t:Fd} {n:Nat} (hc:X.By=true) (h:Jz X es t)
  (hn:(assignEach es X.env).length=n:=by rfl) (hst:(assignEach es X.env).findIdx? (·.1)=none:=by rfl):PG X (.Tuple es k pos) (Nb X.K n t):=by
 intro pins s σ H v u Q I r hw;obtain⟨a,xs,e1,hq,hl,hw⟩:=hw;subst e1;cases r;obtain⟨its,rv,ht,hz⟩:=I.tuple hq;refine assign_Tuple_tuple (I.ok.hd hc) ht (by simp[hn,<-hl,rv.length]) hst λh' hx=>?_
 have I1:AL X pins σ H { s with heap:=h' }:=I.CK (t':=s.toks) λb o e=>hx b o (Nat.ne_of_lt (Heap.lt_size e)) e
 exact h pins _ σ H xs _ Q I1 (by simpa using rv) hw
def ag(to ti:TE)(t:Nx):TG:=λv σ H Q=>to σ H λo H1=>ti σ H1 λi H2=>t o i v H2 λH3=>Q σ H3
theorem Qu {o i:Expr} {to ti:TE} {t:Nx} (ho:PE X o to) (hi:PE X i ti) (hs:Sm X t)
  (ha:∀v,assign (.Subscript o i pos) X.env v=(do
   let ov <-holding [v] (eval o X.env)
   let iv <-holding [v,ov] (eval i X.env)
   standAt pos
   holding [v,ov,iv] (setItem ov iv v)
   release [v,ov,iv] []):=by intro _; rfl):PG X (.Subscript o i pos) (ag to ti t):=by
 intro pins s σ H v u Q I r h;rw[ha];refine wpAny_bind (wpAny_holding (Aa (ho pins s σ H _ I h) λov s1 ⟨x,H1,I1,r1,q1⟩=>?_));refine wpAny_bind (wpAny_holding (Aa (hi pins s1 σ H1 _ I1 q1) λiv s2 ⟨y,H2,I2,r2,q2⟩=>?_));refine wpAny_bind (wpAny_standAt (wpAny_bind (wpAny_holding (Aa (hs pins s2 σ H2 x y v ov iv u _ I2 r1 r2 r q2) λ_ s3 ⟨H3,I3,q3⟩=>?_))));exact wpAny_release ⟨σ,H3,I3,q3⟩
def Ib(te:TE)(g:TG):TS:=λD σ H=>te σ H λx H1=>g x σ H1 D.nx
theorem JK {tg e:Expr} {te:TE} {g:TG} (he:PE X e te) (hg:PG X tg g) (hs:swapsWithSole [tg] e pos.line X.env=pure false:=by rfl) (hw:swappedStores [tg] e X.env=pure none:=by rfl)
  (h1:(assignEach [tg] X.env).map (·.2)=[assign tg X.env]:=by rfl):PS X (.Assign [tg] e pos) (Ib te g):=by
 intro pins s σ H D I h;refine wpAny_Assign_stores (Aa (he pins s σ H _ I h) λv s1 ⟨x,H1,I1,r1,q1⟩=>?_) hs hw;rw[h1];exact Aa (hg pins s1 σ H1 x v _ I1 r1 q1) λ_ s2 q=>q
theorem Ab{i:Nat}{x:Str}{e:Expr}{te:TE}{pos':Pos}(hN:X.N.Nodup)(hi:X.N[i]?=some x)(hx:Hg X.env.scope x)(he:PE X e te)(hs:swapsWith e (some (.Name x pos')) pos.line X.env=pure false:=by rfl)(hf:X.fn x=true\/X.env.scope.names.lookup x=some .local:=by first | exact .inl rfl | exact .inr rfl | assumption):
  PS X (.Assign [.Name x pos'] e pos) (Ib te (CW i)):=by
 intro pins s σ H D I h;refine wpAny_Assign_Name (Aa (he pins s σ H _ I h) λv s1 ⟨y,H1,I1,r1,q1⟩=>?_) hs;exact MS I1 hN hi hx r1 (λs2 I2=>⟨_,H1,I2,q1⟩) hf
end
section
variable {X:Cx} {pos:Pos}
def RC(c:TT)(tb:TS):TS:=λD σ H=>∃W:Nat->St->Hp->Prop,(∃m,W m σ H)/\∀m σ H,W m σ H →
 c σ H λb H1=>if b=true then ∃N:St->Hp->Prop,(∀σ' H',N σ' H'->∃m',m' < m/\W m' σ' H')/\tb { D with nx:=N,ct:=N,bk:=D.nx } σ H1 else D.nx σ H1
theorem Py{c:Expr}{body:List Stmt}{tc:TT}{tb:TS}(hp:PassesOwn (model X.prog X.w) X.A X.env X.xe)(hc:PT X c tc)(hb:Cs X body tb):PS X (.While c body [] pos) (RC tc tb):=by
 intro pins s σ H D I h;obtain⟨W,⟨m0,w0⟩,turn⟩:=h;refine wpAny_While (codeAny_whileLoop (λn s'=>∃σ' H',AL X pins σ' H' s'/\W n σ' H') ?_ m0 ⟨σ,H,I,w0⟩);rintro n s1 ⟨σ1,H1,I1,w1⟩;refine wpAny_passesOwn hp (Aa (hc pins s1 σ1 H1 _ I1 (turn n σ1 H1 w1)) λb s2 ⟨H2,I2,q2⟩=>?_);cases b with
 | true =>
  obtain⟨N,hN,q2⟩:=q2;rw[if_pos rfl];refine wpAny_passesOwn hp (Aa (hb pins s2 σ1 H2 _ I2 q2) λf s3 q3=>?_);cases f with
  | next =>
   obtain⟨σ3,H3,I3,n3⟩:=q3;obtain⟨m',hm,w3⟩:=hN σ3 H3 n3;exact⟨m',hm,σ3,H3,I3,w3⟩
  | cont =>
   obtain⟨σ3,H3,I3,n3⟩:=q3;obtain⟨m',hm,w3⟩:=hN σ3 H3 n3;exact⟨m',hm,σ3,H3,I3,w3⟩
  | brk=>exact q3
  | ret v=>exact q3
 | false =>
  rw[if_neg Bool.false_ne_true];exact wpAny_execs_nil ⟨σ1,H2,I2,q2⟩
end
structure It where
 go:Nat->Hp->Prop
 EC:Nat->Hp->V->Hp->Prop
 stop:Nat->Hp->Prop
def E6(X:Cx)(pins:List (Addr×Obj))(H:Hp)(b:Addr):Prop :=
 H b=none/\b≠X.env.locals/\b∉X.fs/\(b∈X.ex\/X.s₀.heap.objs.size<=b)/\(∀x c,X.env.cells.lookup x=some c->c≠b)/\∀p∈X.pn++pins,p.1≠b
theorem AL.IP{X:Cx}{pins:List (Addr×Obj)}{σ:St}{H H':Hp}{s:Shared}{b:Addr}(I:AL X pins σ H s)(hb:s.heap.objs.size<=b)(hn:H' b=none):E6 X pins H' b:=by
 refine⟨hn,Nat.ne_of_gt (Nat.lt_of_lt_of_le I.lt hb),I.aG hb,.inr (Nat.le_trans I.sz hb),λx c e z=>?_,λp hp z=>?_⟩
 ·obtain⟨v,q⟩:=I.cell x c e;exact absurd (Nat.lt_of_lt_of_le q.lt (by rw[z]; exact hb)) (Nat.lt_irrefl _)
 ·exact absurd (Nat.lt_of_lt_of_le (Heap.lt_size (I.Ct p hp).1) (by rw[z]; exact hb)) (Nat.lt_irrefl _)
structure IW(P:Program)(w:World)(K:PySem.W.Frag)(tg:Expr)(J:It)(fp:List Addr)(it:Addr)(tn:Nat->Heap->Prop):Prop where
 mem:it∈fp
 obj:∀i h,tn i h->∀b∈fp,∃o,h.get? b=some o/\∀v,o.data≠.cell v
 keep:∀i h h',tn i h->(∀b∈fp,∀o,h.get? b=some o->h'.get? b=some o)->tn i h'
 item:∀(X:Cx),X.prog=P->X.w=w->X.K=K->X.By=true->∀(i:Nat) (pins:List (Addr×Obj)) (s:Shared) (σ:St) (H:Hp) (E:Value->Shared->Prop),AL X pins σ H s->(∀b∈fp,E6 X pins H b)->tn i s.heap->J.go i H →
  wpAny (model P w) X.A (pyNext (.ref it)) (λr s1=>∃u,r=some u /\
   wpAny (model P w) X.A (letOwnedTupleGo tg (.ref it) u) (λ_ s2=>∃x H',AL X pins σ H' s2/\Av x u/\J.EC i H x H'/\tn (i+1) s2.heap/\∀b∈fp,H' b=none) E s1) E s
 done:∀(X:Cx),X.prog=P->X.w=w->X.K=K->X.By=true->∀(i:Nat) (pins:List (Addr×Obj)) (s:Shared) (σ:St) (H:Hp) (E:Value->Shared->Prop),AL X pins σ H s->(∀b∈fp,E6 X pins H b)->tn i s.heap->J.stop i H →
  wpAny (model P w) X.A (pyNext (.ref it)) (λr s1=>r=none/\AL X pins σ H s1) E s
 self:∀(A:Around) (i:Nat) (s:Shared) (Q:Value->Shared->Prop) (E:Value->Shared->Prop),tn i s.heap->Q (.ref it) s->wpAny (model P w) A (pyIter (.ref it)) Q E s
abbrev TI:=St->Hp->(It->Hp->Prop)->Prop
def Sr(X:Cx)(pins:List (Addr×Obj))(σ:St)(tg:Expr)(R:It->Hp->Prop)(itv:Value)(s2:Shared):Prop :=
 ∃(it:Addr) (fp:List Addr) (tn:Nat->Heap->Prop) (J:It) (H':Hp),itv=.ref it/\AL X pins σ H' s2/\IW X.prog X.w X.K tg J fp it tn/\tn 0 s2.heap/\(∀b∈fp,E6 X pins H' b)/\R J H'
def PI(X:Cx)(tg iter:Expr)(wi:TI):Prop :=
 ∀(pins:List (Addr×Obj)) (s:Shared) (σ:St) (H:Hp) (R:It->Hp->Prop),AL X pins σ H s->wi σ H R →
  wpAny (model X.prog X.w) X.A (eval iter X.env) (λv s1=>wpAny (model X.prog X.w) X.A (pyIter v) (Sr X pins σ tg R) X.xe s1) X.xe s
theorem NN {M : Model} {A : Around} {E : Value → Shared → Prop} {s : Shared} {tg : Expr} {it : Addr} {u : Value} {o : Obj} {n : String} {vs : Array Value} {Q : Unit → Shared → Prop} (ho : s.heap.get? it = some o) (hc : o.cls = .type n) (hd : o.data = .fields vs)
    (hn : ["enumerate", "zip", "dict_itemiterator", "dict_reverseitemiterator", "odict_iterator", "itertools.zip_longest", "itertools.pairwise"].contains n = false) (hQ : Q () s) : wpAny M A (letOwnedTupleGo tg (.ref it) u) Q E s := by
  unfold letOwnedTupleGo;cases tg <;> first
    | exact wpAny_pure hQ
    | (cases u <;> first
        | exact wpAny_pure hQ
        | (refine wpAny_bind (wpAny_load ho ?_)
           rw[hc, hd];show wpAny M A (if (["enumerate", "zip", "dict_itemiterator", "dict_reverseitemiterator", "odict_iterator", "itertools.zip_longest", "itertools.pairwise"].contains n && vs[0]? == some (rawInt _)) = true then _ else _) Q E s;rw[if_neg (by intro h; rw[hn, Bool.false_and] at h; cases h)];exact wpAny_pure hQ))
def GO(K:PySem.W.Frag)(a:Addr):It :=
 ⟨λi H=>∃xs x,AS K H a xs/\xs[i]?=some x,λi H x H'=>H'=H/\∀xs,AS K H a xs->xs[i]?=some x,λi H=>∃xs,AS K H a xs/\xs.length<=i⟩
def Ie(K:PySem.W.Frag)(a:Addr):It :=
 ⟨λi H=>∃xs x,AJ K H a xs/\xs[i]?=some x,λi H x H'=>H'=H/\∀xs,AJ K H a xs->xs[i]?=some x,λi H=>∃xs,AJ K H a xs/\xs.length<=i⟩
def HG(lo:Int)(n:Nat):It:=⟨λi _=>i<n,λi H x H'=>H'=H/\x=.int (lo+i),λi _=>n<=i⟩
theorem VS{P:Program}{w:World}{K:PySem.W.Frag}{tg:Expr}(a it:Addr):IW P w K tg (GO K a) [it] it (λi h=>h.IsListIter it a i) where
 mem:=by simp
 obj:=λi h st b hb=>by
  have e:b=it:=by simpa using hb
  subst e;obtain⟨o,e,c,d⟩:=st;exact⟨o,e,λv z=>by rw[d] at z; cases z⟩
 keep:=λi h h' st k=>st.at λo e=>k it (by simp) o e
 item:=by
  intro X hP hw hK hc i pins s σ H E I hf st hg;subst hP hw hK;obtain⟨xs,x,hq,hx⟩:=hg;obtain⟨its,rv,p,hz⟩:=I.list hq;obtain⟨u,hu,ru⟩:=rv.get hx;obtain⟨f0,f1,f2,f3,f4,f5⟩:=hf it (by simp);refine wpAny_pyNext_list_item st p.isList (x:=u) (by simpa using hu) λh' st' sb=>?_
  have I1:AL X pins σ H { s with heap:=h' }:=I.FN (t':=s.toks) (λb o hb e=>(sb.2 b hb).trans e) f0 f1 f3 f4 f5;obtain⟨o,e,c,d⟩:=id st';exact⟨u,rfl,NN (s:={ s with heap:=h' }) e c d (by decide) ⟨x,H,I1,ru,⟨rfl,λys hy=>by rw[I.list_inj hy hq]; exact hx⟩,st',λb hb=>(hf b hb).1⟩⟩
 done:=by
  intro X hP hw hK hc i pins s σ H E I hf st hg;subst hP hw hK;obtain⟨xs,hq,hx⟩:=hg;obtain⟨its,rv,p,hz⟩:=I.list hq;obtain⟨f0,f1,f2,f3,f4,f5⟩:=hf it (by simp);have hl:=rv.length;exact wpAny_pyNext_list_end (I.ok.hd hc) st p.isList (by simp; omega) λh' eb=>⟨rfl,I.FN (t':=s.toks) (λb o hb e=>eb b o hb e) f0 f1 f3 f4 f5⟩
 self:=λ_ _ _ _ _ st h=>wpAny_pyIter_listiter st h
theorem Tz{P:Program}{w:World}{K:PySem.W.Frag}{tg:Expr}(a it:Addr):IW P w K tg (Ie K a) [it] it (λi h=>h.IsTupleIter it a i) where
 mem:=by simp
 obj:=λi h st b hb=>by
  have e:b=it:=by simpa using hb
  subst e;obtain⟨o,e,c,d⟩:=st;exact⟨o,e,λv z=>by rw[d] at z; cases z⟩
 keep:=λi h h' st k=>st.at λo e=>k it (by simp) o e
 item:=by
  intro X hP hw hK hc i pins s σ H E I hf st hg;subst hP hw hK;obtain⟨xs,x,hq,hx⟩:=hg;obtain⟨its,rv,p,hz⟩:=I.tuple hq;obtain⟨u,hu,ru⟩:=rv.get hx;obtain⟨f0,f1,f2,f3,f4,f5⟩:=hf it (by simp);refine wpAny_pyNext_tuple_item st (show s.heap.IsTuple a its.toArray from p) (x:=u) (by simpa using hu) λh' st' sb=>?_
  have I1:AL X pins σ H { s with heap:=h' }:=I.FN (t':=s.toks) (λb o hb e=>(sb.2 b hb).trans e) f0 f1 f3 f4 f5;obtain⟨o,e,c,d⟩:=id st';exact⟨u,rfl,NN (s:={ s with heap:=h' }) e c d (by decide) ⟨x,H,I1,ru,⟨rfl,λys hy=>by rw[I.VU hy hq]; exact hx⟩,st',λb hb=>(hf b hb).1⟩⟩
 done:=by
  intro X hP hw hK hc i pins s σ H E I hf st hg;subst hP hw hK;obtain⟨xs,hq,hx⟩:=hg;obtain⟨its,rv,p,hz⟩:=I.tuple hq;obtain⟨f0,f1,f2,f3,f4,f5⟩:=hf it (by simp);have hl:=rv.length;exact wpAny_pyNext_tuple_end (I.ok.hd hc) st (show s.heap.IsTuple a its.toArray from p) (by simp; omega) λh' eb=>⟨rfl,I.FN (t':=s.toks) (λb o hb e=>eb b o hb e) f0 f1 f3 f4 f5⟩
 self:=λ_ _ _ _ _ st h=>wpAny_pyIter_tupleiter st h
theorem Tx{P:Program}{w:World}{K:PySem.W.Frag}{tg:Expr}(it:Addr)(lo:Int)(n:Nat):IW P w K tg (HG lo n) [it] it (λi h=>IsRangeIter h it (lo+(i:Nat)*1) ((n:Int)-(i:Nat)) 1) where
 mem:=by simp
 obj:=λi h st b hb=>by
  have e:b=it:=by simpa using hb
  subst e;exact⟨_,st,λv z=>by
   have z':Data.fields _=Data.cell v:=z;cases z'⟩
 keep:=λi h h' st k=>k it (by simp) _ st
 item:=by
  intro X hP hw hK hc i pins s σ H E I hf st hg;subst hP hw hK;obtain⟨f0,f1,f2,f3,f4,f5⟩:=hf it (by simp);have W:=Walks.range (prog:=X.prog) (w:=X.w) (I.ok.hd hc) it lo 1 n;refine W.item i s _ _ hg st λv h' tk hv st' kk=>?_
  obtain⟨t,rfl⟩:=hv;have I1:AL X pins σ H { s with heap:=h',toks:=tk }:=I.FN (λb o hb e=>kk b o (by simpa using hb) e) f0 f1 f3 f4 f5;refine⟨_,rfl,NN (s:={ s with heap:=h',toks:=tk }) (n:="range_iterator") st' rfl rfl (by decide) ⟨.int (lo+i),H,I1,⟨t,?_⟩,⟨rfl,rfl⟩,st',λb hb=>(hf b hb).1⟩⟩;rw[Int.mul_one]
 done:=by
  intro X hP hw hK hc i pins s σ H E I hf st hg;subst hP hw hK;obtain⟨f0,f1,f2,f3,f4,f5⟩:=hf it (by simp);exact wpAny_pyNext_range_end (I.ok.hd hc) st (by have:n<=i:=hg; omega) λh' eb=>⟨rfl,I.FN (t':=s.toks) (λb o hb e=>eb b o hb e) f0 f1 f3 f4 f5⟩
 self:=λ_ _ _ _ _ st h=>wpAny_pyIter_rangeiter st h
section
variable {X:Cx} {tg:Expr}
inductive Q3(K:PySem.W.Frag)(x:V)(H:Hp)(R:It->Hp->Prop):Prop
 | mk (a:Addr) (e:x=.ref a) (s:∃xs,AS K H a xs) (q:R (GO K a) H):Q3 K x H R
inductive Rz(K:PySem.W.Frag)(x:V)(H:Hp)(R:It->Hp->Prop):Prop
 | mk (a:Addr) (e:x=.ref a) (s:∃xs,AJ K H a xs) (q:R (Ie K a) H):Rz K x H R
def RW(K:PySem.W.Frag)(tl:TE):TI:=λσ H R=>tl σ H λx H1=>Q3 K x H1 R
def Nk(K:PySem.W.Frag)(tl:TE):TI:=λσ H R=>tl σ H λx H1=>Rz K x H1 R
theorem MY{l:Expr}{tl:TE}(hl:PE X l tl):PI X tg l (RW X.K tl):=by
 intro pins s σ H R I h;refine Aa (hl pins s σ H _ I h) λv s1 ⟨x,H1,I1,r1,q1⟩=>?_
 obtain⟨a,e,⟨xs,hq⟩,q⟩:=q1;subst e;cases r1;obtain⟨its,rv,p,hz⟩:=I1.list hq;refine wpAny_pyIter_list p.isList ?_;refine⟨s1.heap.objs.size,[s1.heap.objs.size],_,_,H1,rfl,I1.CK (t':=s1.toks) λb o e=>Heap.get?_push_of_some _ e,VS a _,⟨_,Heap.get?_push_size _ rfl,rfl,rfl⟩,λb hb=>?_,q⟩;have e:b=s1.heap.objs.size:=by simpa using hb
 subst e;exact I1.IP (Nat.le_refl _) (I1.hok.fresh (Nat.le_refl _))
theorem JR{l:Expr}{tl:TE}(hl:PE X l tl):PI X tg l (Nk X.K tl):=by
 intro pins s σ H R I h;refine Aa (hl pins s σ H _ I h) λv s1 ⟨x,H1,I1,r1,q1⟩=>?_
 obtain⟨a,e,⟨xs,hq⟩,q⟩:=q1;subst e;cases r1;obtain⟨its,rv,p,hz⟩:=I1.tuple hq;refine wpAny_pyIter_tuple (show s1.heap.IsTuple a its.toArray from p) ?_;refine⟨s1.heap.objs.size,[s1.heap.objs.size],_,_,H1,rfl,I1.CK (t':=s1.toks) λb o e=>Heap.get?_push_of_some _ e,Tz a _,⟨_,Heap.get?_push_size _ rfl,rfl,rfl⟩,λb hb=>?_,q⟩;have e:b=s1.heap.objs.size:=by simpa using hb
 subst e;exact I1.IP (Nat.le_refl _) (I1.hok.fresh (Nat.le_refl _))
theorem Pd {pins:List (Addr×Obj)} {σ:St} {H:Hp} {s:Shared} {R:It->Hp->Prop} {E:Value->Shared->Prop} {lo hi:Int} {t u v:Tok} {tk:Nat} (I:AL X pins σ H s) (h1:-(2 ^ 62)<=lo) (h2:lo<2 ^ 62) (h3:-(2 ^ 62)<=hi) (h4:hi<2 ^ 62)
  (q:R (HG lo (hi-lo).toNat) H):wpAny (model X.prog X.w) X.A (pyIter (.ref s.heap.objs.size)) (Sr X pins σ tg R) E { s with heap:=s.heap.push { cls:=.type "range",data:=.fields #[.int lo t,.int hi u,.int 1 v] },toks:=tk }:=by
 refine wpAny_pyIter_range (IsRange.new ..) (small_one h1 h2 h3 h4) ?_;have I1:AL X pins σ H { s with heap:=s.heap.push { cls:=.type "range",data:=.fields #[.int lo t,.int hi u,.int 1 v] },toks:=tk }:=I.CK λb o e=>Heap.get?_push_of_some _ e
 refine⟨(s.heap.push { cls:=.type "range",data:=.fields #[.int lo t,.int hi u,.int 1 v] }).objs.size,[(s.heap.push { cls:=.type "range",data:=.fields #[.int lo t,.int hi u,.int 1 v] }).objs.size],_,_,H,rfl,
  I1.CK (t':=tk) λb o e=>Heap.get?_push_of_some _ e,Tx _ lo (hi-lo).toNat,?_,λb hb=>?_,q⟩
 ·have e1:lo+((0:Nat):Int)*1=lo:=by simp
  have e2:(((hi-lo).toNat:Nat):Int)-((0:Nat):Int)=Builtin.Range.rangeSize lo hi 1:=by rw[rangeSize_one]; split <;> omega
  show IsRangeIter _ _ (lo+((0:Nat):Int)*1) ((((hi-lo).toNat:Nat):Int)-((0:Nat):Int)) 1;rw[e1,e2];exact Heap.get?_push_size _ rfl
 ·have e:b=(s.heap.push { cls:=.type "range",data:=.fields #[.int lo t,.int hi u,.int 1 v] }).objs.size:=by simpa using hb
  subst e;exact I1.IP (Nat.le_refl _) (I1.hok.fresh (Nat.le_refl _))
def Y8(ta:TA):TI:=λσ H R=>ta σ H λvs H1=>∃j:Int,vs=[.int j]/\-(2 ^ 62)<=j/\j<2 ^ 62/\R (HG 0 j.toNat) H1
def ZH(ta:TA):TI:=λσ H R=>ta σ H λvs H1=>∃i j:Int,vs=[.int i,.int j]/\(-(2 ^ 62)<=i/\i<2 ^ 62/\-(2 ^ 62)<=j/\j<2 ^ 62)/\R (HG i (j-i).toNat) H1
theorem KJ{a:Expr}{ta:TA}{p pos:Pos}(hg:Gl X "range")(hm:X.mg "range" = none)(ha:PA X [a] ta)(hs:starEach [a] X.env=[(false,eval a X.env)]:=by rfl):PI X tg (.Call (.Name "range" p) [a] [] pos) (Y8 ta):=by
 intro pins s σ H R I h;refine Call_ (IB I hg hm boot_range (PyProof.Rows.callWith_type1 (Aa (ha pos pins s σ H _ I h) λus s1 ⟨vs,H1,I1,r1,q1⟩=>?_) hs rfl));obtain⟨j,e,q1,q2,q⟩:=q1;subst e;cases r1 with
 | cons r rr =>
  cases rr;obtain⟨t,rfl⟩:=r;exact call_range_1 (Pd I1 (by omega) (by omega) q1 q2 (by simpa using q))
theorem KI{a b:Expr}{ta:TA}{p pos:Pos}(hg:Gl X "range")(hm:X.mg "range" = none)(ha:PA X [a,b] ta)(hs:starEach [a,b] X.env=[(false,eval a X.env),(false,eval b X.env)]:=by rfl)(hs2:starEach [b] X.env=[(false,eval b X.env)]:=by rfl):
  PI X tg (.Call (.Name "range" p) [a,b] [] pos) (ZH ta):=by
 intro pins s σ H R I h;refine Call_ (IB I hg hm boot_range (PyProof.Rows.callWith_type1 (Aa (ha pos pins s σ H _ I h) λus s1 ⟨vs,H1,I1,r1,q1⟩=>?_) (by rw[hs,hs2]) (by rw[hs2]; rfl)));obtain⟨i,j,e,⟨q1,q2,q3,q4⟩,q⟩:=q1;subst e;cases r1 with
 | cons r rr =>
  cases rr with
  | cons r' rr =>
   cases rr;obtain⟨t,rfl⟩:=r;obtain⟨t',rfl⟩:=r';exact call_range_2 (Pd I1 q1 q2 q3 q4 q)
def aH(wi:TI)(g:TG)(tb:TS):TS:=λD σ H=>wi σ H λJ H1=>∃W:Nat->Nat->St->Hp->Prop,(∃m,W 0 m σ H1)/\∀i m σ H,W i m σ H →
 (J.stop i H/\D.nx σ H)\/(J.go i H/\∃N:St->Hp->Prop,(∀σ' H',N σ' H'->∃m',m' < m/\W (i+1) m' σ' H')/\∀x H',J.EC i H x H'->g x σ H' λσ2 H2=>tb { D with nx:=N,ct:=N,bk:=D.nx } σ2 H2)
def JQ(fp:List Addr)(h:Heap):List (Addr×Obj):=fp.filterMap λb=>(h.get? b).map λo=>(b,o)
theorem KA{fp:List Addr}{h:Heap}{b:Addr}{o:Obj}(hb:b∈fp)(e:h.get? b=some o):(b,o)∈JQ fp h:=List.mem_filterMap.mpr ⟨b,hb,by rw[e]; rfl⟩
theorem Ug{fp:List Addr}{h:Heap}{p:Addr×Obj}(hp:p∈JQ fp h):p.1∈fp/\h.get? p.1=some p.2:=by
 obtain⟨b,hb,e⟩:=List.mem_filterMap.mp hp;cases q:h.get? b with
 | none=>rw[q] at e; cases e
 | some o =>
  rw[q] at e;have e':(b,o)=p:=Option.some.inj e;subst e';exact⟨hb,q⟩
theorem AL.RH{pins:List (Addr×Obj)}{σ:St}{H:Hp}{s:Shared}{fp:List Addr}(I:AL X pins σ H s)(hf:∀b∈fp,E6 X pins H b)(ho:∀b∈fp,∃o,s.heap.get? b=some o/\∀v,o.data≠.cell v):AL X (pins++JQ fp s.heap) σ H s :=
 I.QS λp hp=>(List.mem_append.mp hp).elim (λz=>I.Ct p (List.mem_append_right _ z)) λz=>by
  obtain⟨hb,e⟩:=Ug z;obtain⟨f0,f1,f2,_⟩:=hf p.1 hb;obtain⟨o,e',d⟩:=ho p.1 hb;rw[e] at e'; cases e';exact⟨e,f0,f1,f2,d⟩
theorem AL.Iq{pins pl:List (Addr×Obj)}{σ:St}{H:Hp}{s:Shared}(I:AL X (pins++pl) σ H s):AL X pins σ H s:=I.QS λp hp=>I.Ct p (List.mem_append_right _ (List.mem_append_left _ hp))
theorem DE {iter:Expr} {body:List Stmt} {wi:TI} {g:TG} {tb:TS} {pos:Pos} (hp:PassesOwn (model X.prog X.w) X.A X.env X.xe) (hc:X.By=true) (hi:PI X tg iter wi) (hg:PG X tg g) (hb:Cs X body tb)
  (hs:∀x,foldedSetIterable iter X.env x=pure x:=by intro _; rfl):PS X (.For tg iter body [] pos) (aH wi g tb):=by
 intro pins s σ H D I h;refine wpAny_For (Aa (hi pins s σ H _ I h) λv s1 h1=>Aa h1 λitv s2 h2=>?_) hs;obtain⟨it,fp,tn,J,H2,e,I2,T,st2,f2,W,⟨m0,w0⟩,turn⟩:=h2;subst e;have stat:∀{H':Hp},(∀b∈fp,H' b=none)->∀b∈fp,E6 X pins H' b:=λhn b hb=>⟨hn b hb,(f2 b hb).2⟩
 refine codeAny_forLoop_any (λn s'=>∃i σ' H',AL X pins σ' H' s'/\tn i s'.heap/\(∀b∈fp,H' b=none)/\W i n σ' H') ?_ m0 ⟨0,σ,H2,I2,st2,λb hb=>(f2 b hb).1,w0⟩;rintro n s3 ⟨i,σ3,H3,I3,st3,fr3,w3⟩;rcases turn i n σ3 H3 w3 with ⟨stop,qn⟩ | ⟨go,N,hN,step⟩
 ·refine wpAny_passesOwn hp (Aa (T.done X rfl rfl rfl hc i pins s3 σ3 H3 X.xe I3 (stat fr3) st3 stop) λr s4 ⟨hr,I4⟩=>?_);subst hr;exact wpAny_execs_nil ⟨σ3,H3,I4,qn⟩
 ·refine wpAny_passesOwn hp (Aa (T.item X rfl rfl rfl hc i pins s3 σ3 H3 X.xe I3 (stat fr3) st3 go) λr s4 ⟨u,hr,h4⟩=>?_);subst hr;refine wpAny_passesOwn hp (Aa h4 λ_ s5 ⟨x,H5,I5,r5,y5,st5,fr5⟩=>?_);have I5':=I5.RH (stat fr5) (T.obj _ _ st5);refine wpAny_passesOwn hp (Aa (hg _ s5 σ3 H5 x u _ I5' r5 (step x H5 y5)) λ_ s6 ⟨σ6,H6,I6,q6⟩=>?_);refine wpAny_passesOwn hp (Aa (hb _ s6 σ6 H6 _ I6 q6) λf s7 q7=>?_);have again:∀{σ7:St} {H7:Hp},AL X (pins++JQ fp s5.heap) σ7 H7 s7->N σ7 H7->∃m,m<n/\∃i σ' H',AL X pins σ' H' s7/\tn i s7.heap/\(∀b∈fp,H' b=none)/\W i m σ' H':=λ{σ7 H7} I7 n7=>by
   obtain⟨m',hm,w7⟩:=hN σ7 H7 n7;refine⟨m',hm,i+1,σ7,H7,I7.Iq,T.keep _ _ _ st5 λb hb o e=>(I7.Ct (b,o) (List.mem_append_right _ (List.mem_append_right _ (KA hb e)))).1,λb hb=>?_,w7⟩;obtain⟨o,e,d⟩:=T.obj _ _ st5 b hb;exact(I7.Ct (b,o) (List.mem_append_right _ (List.mem_append_right _ (KA hb e)))).2.1
  cases f with
  | next=>obtain⟨σ7,H7,I7,n7⟩:=q7; exact again I7 n7
  | cont=>obtain⟨σ7,H7,I7,n7⟩:=q7; exact again I7 n7
  | brk=>obtain⟨σ7,H7,I7,q7⟩:=q7; exact⟨σ7,H7,I7.Iq,q7⟩
  | ret v=>obtain⟨x7,σ7,H7,I7,r7,q7⟩:=q7; exact⟨x7,σ7,H7,I7.Iq,r7,q7⟩
end
theorem P8 {K:PySem.W.Frag} {a:Addr} {xs:List V} {g:TG} {tb:TS} {D:C5} {σ:St} {H:Hp} (Pv:Nat->St->Hp->Prop) (h0:Pv 0 σ H) (hl:∀i σ H,i<=xs.length->Pv i σ H->AS K H a xs)
  (hs:∀i x σ H,xs[i]?=some x->Pv i σ H->g x σ H λσ2 H2=>tb { D with nx:=Pv (i+1),ct:=Pv (i+1),bk:=D.nx } σ2 H2) (hd:∀σ H,Pv xs.length σ H->D.nx σ H) :
  ∃W:Nat->Nat->St->Hp->Prop,(∃m,W 0 m σ H)/\∀i m σ H,W i m σ H →
   ((GO K a).stop i H/\D.nx σ H)\/((GO K a).go i H/\∃N:St->Hp->Prop,(∀σ' H',N σ' H'->∃m',m' < m/\W (i+1) m' σ' H')/\∀x H',(GO K a).EC i H x H'->g x σ H' λσ2 H2=>tb { D with nx:=N,ct:=N,bk:=D.nx } σ2 H2):=by
 refine⟨λi m σ H=>m=xs.length-i/\i<=xs.length/\Pv i σ H,⟨xs.length,by simp,Nat.zero_le _,h0⟩,?_⟩;rintro i m σ H ⟨rfl,hi,p⟩;have q:=hl i σ H hi p;by_cases hlt:i<xs.length
 ·refine .inr ⟨⟨xs,xs[i],q,by simp[hlt]⟩,Pv (i+1),λσ' H' p'=>⟨xs.length-(i+1),by omega,rfl,hlt,p'⟩,λx H' y=>?_⟩;obtain⟨e,y⟩:=y;subst e;exact hs i x σ _ (y xs q) p
 ·have e:i=xs.length:=by omega
  subst e;exact .inl ⟨⟨xs,q,Nat.le_refl _⟩,hd σ H p⟩
theorem Qa {K:PySem.W.Frag} {a:Addr} {xs:List V} {g:TG} {tb:TS} {D:C5} {σ:St} {H:Hp} (Pv:Nat->St->Hp->Prop) (h0:Pv 0 σ H) (hl:∀i σ H,i<=xs.length->Pv i σ H->AJ K H a xs)
  (hs:∀i x σ H,xs[i]?=some x->Pv i σ H->g x σ H λσ2 H2=>tb { D with nx:=Pv (i+1),ct:=Pv (i+1),bk:=D.nx } σ2 H2) (hd:∀σ H,Pv xs.length σ H->D.nx σ H) :
  ∃W:Nat->Nat->St->Hp->Prop,(∃m,W 0 m σ H)/\∀i m σ H,W i m σ H →
   ((Ie K a).stop i H/\D.nx σ H)\/((Ie K a).go i H/\∃N:St->Hp->Prop,(∀σ' H',N σ' H'->∃m',m' < m/\W (i+1) m' σ' H')/\∀x H',(Ie K a).EC i H x H'->g x σ H' λσ2 H2=>tb { D with nx:=N,ct:=N,bk:=D.nx } σ2 H2):=by
 refine⟨λi m σ H=>m=xs.length-i/\i<=xs.length/\Pv i σ H,⟨xs.length,by simp,Nat.zero_le _,h0⟩,?_⟩;rintro i m σ H ⟨rfl,hi,p⟩;have q:=hl i σ H hi p;by_cases hlt:i<xs.length
 ·refine .inr ⟨⟨xs,xs[i],q,by simp[hlt]⟩,Pv (i+1),λσ' H' p'=>⟨xs.length-(i+1),by omega,rfl,hlt,p'⟩,λx H' y=>?_⟩;obtain⟨e,y⟩:=y;subst e;exact hs i x σ _ (y xs q) p
 ·have e:i=xs.length:=by omega
  subst e;exact .inl ⟨⟨xs,q,Nat.le_refl _⟩,hd σ H p⟩
theorem HI {lo:Int} {n:Nat} {g:TG} {tb:TS} {D:C5} {σ:St} {H:Hp} (Pv:Nat->St->Hp->Prop) (h0:Pv 0 σ H)
  (hs:∀i σ H,i<n->Pv i σ H->g (.int (lo+i)) σ H λσ2 H2=>tb { D with nx:=Pv (i+1),ct:=Pv (i+1),bk:=D.nx } σ2 H2) (hd:∀σ H,Pv n σ H->D.nx σ H) :
  ∃W:Nat->Nat->St->Hp->Prop,(∃m,W 0 m σ H)/\∀i m σ H,W i m σ H →
   ((HG lo n).stop i H/\D.nx σ H)\/((HG lo n).go i H/\∃N:St->Hp->Prop,(∀σ' H',N σ' H'->∃m',m' < m/\W (i+1) m' σ' H')/\∀x H',(HG lo n).EC i H x H'->g x σ H' λσ2 H2=>tb { D with nx:=N,ct:=N,bk:=D.nx } σ2 H2):=by
 refine⟨λi m σ H=>m=n-i/\i<=n/\Pv i σ H,⟨n,by simp,Nat.zero_le _,h0⟩,?_⟩;rintro i m σ H ⟨rfl,hi,p⟩;by_cases hlt:i<n
 ·refine .inr ⟨hlt,Pv (i+1),λσ' H' p'=>⟨n-(i+1),by omega,rfl,hlt,p'⟩,λx H' y=>?_⟩;obtain⟨e,y⟩:=y;subst e y;exact hs i σ _ hlt p
 ·have e:i=n:=by omega
  subst e;exact .inl ⟨Nat.le_refl _,hd σ H p⟩
theorem Pk {c:TT} {tb:TS} {D:C5} {σ:St} {H:Hp} (Pv:St->Hp->Prop) (μ:St->Hp->Nat) (h0:Pv σ H)
  (hs:∀σ H,Pv σ H->c σ H λb H1=>if b=true then tb { D with nx:=λσ' H'=>Pv σ' H'/\μ σ' H' < μ σ H,ct:=λσ' H'=>Pv σ' H'/\μ σ' H' < μ σ H,bk:=D.nx } σ H1 else D.nx σ H1)
  (mono:∀σ H Q Q',(∀b H1,Q b H1->Q' b H1)->c σ H Q->c σ H Q'):RC c tb D σ H:=by
 refine⟨λm σ H=>m=μ σ H/\Pv σ H,⟨_,rfl,h0⟩,?_⟩;rintro m σ H ⟨rfl,p⟩;refine mono σ H _ _ (λb H1 q=>?_) (hs σ H p);cases b with
 | true=>exact⟨_,λσ' H' ⟨p',l⟩=>⟨_,l,rfl,p'⟩,q⟩
 | false=>exact q
abbrev R2:=V->V->Hp->VK->Prop
def BZ(X:Cx)(f:Value->Value->Sem Value)(r:R2):Prop :=
 ∀(pins:List (Addr×Obj)) (s:Shared) (σ:St) (H:Hp) (x y:V) (v u:Value) (Q:VK),AL X pins σ H s->Av x v->Av y u->r x y H Q →
  wpAny (model X.prog X.w) X.A (f v u) (EP X pins σ Q) X.xe s
def OH(X:Cx)(f:Value->Sem Value)(r:V->Hp->VK->Prop):Prop :=
 ∀(pins:List (Addr×Obj)) (s:Shared) (σ:St) (H:Hp) (x:V) (v:Value) (Q:VK),AL X pins σ H s->Av x v->r x H Q →
  wpAny (model X.prog X.w) X.A (f v) (EP X pins σ Q) X.xe s
def Ck(X:Cx)(f:Value)(r:List V->Hp->VK->Prop):Prop :=
 ∀(pins:List (Addr×Obj)) (s:Shared) (σ:St) (H:Hp) (xs:List V) (us:List Value) (Q:VK),AL X pins σ H s->Ah xs us->r xs H Q →
  wpAny (model X.prog X.w) X.A (call f us) (EP X pins σ Q) X.xe s
def BG(r:R2)(ta tb:TE):TE:=λσ H Q=>ta σ H λx H1=>tb σ H1 λy H2=>r x y H2 Q
def bN(r:V->Hp->VK->Prop)(ta:TE):TE:=λσ H Q=>ta σ H λx H1=>r x H1 Q
inductive IR(C:Int->Int->Prop)(g:Int->Int->V)(x y:V)(H:Hp)(Q:VK):Prop
 | mk (i j:Int) (a:x=.int i) (b:y=.int j) (c:C i j) (q:Q (g i j) H):IR C g x y H Q
def rI(C:Int->Int->Prop)(g:Int->Int->V):R2:=λx y H Q=>IR C g x y H Q
inductive S4(g:Int->Int->V)(x y:V)(H:Hp)(Q:VK):Prop
 | mk (i j:Int) (a:x=.int i) (b:y=.int j) (q:Q (g i j) H):S4 g x y H Q
def GQ(g:Int->Int->V):R2:=λx y H Q=>S4 g x y H Q
def rU(g:Int->V):V->Hp->VK->Prop:=λx H Q=>∃i,x=.int i/\Q (g i) H
section
variable {X:Cx} {a b c:Expr} {ta tb tc:TE} {pos:Pos}
theorem Ng (ha:PE X a ta) (hb:PE X b tb) {pins:List (Addr×Obj)} {s:Shared} {σ:St} {H:Hp} {R:V->V->Hp->Prop} (I:AL X pins σ H s)
  (h:ta σ H λx H1=>tb σ H1 λy H2=>R x y H2) {Q:Value->Shared->Prop} {f:Value->Value->Sem Value}
  (hf:∀v u s2 x y H2,AL X pins σ H2 s2->Av x v->Av y u->R x y H2->wpAny (model X.prog X.w) X.A (f v u) Q X.xe s2) :
  wpAny (model X.prog X.w) X.A (eval a X.env) (λv s₁=>wpAny (model X.prog X.w) X.A (eval b X.env) (λu s₂=>wpAny (model X.prog X.w) X.A (f v u) Q X.xe s₂) X.xe s₁) X.xe s:=by
 refine Aa (ha pins s σ H _ I h) λv s1 ⟨x,H1,I1,r1,q1⟩=>?_
 refine Aa (hb pins s1 σ H1 _ I1 q1) λu s2 ⟨y,H2,I2,r2,q2⟩=>?_
 exact hf v u s2 x y H2 I2 r1 r2 q2
theorem AW{op:Operator}{r:R2}(ho:BZ X (binaryOp op) r)(ha:PE X a ta)(hb:PE X b tb):PE X (.BinOp a op b pos) (BG r ta tb):=by
 intro pins s σ H Q I h;exact wpAny_BinOp (Ng ha hb I h λv u s2 x y H2 I2 rx ry q=>ho pins s2 σ H2 x y v u Q I2 rx ry q)
theorem NF{op:UnaryOp}{r:V->Hp->VK->Prop}(ho:OH X (unaryOp op) r)(ha:PE X a ta):PE X (.UnaryOp op a pos) (bN r ta):=by
 intro pins s σ H Q I h;exact UnaryOp_ (Aa (ha pins s σ H _ I h) λv s1 ⟨x,H1,I1,r1,q1⟩=>ho pins s1 σ H1 x v Q I1 r1 q1)
theorem Hh {f:Value->Value->Sem Value} {C:Int->Int->Prop} {g:Int->Int->Int}
  (rule:∀(i j:Int) (t u:Tok) (s:Shared) (Q:Value->Shared->Prop) (E:Value->Shared->Prop),C i j->Q (.int (g i j) s.toks) { s with toks:=s.toks+1 }->wpAny (model X.prog X.w) X.A (f (.int i t) (.int j u)) Q E s) :
  BZ X f (rI C λi j=>.int (g i j)):=by
 intro pins s σ H x y v u Q I rx ry h;obtain⟨i,j,rfl,rfl,hc,q⟩:=h;obtain⟨t,rfl⟩:=rx;obtain⟨t',rfl⟩:=ry;exact rule i j t t' s _ _ hc ⟨.int (g i j),H,I.DR _,⟨_,rfl⟩,q⟩
theorem SJ {f:Value->Value->Sem Value} {g:Int->Int->Int}
  (rule:∀(i j:Int) (t u:Tok) (s:Shared) (Q:Value->Shared->Prop) (E:Value->Shared->Prop),Q (.int (g i j) s.toks) { s with toks:=s.toks+1 }->wpAny (model X.prog X.w) X.A (f (.int i t) (.int j u)) Q E s) :
  BZ X f (GQ λi j=>.int (g i j)):=by
 intro pins s σ H x y v u Q I rx ry h;obtain⟨i,j,rfl,rfl,q⟩:=h;obtain⟨t,rfl⟩:=rx;obtain⟨t',rfl⟩:=ry;exact rule i j t t' s _ _ ⟨.int (g i j),H,I.DR _,⟨_,rfl⟩,q⟩
theorem N5 {f:Value->Value->Sem Value} {g:Int->Int->Bool}
  (rule:∀(i j:Int) (t u:Tok) (s:Shared) (Q:Value->Shared->Prop) (E:Value->Shared->Prop),Q (.bool (g i j)) s->wpAny (model X.prog X.w) X.A (f (.int i t) (.int j u)) Q E s) :
  BZ X f (GQ λi j=>.bl (g i j)):=by
 intro pins s σ H x y v u Q I rx ry h;obtain⟨i,j,rfl,rfl,q⟩:=h;obtain⟨t,rfl⟩:=rx;obtain⟨t',rfl⟩:=ry;exact rule i j t t' s _ _ ⟨.bl (g i j),H,I,rfl,q⟩
def NS(i j:Int):Prop:=0<j/\j<1073741824
def aB(i j:Int):Prop:=0<=j/\j<=1000000/\i.natAbs<2 ^ 64
def IZ(i j:Int):Prop:=(-(2 ^ 64)<i/\i<2 ^ 64)\/(-(2 ^ 64)<j/\j<2 ^ 64)
theorem IZ.ok{i j:Int}(h:IZ i j):IntMulOk i j:=by
 rcases h with ⟨h1,h2⟩ | ⟨h1,h2⟩
 ·exact .of_left (intBits_le_64 h1 h2)
 ·exact .of_right (intBits_le_64 h1 h2)
theorem BW:BZ X (binaryOp .Add) (GQ λi j=>.int (i+j)):=SJ λ_ _ _ _ _ _ _ q=>add_int q
theorem CI:BZ X (binaryOp .Sub) (GQ λi j=>.int (i-j)):=SJ λ_ _ _ _ _ _ _ q=>sub_int q
theorem Mx:BZ X (binaryOp .Mult) (rI IZ λi j=>.int (i*j)):=Hh λ_ _ _ _ _ _ _ hc q=>mul_int q hc.ok
theorem EL:BZ X (binaryOp .FloorDiv) (rI NS λi j=>.int (i / j)):=Hh λi j _ _ _ _ _ hc q=>by
 have h1:(0:Int)<j:=hc.1;have h2:j<1073741824:=hc.2;exact floordiv_int (by omega) (by rw[Int.fdiv_eq_ediv_of_nonneg i (by omega)]; exact q) (.inl (PyProof.noPylong_small (by omega)))
theorem Bs:BZ X (binaryOp .Mod) (rI (λ_ j=>0<j) λi j=>.int (i % j)):=Hh λi j _ _ _ _ _ hc q=>by
 have h1:(0:Int)<j:=hc;exact mod_int' (by omega) (by rw[Int.fmod_eq_emod_of_nonneg i (by omega)]; exact q)
theorem Xk:BZ X (binaryOp .Mod) (rI (λ_ j=>j≠0) λi j=>.int (i.fmod j)):=Hh λ_ _ _ _ _ _ _ hc q=>mod_int' hc q
theorem X5:BZ X (binaryOp .Pow) (rI aB λi j=>.int (i ^ j.toNat)):=Hh λ_ _ _ _ _ _ _ hc q=>pow_int_small hc.1 hc.2.1 hc.2.2 q
theorem bQ {f:Value->Sem Value} {g:Int->Int}
  (rule:∀(i:Int) (t:Tok) (s:Shared) (Q:Value->Shared->Prop) (E:Value->Shared->Prop),Q (.int (g i) s.toks) { s with toks:=s.toks+1 }->wpAny (model X.prog X.w) X.A (f (.int i t)) Q E s) :
  OH X f (rU λi=>.int (g i)):=by
 intro pins s σ H x v Q I rx h;obtain⟨i,rfl,q⟩:=h;obtain⟨t,rfl⟩:=rx;exact rule i t s _ _ ⟨.int (g i),H,I.DR _,⟨_,rfl⟩,q⟩
theorem Mr:OH X (unaryOp .USub) (rU λi=>.int (-i)):=bQ λ_ _ _ _ _ q=>neg_int q
end
def Se:V->V->Bool
 | .Ay,.Ay=>true | .Ay,.int _=>true | .int _,.Ay=>true | .Ay,.bl _=>true | .bl _,.Ay=>true | .Ay,.str _=>true | .str _,.Ay=>true
 | .int _,.int _=>true | .bl _,.bl _=>true | .str _,.str _=>true | .ED _,.ED _=>true
 | .int _,.str _=>true | .str _,.int _=>true | .bl _,.str _=>true | .str _,.bl _=>true
 | _,_=>false
inductive Sz(x y:V)(H:Hp)(Q:VK):Prop
 | mk (c:Se x y=true) (q:Q (.bl (decide (x=y))) H):Sz x y H Q
inductive Ss(x y:V)(H:Hp)(Q:VK):Prop
 | mk (c:Se x y=true) (q:Q (.bl (!decide (x=y))) H):Ss x y H Q
def J6:R2:=λx y H Q=>Sz x y H Q
def bA:R2:=λx y H Q=>Ss x y H Q
theorem Ke{i j:Int}:decide (V.int i=V.int j)=(i == j):=by
 rw[Bool.eq_iff_iff];simp
theorem Mu{i j:Bool}:decide (V.bl i=V.bl j)=(i == j):=by
 rw[Bool.eq_iff_iff];simp
theorem QH{i j:Str}:decide (V.str i=V.str j)=(i == j):=by
 rw[Bool.eq_iff_iff];simp
theorem QL{i j:Array UInt8}:decide (V.ED i=V.ED j)=(i.toList == j.toList):=by
 rw[Bool.eq_iff_iff];cases i;cases j;simp
section
variable {X:Cx} {a b c:Expr} {ta tb tc:TE} {pos:Pos}
theorem Bf{pins:List (Addr×Obj)}{σ:St}{H:Hp}{s:Shared}{Q:VK}{k k':Bool}(I:AL X pins σ H s)(q:Q (.bl k) H)(e:k=k'):EP X pins σ Q (.bool k') s:=by
 subst e;exact⟨.bl k,H,I,rfl,q⟩
theorem CQ:BZ X (compareOp .Eq) J6:=by
 intro pins s σ H x y v u Q I rx ry h;obtain⟨hs,q⟩:=h;cases x with
 | Ay =>
  cases rx;cases y with
  | Ay=>cases ry; exact PySem.EqNone.eq_none_none (Bf I q (by simp))
  | bl j=>cases ry; exact PySem.EqNone.eq_none_bool (Bf I q (by simp))
  | int j=>obtain⟨t',rfl⟩:=ry; exact PySem.EqNone.eq_none_int (Bf I q (by simp))
  | str j=>obtain⟨t',rfl⟩:=ry; exact PySem.EqNone.eq_none_str (Bf I q (by simp))
  | _=>exact absurd (show false=true from hs) Bool.false_ne_true
 | bl i =>
  cases rx;cases y with
  | Ay=>cases ry; exact PySem.EqNone.eq_bool_none (Bf I q (by simp))
  | bl j=>cases ry; exact eq_bool (Bf I q Mu)
  | str j=>obtain⟨t',rfl⟩:=ry; exact PySem.EqMixed.eq_bool_str (Bf I q (by simp))
  | _=>exact absurd (show false=true from hs) Bool.false_ne_true
 | int i =>
  obtain⟨t,rfl⟩:=rx;cases y with
  | Ay=>cases ry; exact PySem.EqNone.eq_int_none (Bf I q (by simp))
  | int j=>obtain⟨t',rfl⟩:=ry; exact eq_int (Bf I q Ke)
  | str j=>obtain⟨t',rfl⟩:=ry; exact PySem.EqMixed.eq_int_str (Bf I q (by simp))
  | _=>exact absurd (show false=true from hs) Bool.false_ne_true
 | str i =>
  obtain⟨t,rfl⟩:=rx;cases y with
  | Ay=>cases ry; exact PySem.EqNone.eq_str_none (Bf I q (by simp))
  | bl j=>cases ry; exact PySem.EqMixed.eq_str_bool (Bf I q (by simp))
  | int j=>obtain⟨t',rfl⟩:=ry; exact PySem.EqMixed.eq_str_int (Bf I q (by simp))
  | str j=>obtain⟨t',rfl⟩:=ry; exact eq_str (Bf I q QH)
  | _=>exact absurd (show false=true from hs) Bool.false_ne_true
 | ED i =>
  obtain⟨t,rfl⟩:=rx;cases y with
  | ED j=>obtain⟨t',rfl⟩:=ry; exact PySem.W.eq_bytes (Bf I q QL)
  | _=>exact absurd (show false=true from hs) Bool.false_ne_true
 | _=>cases y <;> exact absurd (show false=true from hs) Bool.false_ne_true
theorem ER:BZ X (compareOp .NotEq) bA:=by
 intro pins s σ H x y v u Q I rx ry h;obtain⟨hs,q⟩:=h;cases x with
 | Ay =>
  cases rx;cases y with
  | Ay=>cases ry; exact PySem.EqNone.ne_none_none (Bf I q (by simp))
  | bl j=>cases ry; exact PySem.EqNone.ne_none_bool (Bf I q (by simp))
  | int j=>obtain⟨t',rfl⟩:=ry; exact PySem.EqNone.ne_none_int (Bf I q (by simp))
  | str j=>obtain⟨t',rfl⟩:=ry; exact PySem.EqNone.ne_none_str (Bf I q (by simp))
  | _=>exact absurd (show false=true from hs) Bool.false_ne_true
 | bl i =>
  cases rx;cases y with
  | Ay=>cases ry; exact PySem.EqNone.ne_bool_none (Bf I q (by simp))
  | bl j=>cases ry; exact ne_bool (Bf I q (congrArg not Mu))
  | str j=>obtain⟨t',rfl⟩:=ry; exact PySem.EqMixed.ne_bool_str (Bf I q (by simp))
  | _=>exact absurd (show false=true from hs) Bool.false_ne_true
 | int i =>
  obtain⟨t,rfl⟩:=rx;cases y with
  | Ay=>cases ry; exact PySem.EqNone.ne_int_none (Bf I q (by simp))
  | int j=>obtain⟨t',rfl⟩:=ry; exact ne_int (Bf I q (congrArg not Ke))
  | str j=>obtain⟨t',rfl⟩:=ry; exact PySem.EqMixed.ne_int_str (Bf I q (by simp))
  | _=>exact absurd (show false=true from hs) Bool.false_ne_true
 | str i =>
  obtain⟨t,rfl⟩:=rx;cases y with
  | Ay=>cases ry; exact PySem.EqNone.ne_str_none (Bf I q (by simp))
  | bl j=>cases ry; exact PySem.EqMixed.ne_str_bool (Bf I q (by simp))
  | int j=>obtain⟨t',rfl⟩:=ry; exact PySem.EqMixed.ne_str_int (Bf I q (by simp))
  | str j=>obtain⟨t',rfl⟩:=ry; exact ne_str (Bf I q (congrArg not QH))
  | _=>exact absurd (show false=true from hs) Bool.false_ne_true
 | ED i =>
  obtain⟨t,rfl⟩:=rx;cases y with
  | ED j=>obtain⟨t',rfl⟩:=ry; exact PySem.W.ne_bytes (Bf I q (congrArg not QL))
  | _=>exact absurd (show false=true from hs) Bool.false_ne_true
 | _=>cases y <;> exact absurd (show false=true from hs) Bool.false_ne_true
theorem D7:BZ X (compareOp .Lt) (GQ λi j=>.bl (decide (i<j))):=N5 λ_ _ _ _ _ _ _ q=>lt_int q
theorem IK:BZ X (compareOp .LtE) (GQ λi j=>.bl (decide (i<=j))):=N5 λ_ _ _ _ _ _ _ q=>le_int q
theorem EV:BZ X (compareOp .Gt) (GQ λi j=>.bl (decide (j<i))):=N5 λ_ _ _ _ _ _ _ q=>gt_int q
theorem Ai(b:Expr){op:CmpOp}(h:op≠.In:=by decide)(h2:op≠.NotIn:=by decide):behindInMarks op b=false:=by
 have e1:(op == CmpOp.In)=false:=by cases op <;> first | rfl | exact absurd rfl h
 have e2:(op == CmpOp.NotIn)=false:=by cases op <;> first | rfl | exact absurd rfl h2
 cases b <;> simp[behindInMarks,e1,e2]
theorem Bq{op:CmpOp}{r:R2}(ho:BZ X (compareOp op) r)(ha:PE X a ta)(hb:PE X b tb)(hm:behindInMarks op b=false):PE X (.Compare a [op] [b] pos) (BG r ta tb):=by
 intro pins s σ H Q I h;exact wpAny_Compare1 (Ng ha hb I h λv u s2 x y H2 I2 rx ry q=>ho pins s2 σ H2 x y v u Q I2 rx ry q) hm
def LS(t:TE):TT:=λσ H Q=>t σ H λx H'=>OD x H' Q
theorem Aw{op:CmpOp}{r:R2}(ho:BZ X (compareOp op) r)(ha:PE X a ta)(hb:PE X b tb)(hm:behindInMarks op b=false):PT X (.Compare a [op] [b] pos) (LS (BG r ta tb)):=by
 intro pins s σ H Q I h;refine wpAny_isTrue_Compare1 (Aa (ha pins s σ H _ I h) λv s1 ⟨x,H1,I1,r1,q1⟩=>Aa (hb pins s1 σ H1 _ I1 q1) λu s2 ⟨y,H2,I2,r2,q2⟩ =>
  Aa (ho pins s2 σ H2 x y v u _ I2 r1 r2 q2) λc s3 ⟨z,H3,I3,r3,k,e,q3⟩=>?_) hm
 subst e;cases r3;exact wpAny_truthy_bool ⟨H3,I3,q3⟩
theorem K2:(sizeLine:Nat)<2 ^ 63:=by rw[sizeLine_eq]; decide
theorem Eu{x:V}{us:List Value}(r:Ah [x] us):∃u,us=[u]/\Av x u:=by
 cases r with
 | cons r1 r2=>cases r2; exact⟨_,rfl,r1⟩
theorem JU{x y:V}{us:List Value}(r:Ah [x,y] us):∃u w',us=[u,w']/\Av x u/\Av y w':=by
 cases r with
 | cons r1 r2 =>
  cases r2 with
  | cons r3 r4=>cases r4; exact⟨_,_,rfl,r1,r3⟩
theorem P6:Ck X (.builtin "abs") (λxs H Q=>∃i,xs=[.int i]/\Q (.int (if i<0 then -i else i)) H):=by
 intro pins s σ H xs us Q I r h;obtain⟨i,rfl,q⟩:=h;obtain⟨u,rfl,t,rfl⟩:=Eu r;exact call_abs_int λu tk=>⟨.int (if i<0 then -i else i),H,I.DR _,⟨_,rfl⟩,q⟩
theorem Ip(hc:X.By=true):Ck X (.builtin "max") (λxs H Q=>∃i j,xs=[.int i,.int j]/\Q (.int (if j > i then j else i)) H):=by
 intro pins s σ H xs us Q I r h;obtain⟨i,j,rfl,q⟩:=h;obtain⟨u,w',rfl,⟨t,rfl⟩,⟨t',rfl⟩⟩:=JU r;refine max_two_ints (I.ok.hd hc) λh' tk k=>⟨_,H,I.CK k,?_,q⟩
 by_cases hj:j > i
 ·rw[if_pos hj,if_pos hj]; exact⟨_,rfl⟩
 ·rw[if_neg hj,if_neg hj]; exact⟨_,rfl⟩
theorem Io(hc:X.By=true):Ck X (.builtin "min") (λxs H Q=>∃i j,xs=[.int i,.int j]/\Q (.int (if j<i then j else i)) H):=by
 intro pins s σ H xs us Q I r h;obtain⟨i,j,rfl,q⟩:=h;obtain⟨u,w',rfl,⟨t,rfl⟩,⟨t',rfl⟩⟩:=JU r;refine min_two_ints (I.ok.hd hc) λh' tk k=>⟨_,H,I.CK k,?_,q⟩
 by_cases hj:j<i
 ·rw[if_pos hj,if_pos hj]; exact⟨_,rfl⟩
 ·rw[if_neg hj,if_neg hj]; exact⟨_,rfl⟩
theorem PQ:Ck X (.type "int") (λxs H Q=>(∃i,xs=[.int i]/\Q (.int i) H)\/∃k,xs=[.bl k]/\Q (.int (if k then 1 else 0)) H):=by
 intro pins s σ H xs us Q I r h;rcases h with ⟨i,rfl,q⟩ | ⟨k,rfl,q⟩
 ·obtain⟨u,rfl,t,rfl⟩:=Eu r;exact call_int_int ⟨.int i,H,I,⟨_,rfl⟩,q⟩
 ·obtain⟨u,rfl,r1⟩:=Eu r;cases r1;exact call_int_bool ⟨.int (if k then 1 else 0),H,I.DR _,⟨_,rfl⟩,q⟩
end
structure HX(h:Heap)(x dx C:Addr)(mA:Str->Option Value):Prop where
 obj:h.get? x=some (PySem.W.instObj C dx)
 ns:h.Ns1 dx mA
 ne:dx≠x
theorem Uw{h:Heap}{dx:Addr}{mA:Str->Option Value}(n:h.Ns1 dx mA):∃od,h.get? dx=some od/\∀name,PySem.W.lookIn name od=some (mA name):=by
 obtain⟨o,es,ep,ho,hd,hk,_,hm⟩:=n;refine⟨o,ho,λname=>?_⟩;have e:=hm name;unfold nsFind findBy at e;rw[<-Array.find?_toList] at e;unfold PySem.W.lookIn;rw[hd];dsimp only;split
 ·rename_i y q
  rw[q] at e;exact congrArg some e
 ·rename_i q
  rw[q] at e;have a:es.toList.any (·.refKey)=false:=by
   rw[List.any_eq_false];intro y hy;obtain⟨z,t,hkey⟩:=hk y (Array.mem_toList_iff.mp hy);simp[DictEntry.refKey,hkey]
  have a':¬es.toList.any (·.refKey)=true:=by rw[a]; exact Bool.false_ne_true
  rw[if_neg a'];exact congrArg some e
theorem HX.Ld{h:Heap}{x dx C:Addr}{mA:Str->Option Value}(I:HX h x dx C mA):∃od,PySem.W.InstAt h x (PySem.W.instObj C dx) C (some od)/\∀name,PySem.W.lookIn name od=some (mA name) :=
 let ⟨od,ho,hl⟩:=Uw I.ns
 ⟨od,⟨I.obj,rfl,rfl,ho⟩,hl⟩
section
variable {prog:Program} {w:World} {A:Around} {E:Value->Shared->Prop} {s:Shared} {K:PySem.W.Frag} {x dx C f:Addr} {mA:Str->Option Value} {name:Str} {v:Value}
theorem W0 {expr:Bool} {Q:Value->Shared->Prop} (X:K.In s.heap) (I:HX s.heap x dx C mA) (hg:PySem.W.plainGet K C name=true) (hh:PySem.W.hasDictIn K C=true)
  (ha:PySem.W.findIn K (.ref C) name=some none) (hv:mA name=some v) (hv':PySem.W.handedIn v=true) (h:Q v { s with toks:=s.toks+1 }) :
  wpAny (model prog w) A (getAttr (.ref x) name expr) Q E s:=by
 obtain⟨od,J,hl⟩:=I.Ld;exact PySem.W.get_value X J (PySem.W.plainGet_of hg).1 (PySem.W.findObj_own hh ha rfl (by rw[hl,hv])) hv' h
theorem Vm {pl:Sem Bool} {Q:Value×List Value->Shared->Prop} (X:K.In s.heap) (I:HX s.heap x dx C mA) (hg:PySem.W.plainGet K C name=true)
  (hf:PySem.W.findIn K (.ref C) name=some (some (.ref f))) (ht:PySem.W.isFn K (.ref f)=true) (hv:mA name=none) (h:Q (.ref f,[.ref x]) s) :
  wpAny (model prog w) A (getMethod (.ref x) name pl) Q E s:=by
 obtain⟨od,J,hl⟩:=I.Ld;exact PySem.W.method_fn X J (PySem.W.plainGet_of hg).1 (PySem.W.plainGet_of hg).2 hf (beq_iff_eq.mp ht) (by show(PySem.W.lookIn name od).map (·.isSome)=some false; rw[hl,hv]; rfl) h
theorem Xz {ns:List Str} {Q:Unit->Shared->Prop} (X:K.In s.heap) (I:HX s.heap x dx C mA)
  (hs:PySem.W.findIn K (.ref C) "__setattr__" = some (some (.builtin "object.__setattr__"))) (hp:PySem.W.plainOver K C=true) (ht:PySem.W.takerIn K C name=some none) (hh:PySem.W.hasDictIn K C=true)
  (hw:PySem.Within mA ns) (hsz:ns.length<=sizeLine)
  (h:∀h',HX h' x dx C (λy=>if y=name then some v else mA y)->Heap.SameBut dx s.heap h'->Q () { s with heap:=h',toks:=s.toks+2 }) :
  wpAny (model prog w) A (setAttr (.ref x) name v) Q E s:=by
 obtain⟨od,J,hl⟩:=I.Ld;refine PySem.W.set_plain X J hs (PySem.W.osa_open (s:={ s with toks:=s.toks+1 }) (r:=none) X J hp ht λb=>?_);obtain⟨cd,hc,hd'⟩:=PySem.W.any_some hh;have hx:s.heap.get? x=some ⟨.ref C,some dx,.plain,#[]⟩:=I.obj;refine wpAny_bind (wpAny_pure (wpAny_bind (wpAny_bind (wpAny_loadPart hx (wpAny_bind (PySem.W.Looks.here (s:={ s with toks:=s.toks+1 }) (PySem.W.looks_clsIn X hc) ?_))))));rw[hd'];refine wpAny_pure (a:=some dx) (wpAny_bind (wpAny_pure (wpAny_bind ?_)));refine wpAny_nsSet1 (s:={ s with toks:=s.toks+1 }) I.ns λh' hn2 hs2=>?_
 obtain⟨oD,esD,epD,hoD,hdD,hcD⟩:=hn2.count (PySem.Within.cons name v hw);refine wpAny_bind (wpAny_lookBehind hoD (by rw[hdD]; exact pastItsLine_dict (Nat.le_trans hcD (by rw[List.length_cons]; omega))) ?_);exact wpAny_pure (h _ ⟨(hs2.2 _ (Ne.symm I.ne)).trans I.obj,hn2,I.ne⟩ hs2)
theorem V8 {R:Result->Shared->Prop} {vs:List Value} {kw:List (Str×Value)} (X:K.In s.heap) (hm:PySem.W.makesIn K C=true)
  (hi:PySem.W.findIn K (.ref C) "__init__" = some (some (.ref f))) (hf:PySem.W.typeIn K (.ref f)=some (.type "function"))
  (h:codeAny (model prog w) (A.under (.builtin "type.__call__" ⟨.ref C :: vs,kw⟩)) (.call (.ref f) ⟨.ref (s.heap.objs.size+1) :: vs,kw⟩) (PySem.W.InitBack (s.heap.objs.size+1) R)
   { s with heap:=(s.heap.push PySem.W.emptyDict).push (PySem.W.instObj C s.heap.objs.size) }) :
  codeAny (model prog w) A (.call (.ref C) ⟨vs,kw⟩) R s:=by
 obtain⟨hh,g,d,t,os⟩:=s;exact PySem.W.make_core (PySem.W.makes_of X hm) (PySem.W.looks_findIn X hi) (λself=>PySem.W.bind_fn X self hf) (.inl rfl) h
end
def CT(f:Str)(v:V):List (Str×V)->List (Str×V)
 | []=>[(f,v)]
 | (g,x) :: r=>if g=f then (g,v) :: r else (g,x) :: CT f v r
theorem EH(f g:Str)(v:V):∀fs:List (Str×V),(CT f v fs).lookup g=if g=f then some v else fs.lookup g
 | []=>by
  show List.lookup g [(f,v)]=_;by_cases h:g=f
  ·have hb:(g == f)=true:=beq_iff_eq.mpr h;simp only[List.lookup,hb,if_pos h]
  ·have hb:(g == f)=false:=beq_eq_false_iff_ne.mpr h;simp only[List.lookup,hb,if_neg h]
 | (k,x) :: r=>by
  have ih:=EH f g v r;rw[show CT f v ((k,x) :: r)=(if k=f then (k,v) :: r else (k,x) :: CT f v r) from rfl];by_cases hk:k=f
  ·rw[if_pos hk];by_cases h:g=k
   ·have hb:(g == k)=true:=beq_iff_eq.mpr h;simp only[List.lookup,hb,if_pos (h.trans hk)]
   ·have hb:(g == k)=false:=beq_eq_false_iff_ne.mpr h;simp only[List.lookup,hb,if_neg (λe:g=f=>h (e.trans hk.symm))]
  ·rw[if_neg hk];by_cases h:g=k
   ·have hb:(g == k)=true:=beq_iff_eq.mpr h;simp only[List.lookup,hb,if_neg (λe:g=f=>hk (h.symm.trans e))]
   ·have hb:(g == k)=false:=beq_eq_false_iff_ne.mpr h;simp only[List.lookup,hb];exact ih
theorem ML(f:Str)(v:V):∀fs:List (Str×V),f∈(CT f v fs).map (·.1)/\∀g,g∈fs.map (·.1)->g∈(CT f v fs).map (·.1)
 | []=>⟨by simp[CT],λg h=>by simp at h⟩
 | (k,x) :: r=>by
  obtain⟨i1,i2⟩:=ML f v r;rw[show CT f v ((k,x) :: r)=(if k=f then (k,v) :: r else (k,x) :: CT f v r) from rfl];by_cases hk:k=f
  ·rw[if_pos hk];subst hk;exact⟨by simp,λg h=>by simpa using h⟩
  ·rw[if_neg hk];refine⟨?_,λg h=>?_⟩
   ·rw[List.map_cons];exact List.mem_cons_of_mem _ i1
   ·rw[List.map_cons] at h ⊢;rcases List.mem_cons.mp h with e | e
    ·exact List.mem_cons.mpr (.inl e)
    ·exact List.mem_cons_of_mem _ (i2 g e)
theorem OO(f:Str)(v:V):∀fs:List (Str×V),(CT f v fs).length<=fs.length+1
 | []=>by simp[CT]
 | (k,x) :: r=>by
  have ih:=OO f v r;rw[show CT f v ((k,x) :: r)=(if k=f then (k,v) :: r else (k,x) :: CT f v r) from rfl];by_cases hk:k=f
  ·rw[if_pos hk,List.length_cons,List.length_cons]; omega
  ·rw[if_neg hk,List.length_cons,List.length_cons]; omega
theorem DI.Xi{v:V}{o:Option Value}(r:DI (some v) o):∃u,o=some u/\Av v u:=by
 cases o with
 | none=>exact(show False from r).elim
 | some u=>exact⟨u,rfl,r⟩
theorem DI.QD{o:Option Value}(r:DI none o):o=none:=by
 cases o with
 | none=>rfl
 | some u=>exact(show False from r).elim
theorem Uj{v:V}{u:Value}(r:Av v u):PySem.W.handedIn u=true:=by
 cases v with
 | Ay=>cases (show u=Value.none from r); rfl
 | bl b=>cases (show u=Value.bool b from r); rfl
 | int i=>obtain⟨t,e⟩:=(show ∃t,u=Value.int i t from r); cases e; rfl
 | str x=>obtain⟨t,e⟩:=(show ∃t,u=Value.str x t from r); cases e; rfl
 | ED b=>obtain⟨t,e⟩:=(show ∃t,u=Value.bytes b t from r); cases e; rfl
 | Fe b=>obtain⟨t,e⟩:=(show ∃t,u=Value.float b t from r); cases e; rfl
 | ref a=>cases (show u=Value.ref a from r); rfl
 | ty n=>cases (show u=Value.type n from r); rfl
section
variable {P:Program} {w:World} {H H':Hp} {h h':Heap} {a C dx:Addr} {fs fs':List (Str×V)}
theorem Ki(hok:BS P w H h)(e:H a=some (.Az C dx fs)):∃mA,HX h a dx C mA/\(∀f,DI (fs.lookup f) (mA f))/\PySem.Within mA (fs.map (·.1))/\fs.length<=1000/\H dx=some (.Cq a):=by
 obtain⟨d,z,ne,ob,mA,n,r,q⟩:=(show BR P w H h a (.Az C dx fs) from hok a _ e);exact⟨mA,⟨ob,n,ne⟩,r,q,z,d⟩
end
structure Bw(K:PySem.W.Frag)(C:Addr):Prop where
 pg:PySem.W.plainGet K C Str.empty=true
 hd:PySem.W.hasDictIn K C=true
 po:PySem.W.plainOver K C=true
 sa:PySem.W.findIn K (.ref C) "__setattr__" = some (some (.builtin "object.__setattr__"))
theorem Bw.get{K:PySem.W.Frag}{C:Addr}(c:Bw K C)(f:Str):PySem.W.plainGet K C f=true:=c.pg
def FH(K:PySem.W.Frag)(C:Addr)(f:Str):Prop:=PySem.W.findIn K (.ref C) f=some none
theorem FH.ZM{K:PySem.W.Frag}{C:Addr}{f:Str}(n:FH K C f):PySem.W.takerIn K C f=some none:=by
 unfold PySem.W.takerIn;rw[show PySem.W.findIn K (.ref C) f=some none from n];rfl
structure Bc(K:PySem.W.Frag)(C:Addr)(m:Str)(f:Addr):Prop where
 Jy:PySem.W.findIn K (.ref C) m=some (some (.ref f))
 fn:PySem.W.isFn K (.ref f)=true
 kp:PySem.W.keepIn K (.ref f)=true
section
variable {X:Cx} {pins:List (Addr×Obj)} {σ:St} {H:Hp} {s:Shared} {a C dx:Addr} {fs:List (Str×V)} {f:Str} {v:V} {A:Around} {E:Value->Shared->Prop}
theorem Tu {b:Bool} {Q:Value->Shared->Prop} (I:AL X pins σ H s) (e:H a=some (.Az C dx fs)) (c:Bw X.K C) (n:FH X.K C f) (l:fs.lookup f=some v)
  (h:∀u s',AL X pins σ H s'->Av v u->Q u s'):wpAny (model X.prog X.w) A (getAttr (.ref a) f b) Q E s:=by
 obtain⟨mA,O,r,_,_,_⟩:=Ki I.hok e;obtain⟨u,hu,ru⟩:=DI.Xi (v:=v) (o:=mA f) (by rw[<-l]; exact r f);exact W0 I.BF O (c.get f) c.hd n hu (Uj ru) (h u _ (I.DR _) ru)
theorem D0 {m:Str} {g:Addr} {pl:Sem Bool} {Q:Value×List Value->Shared->Prop} (I:AL X pins σ H s) (e:H a=some (.Az C dx fs)) (c:Bw X.K C) (k:Bc X.K C m g) (l:fs.lookup m=none)
  (h:Q (.ref g,[.ref a]) s):wpAny (model X.prog X.w) A (getMethod (.ref a) m pl) Q E s:=by
 obtain⟨mA,O,r,_,_,_⟩:=Ki I.hok e;have hn:mA m=none:=DI.QD (by rw[<-l]; exact r m);exact Vm I.BF O (c.get m) k.Jy k.fn hn h
theorem UH {y:V} {u:Value} {Q:Unit->Shared->Prop} (I:AL X pins σ H s) (e:H a=some (.Az C dx fs)) (c:Bw X.K C) (n:FH X.K C f) (hl:fs.length<1000) (ry:Av y u)
  (h:∀s',AL X pins σ (AK H a (.Az C dx (CT f y fs))) s'->Q () s'):wpAny (model X.prog X.w) A (setAttr (.ref a) f u) Q E s:=by
 obtain⟨mA,O,r,wi,_,ho⟩:=Ki I.hok e;have hz:(fs.map (·.1)).length<=sizeLine:=by rw[List.length_map,sizeLine_eq]; omega
 refine Xz I.BF O c.sa c.po n.ZM c.hd wi hz λh' O' sb=>h _ ?_
 have hd:∃o,h'.get? dx=some o:=let ⟨o,_,_,e',_⟩:=O'.ns; ⟨o,e'⟩
 refine I.Gg (x:=a) (e:=dx) (by rw[e]; exact True.intro) (.inr ho) (λb q hb z=>(sb.2 b hb).trans z) hd ?_;refine⟨by rw[An O.ne]; exact ho,?_,O.ne,O'.obj,_,O'.ns,λg=>?_,λg hg=>?_⟩
 ·have:=OO f y fs; omega
 ·show DI ((CT f y fs).lookup g) (if g=f then some u else mA g);rw[EH];by_cases q:g=f
  ·rw[if_pos q,if_pos q]; exact ry
  ·rw[if_neg q,if_neg q]; exact r g
 ·by_cases q:g=f
  ·rw[q]; exact(ML f y fs).1
  ·refine(ML f y fs).2 g (wi g λz=>hg ?_);show(if g=f then some u else mA g)=none;rw[if_neg q]; exact z
theorem AL.made(I:AL X pins σ H s):AL X pins σ (AK (AK H s.heap.objs.size (.Cq (s.heap.objs.size+1))) (s.heap.objs.size+1) (.Az C s.heap.objs.size []))
  { s with heap:=(s.heap.push PySem.W.emptyDict).push (PySem.W.instObj C s.heap.objs.size) }:=by
 have e1:(s.heap.push PySem.W.emptyDict).get? s.heap.objs.size=some PySem.W.emptyDict:=Heap.get?_push_size s.heap rfl;have e2:((s.heap.push PySem.W.emptyDict).push (PySem.W.instObj C s.heap.objs.size)).get? (s.heap.objs.size+1)=some (PySem.W.instObj C s.heap.objs.size):=by
  have:=Heap.get?_push_size (s.heap.push PySem.W.emptyDict) (o:=PySem.W.instObj C s.heap.objs.size) rfl
  rwa [Heap.size_push] at this
 have e3:(s.heap.push PySem.W.emptyDict).Ns s.heap.objs.size (λ_=>none):=⟨PySem.W.emptyDict,#[],_,e1,rfl,(λe he=>absurd he (by simp)),λ_=>rfl⟩;have I1:=I.laid (a:=s.heap.objs.size) (o:=.Cq (s.heap.objs.size+1)) (h':=s.heap.push PySem.W.emptyDict) (t':=s.toks) (λb u q=>Heap.get?_push_of_some _ q) (Nat.le_refl _) ⟨_,e1⟩;refine I1.laid (a:=s.heap.objs.size+1) (o:=.Az C s.heap.objs.size []) (t':=s.toks) (λb u q=>Heap.get?_push_of_some _ q) (Nat.le_of_eq (Heap.size_push _ _)) ?_;have ne:s.heap.objs.size≠s.heap.objs.size+1:=Nat.ne_of_lt (Nat.lt_succ_self _);refine⟨by rw[An ne,AX],Nat.zero_le _,ne,e2,λ_=>none,(Heap.Ns1.of_empty e3).at λo q=>Heap.get?_push_of_some _ q,λ_=>True.intro,λy hy=>absurd rfl hy⟩
theorem Xn {prog:Program} {w:World} {env:Env} {e:Expr} {f:Str} {pos:Pos} {s:Shared} {Q:Value->Shared->Prop} (hb:attributeBase e f env (eval e env)=eval e env)
  (h:wpAny (model prog w) A (eval e env) (λo s₁=>wpAny (model prog w) A (getAttr o f true) Q E s₁) E s):wpAny (model prog w) A (eval (.Attribute e f pos) env) Q E s :=
 Attribute_any_ h (by rw[arm_eval_Attribute,hb])
end
def ah(K:PySem.W.Frag)(ta:TE)(f:Str):TE:=λσ H Q=>ta σ H λx H1=>∃a C dx fs v,x=.ref a/\H1 a=some (.Az C dx fs)/\Bw K C/\FH K C f/\fs.lookup f=some v/\Q v H1
def aM(K:PySem.W.Frag)(ta tv:TE)(f:Str):TS:=λD σ H=>tv σ H λy H1=>ta σ H1 λx H2=>∃a C dx fs,x=.ref a/\H2 a=some (.Az C dx fs)/\Bw K C/\FH K C f/\fs.length<1000 /\
 D.nx σ (AK H2 a (.Az C dx (CT f y fs)))
section
variable {X:Cx} {o e value:Expr} {f:Str} {pos pos' tpos:Pos} {ta tv:TE}
theorem BM(he:PE X e ta)(hb:attributeBase e f X.env (eval e X.env)=eval e X.env):PE X (.Attribute e f pos) (ah X.K ta f):=by
 intro pins s σ H Q I h;refine Xn hb (Aa (he pins s σ H _ I h) λu s1 ⟨x,H1,I1,rx,a,C,dx,fs,v,ex,ea,c,n,l,q⟩=>?_);subst ex;obtain rfl:u=Value.ref a:=rx;exact Tu I1 ea c n l λu' s2 I2 ru=>⟨v,H1,I2,ru,q⟩
theorem K9(ha:PE X o ta)(hv:PE X value tv)(hs:swapsWith value (some (.Attribute o f pos')) pos.line X.env=pure false):PS X (.Assign [.Attribute o f pos'] value pos) (aM X.K ta tv f):=by
 intro pins s σ H D I h;refine plainObj_wpAny_Assign_Attribute (Aa (hv pins s σ H _ I h) λu s1 ⟨y,H1,I1,ry,q⟩=>Aa (ha pins s1 σ H1 _ I1 q) λov s2 ⟨x,H2,I2,rx,a,C,dx,fs,ex,ea,c,n,l,q2⟩=>?_) hs;subst ex;obtain rfl:ov=Value.ref a:=rx;exact UH I2 ea c n l ry λs3 I3=>⟨σ,_,I3,q2⟩
end
section
variable {X:Cx} {pins:List (Addr×Obj)} {σ:St} {H:Hp} {s:Shared} {A:Around} {E:Value->Shared->Prop} {Q:Value->Shared->Prop} {c:Value} {b:Bool}
inductive Dw(K:PySem.W.Frag)(H:Hp):V->Value->Prop where
 | Ay:Dw K H .Ay (.type "NoneType")
 | bl (x:Bool):Dw K H (.bl x) (.type "bool")
 | int (i:Int):Dw K H (.int i) (.type "int")
 | str (x:Str):Dw K H (.str x) (.type "str")
 | Fe (x:UInt64):Dw K H (.Fe x) (.type "float")
 | AN {a:Addr} {xs:List V} (e:H a=some (.AN xs)):Dw K H (.ref a) (.type "list")
 | Df {a:Addr} {o:Obj} {xs:List V} (e:H a=some (.Df o (.AN xs))):Dw K H (.ref a) (.type "list")
 | AH {a:Addr} {xs:List V} (e:H a=some (.AH xs)):Dw K H (.ref a) (.type "tuple")
 | dK {a:Addr} {kvs:List (A2×V)} (e:H a=some (.dK kvs)):Dw K H (.ref a) (.type "dict")
 | dT {a:Addr} {kvs:List (List A2×V)} (e:H a=some (.dT kvs)):Dw K H (.ref a) (.type "dict")
 | Az {a C dx:Addr} {fs:List (Str×V)} (e:H a=some (.Az C dx fs)) (cl:Bw K C) (ha:PySem.W.findIn K (.ref C) "__class__" = some (some (.builtin "object.__class__")))
   (hn:PySem.W.specialIn K (.builtin "object.__class__") "__get__" = some (some (.builtin "getset_descriptor.__get__"))) (htk:PySem.W.takesIn K (.builtin "object.__class__")=some true)
   (hm:PySem.W.mroIn K C (.type "object")=some true):Dw K H (.ref a) (.ref C)
theorem U8{x:V}{u t:Value}(I:AL X pins σ H s)(rx:Av x u)(ty:Dw X.K H x t)(e:PySem.W.kitOne X.K t c=some b)(h:∀tk,Q (.bool b) { s with toks:=tk }):
  wpAny (model X.prog X.w) A (call (.builtin "isinstance") [u,c]) Q E s:=by
 cases ty with
 | Ay=>cases (show u=Value.none from rx); exact PySem.W.kia_one PySem.W.kitx_none I.BF True.intro e (λz=>nomatch z) h
 | bl y=>cases (show u=Value.bool y from rx); exact PySem.W.kia_one PySem.W.kitx_bool I.BF True.intro e (λz=>nomatch z) h
 | int i=>obtain⟨t,q⟩:=(show ∃t,u=Value.int i t from rx); cases q; exact PySem.W.kia_one PySem.W.kitx_int I.BF True.intro e (λz=>nomatch z) h
 | str y=>obtain⟨t,q⟩:=(show ∃t,u=Value.str y t from rx); cases q; exact PySem.W.kia_one PySem.W.kitx_str I.BF True.intro e (λz=>nomatch z) h
 | Fe y=>obtain⟨t,q⟩:=(show ∃t,u=Value.float y t from rx); cases q; exact PySem.W.kia_one PySem.W.kitx_float I.BF True.intro e (λz=>nomatch z) h
 | @AN a xs ea =>
  cases (show u=Value.ref a from rx);obtain⟨_,_,n,_,h1⟩:=(show BR X.prog X.w H s.heap a (.AN xs) from I.hok a _ ea);exact PySem.W.kia_one PySem.W.kitx_list I.BF ⟨_,h1,rfl⟩ e (λz=>nomatch z) h
 | @Df a ob xs ea =>
  cases (show u=Value.ref a from rx);obtain⟨_,_,_,n,_,h1⟩:=(show BR X.prog X.w H s.heap a (.Df ob (.AN xs)) from I.hok a _ ea);exact PySem.W.kia_one PySem.W.kitx_list I.BF ⟨_,h1,rfl⟩ e (λz=>nomatch z) h
 | @AH a xs ea =>
  cases (show u=Value.ref a from rx);obtain⟨_,_,_,p,_⟩:=(show BR X.prog X.w H s.heap a (.AH xs) from I.hok a _ ea);obtain⟨o,h1,h2,_⟩:=p;exact PySem.W.kia_one PySem.W.kitx_tuple I.BF ⟨o,h1,h2⟩ e (λz=>nomatch z) h
 | @dK a kvs ea =>
  cases (show u=Value.ref a from rx);obtain⟨_,_,vs,_,p⟩:=(show BR X.prog X.w H s.heap a (.dK kvs) from I.hok a _ ea);obtain⟨o,es,ep,h1,h2,_⟩:=p;exact PySem.W.kia_one PySem.W.kitx_dict I.BF ⟨o,h1,h2.1⟩ e (λz=>nomatch z) h
 | @dT a kvs ea =>
  cases (show u=Value.ref a from rx);obtain⟨_,_,xs,_,o,es,ep,h1,h2,_⟩:=(show BR X.prog X.w H s.heap a (.dT kvs) from I.hok a _ ea);exact PySem.W.kia_one PySem.W.kitx_dict I.BF ⟨o,h1,h2.1⟩ e (λz=>nomatch z) h
 | @Az a C dx fs ea cl ha hn htk hm =>
  cases (show u=Value.ref a from rx);obtain⟨mA,O,_⟩:=Ki I.hok ea;obtain⟨od,J,_⟩:=O.Ld;exact PySem.W.kia_one (PySem.W.kitx_own (cl.get _) cl.hd ha hn htk hm) I.BF J e (λz=>nomatch z) h
end
structure A9(k:Nat)(A:Around):Prop where
 hd:A.handled=none
 dp:A.depth+3*k+5<recursionLimit
 un:A.units+16*k+200<cLine
theorem A9.mono{j k:Nat}{A:Around}(r:A9 k A)(h:j<=k):A9 j A:=⟨r.hd,by have:=r.dp; omega,by have:=r.un; omega⟩
theorem A9.deeper{k:Nat}{A:Around}(r:A9 (k+1) A)(env:Env):A9 k (A.deeper env) :=
 ⟨r.hd,by have:=r.dp; show A.depth+1+3*k+5<_; omega,by have:=r.un; show A.units+3+16*k+200<_; omega⟩
theorem A9.in1{k:Nat}{A:Around}(r:A9 (k+1) A):A9 k A.in1 :=
 ⟨r.hd,by have:=r.dp; show A.depth+3*k+5<_; omega,by have:=r.un; show A.units+1+16*k+200<_; omega⟩
theorem UQ{A:Around}{C:Addr}{us:List Value}{kw:List (Str×Value)}:(A.under (.builtin "type.__call__" ⟨.ref C :: us,kw⟩)).depth=A.depth+1:=by
 first | rfl | simp[Around.under,Code.weight,Code.isCreation,Code.isGuard,Code.isCaller,Code.frames,Code.isFrame,guardIds]
theorem T6{A:Around}{C:Addr}{us:List Value}{kw:List (Str×Value)}:(A.under (.builtin "type.__call__" ⟨.ref C :: us,kw⟩)).units=A.units+1:=by
 first | rfl | simp[Around.under,Code.cUnits,Code.frames,Code.isFrame]
theorem A9.N1{k:Nat}{A:Around}(r:A9 (k+1) A)(C:Addr)(us:List Value)(kw:List (Str×Value)):A9 k (A.under (.builtin "type.__call__" ⟨.ref C :: us,kw⟩)) :=
 ⟨r.hd,by have:=r.dp; rw[UQ]; omega,by have:=r.un; rw[T6]; omega⟩
theorem A9.depth{k:Nat}{A:Around}(r:A9 k A):A.depth<recursionLimit:=by have:=r.dp; omega
theorem A9.units{k:Nat}{A:Around}(r:A9 k A):A.units+64<cLine:=by have:=r.un; omega
def BH:TA:=λ_ H Q=>Q [] H
def Ax(ta:TE)(tr:TA):TA:=λσ H Q=>ta σ H λx H1=>tr σ H1 λxs H2=>Q (x :: xs) H2
section
variable {X:Cx} {e:Expr} {es:List Expr} {te:TE} {t:TA} {pos:Pos}
theorem AI:PA X [] BH:=λ_ _ _ _ H Q I h=>Calls.spliced_nil ⟨[],H,I,.nil,h⟩
theorem AA(ha:PE X e te)(hr:PA X es t)(hs:starEach (e :: es) X.env=(false,eval e X.env) :: starEach es X.env:=by rfl):PA X (e :: es) (Ax te t):=by
 intro pos pins s σ H Q I h;rw[hs];show wpAny _ _ (spliced ((false,eval e X.env) :: backTo pos (starEach es X.env))) _ _ s;refine Calls.spliced_cons (Aa (ha pins s σ H _ I h) λu s1 ⟨x,H1,I1,r1,q1⟩=>?_);exact Aa (hr pos pins s1 σ H1 _ I1 q1) λus s2 ⟨xs,H2,I2,r2,q2⟩=>⟨x :: xs,H2,I2,.cons r1 r2,q2⟩
inductive R8(xs:List V)(H:Hp)(Q:VK):Prop
 | mk (n:xs.length<=sizeLine) (q:∀p,H p=none->Q (.ref p) (AK H p (.AH xs))):R8 xs H Q
inductive Rq(xs:List V)(H:Hp)(Q:VK):Prop
 | mk (n:xs.length<=sizeLine) (q:∀p,H p=none->Q (.ref p) (AK H p (.AN xs))):Rq xs H Q
def Gs(t:TA):TE:=λσ H Q=>t σ H λxs H1=>R8 xs H1 Q
def Jm(t:TA):TE:=λσ H Q=>t σ H λxs H1=>Rq xs H1 Q
theorem A0{x1}(h:PA X es t):PE X (.Tuple es x1 pos) (Gs t):=by
 intro pins s σ H Q I hq;refine wpAny_Tuple_spliced (Aa (h pos pins s σ H _ I hq) λus s1 ⟨xs,H1,I1,r,z,q⟩=>⟨by rw[<-r.length]; exact z,?_⟩);have hf:H1 s1.heap.objs.size=none:=I1.hok.fresh (Nat.le_refl _);refine⟨.ref s1.heap.objs.size,AK H1 s1.heap.objs.size (.AH xs),I1.laid (t':=s1.toks) (λb u e=>Heap.get?_push_of_some _ e) (Nat.le_refl _) ?_,rfl,q _ hf⟩;exact⟨z,us,r,⟨_,Heap.get?_push_size _ rfl,rfl,_,rfl⟩,_,Heap.get?_push_size _ rfl,rfl⟩
theorem CU(h:PA X es t):PE X (.List es pos) (Jm t):=by
 intro pins s σ H Q I hq;refine wpAny_List_spliced (Aa (h pos pins s σ H _ I hq) λus s1 ⟨xs,H1,I1,r,z,q⟩=>⟨by rw[<-r.length]; exact z,?_⟩);have hf:H1 s1.heap.objs.size=none:=I1.hok.fresh (Nat.le_refl _);refine⟨.ref s1.heap.objs.size,AK H1 s1.heap.objs.size (.AN xs),I1.laid (t':=s1.toks) (λb u e=>Heap.get?_push_of_some _ e) (Nat.le_refl _) ?_,rfl,q _ hf⟩;exact⟨z,us,0,r,Heap.get?_push_size _ rfl⟩
end
abbrev Sp:=List V->Hp->VK->XK->Prop
abbrev Cp:=List Env->Hp->Shared->XK->Value->Shared->Prop
structure FX(P:Program)(w:World)(K:PySem.W.Frag)(mg:Str->Option Value)(base:Heap)(A:Around)(outer:List Env)(s:Shared)(H:Hp):Prop where
 frames:A.frames=some outer
 BY:Mod K mg base
 bs:∀b o,base.get? b=some o->s.heap.get? b=some o/\H b=none
 E9:base.objs.size<=s.heap.objs.size
 DH:s.heap.FunFrames base outer
 FC:∀b∈BP outer,H b=none
 hok:BS P w H s.heap
 bare:AllBare s.gens
def CE(outer:List Env)(P:Program)(w:World)(H:Hp)(s:Shared)(Q:VK)(u:Value)(s':Shared):Prop :=
 ∃v H',s'.os=s.os/\AllBare s'.gens/\Un (BP outer) [] H H' s.heap s'.heap/\BS P w H' s'.heap/\Av v u/\Q v H'
def CR(CX:Cp)(outer:List Env)(P:Program)(w:World)(H:Hp)(s:Shared)(Q:VK)(E:XK)(r:Result)(s':Shared):Prop :=
 match r with
 | .ok (.ret u)=>CE outer P w H s Q u s'
 | .ok _=>False
 | .error e=>CX outer H s E e s'
structure AG(P:Program)(w:World)(K:PySem.W.Frag)(mg:Str->Option Value)(base:Heap)(CX:Cp)(k:Nat)(f:Addr)(fd:FuncData)(ps:List Str)(sp:Sp):Prop where
 len:∀vs H Q E,sp vs H Q E->vs.length=ps.length
 Ii:∀(A:Around) (outer:List Env) (s:Shared) (H:Hp) (args:Args) (us:List Value) (vs:List V) (Q:VK) (E:XK),A9 k A->FX P w K mg base A outer s H->BindsTo s fd args (ps.zip us)->Ah vs us->sp vs H Q E →
  codeAny (model P w) A (.call (.ref f) args) (CR CX outer P w H s Q E) s
theorem AG.mono{P:Program}{w:World}{K:PySem.W.Frag}{mg:Str->Option Value}{base:Heap}{CX:Cp}{j k:Nat}{f:Addr}{fd:FuncData}{ps:List Str}{sp:Sp}(F:AG P w K mg base CX j f fd ps sp)(h:j<=k):
  AG P w K mg base CX k f fd ps sp:=⟨F.len,λA outer s H args us vs Q E hr=>F.Ii A outer s H args us vs Q E (hr.mono h)⟩
theorem AG.imp {P:Program} {w:World} {K:PySem.W.Frag} {mg:Str->Option Value} {base:Heap} {CX:Cp} {k:Nat} {f:Addr} {fd:FuncData} {ps:List Str} {sp sp':Sp} (F:AG P w K mg base CX k f fd ps sp)
  (h:∀vs H Q E,sp' vs H Q E->sp vs H Q E):AG P w K mg base CX k f fd ps sp' :=
 ⟨λvs H Q E q=>F.len vs H Q E (h _ _ _ _ q),λA outer s H args us vs Q E hr he hb hv hs=>F.Ii A outer s H args us vs Q E hr he hb hv (h _ _ _ _ hs)⟩
theorem FX.N1{P:Program}{w:World}{K:PySem.W.Frag}{mg:Str->Option Value}{base:Heap}{A:Around}{outer:List Env}{s:Shared}{H:Hp}(e:FX P w K mg base A outer s H)(C:Addr)(us:List Value)(kw:List (Str×Value)):
  FX P w K mg base (A.under (.builtin "type.__call__" ⟨.ref C :: us,kw⟩)) outer s H:=⟨by first | exact e.frames | (simpa [Around.under,Code.envs,Code.isFrame,pushEnvs] using e.frames),e.BY,e.bs,e.E9,e.DH,e.FC,e.hok,e.bare⟩
theorem FX.in1{P:Program}{w:World}{K:PySem.W.Frag}{mg:Str->Option Value}{base:Heap}{A:Around}{outer:List Env}{s:Shared}{H:Hp}(e:FX P w K mg base A outer s H):
  FX P w K mg base A.in1 outer s H:=⟨e.frames,e.BY,e.bs,e.E9,e.DH,e.FC,e.hok,e.bare⟩
section
variable {X:Cx} {pins:List (Addr×Obj)} {σ:St} {H:Hp} {s s':Shared}
theorem AL.NV(I:AL X pins σ H s):FX X.prog X.w X.K X.mg X.base X.A X.stack s H :=
 ⟨I.ok.frames,I.ok.BY,I.bs,Nat.le_trans I.ok.E9 I.sz,I.stack,I.Kc,I.hok,I.bare⟩
theorem AL.after{Q:VK}{u:Value}(I:AL X pins σ H s)(h:CE X.stack X.prog X.w H s Q u s'):EP X pins σ Q u s':=by
 obtain⟨v,H',os,bare,un,hok,r,q⟩:=h;obtain⟨hh,g,d,t,os'⟩:=s';obtain rfl:os'=s.os:=os;exact⟨v,H',I.call (h':=hh) (g':=g) (d':=d) (t':=t) (ch:=[]) un hok bare (λb z=>absurd z (by simp)),r,q⟩
end
def Es(sp:Sp)(dvs:List V)(E:XK)(t:TA):TE:=λσ H Q=>t σ H λvs H1=>sp (vs++dvs) H1 Q E
def Rg(C:Addr)(m:Str)(sp:Sp)(dvs:List V)(E:XK)(ta:TE)(t:TA):TE:=λσ H Q=>ta σ H λx H1=>∃a dx fs,x=.ref a/\H1 a=some (.Az C dx fs)/\fs.lookup m=none /\
 t σ H1 λvs H2=>sp (x :: (vs++dvs)) H2 Q E
def Ze(C:Addr)(sp:Sp)(dvs:List V)(E:XK)(t:TA):TE:=λσ H Q=>t σ H λvs H1=>∀x dx,H1 x=none->H1 dx=none->dx≠x →
 sp (.ref x :: (vs++dvs)) (AK (AK H1 dx (.Cq x)) x (.Az C dx [])) (λv H2=>v=.Ay/\Q (.ref x) H2) E
def AV(K:PySem.W.Frag)(fd:FuncData)(ps:List Str)(ds:List Value):Prop :=
 ∀(s:Shared) (us:List Value),K.In s.heap->(us++ds).length=ps.length->BindsTo s fd ⟨us,[]⟩ (ps.zip (us++ds))
theorem AV.all{K:PySem.W.Frag}{fd:FuncData}{ps:List Str}(h:∀us:List Value,us.length=ps.length->bindArgs fd ⟨us,[]⟩=pure (ps.zip us)):AV K fd ps []:=λs us _ hl=>by
 rw[List.append_nil] at hl ⊢;exact .of_eq (h us hl)
def Dl(CX:Cp)(X:Cx)(E:XK):Prop:=∀(pins:List (Addr×Obj)) (σ:St) (H:Hp) (s:Shared) (e:Value) (s':Shared),AL X pins σ H s->CX X.stack H s E e s'->X.xe e s'
section
variable {X:Cx} {CX:Cp} {k:Nat} {f C:Addr} {fd:FuncData} {ps:List Str} {sp:Sp} {dvs:List V} {ds:List Value} {E:XK} {x m:Str} {p pos apos:Pos} {e o:Expr} {es:List Expr} {ta:TE} {t:TA}
theorem EN {pins:List (Addr×Obj)} {σ:St} {H:Hp} {s:Shared} {Q:VK} {us:List Value} {vs:List V} (F:AG X.prog X.w X.K X.mg X.base CX k f fd ps sp) (hr:A9 k X.A) (hb:AV X.K fd ps ds) (hd:Ah dvs ds) (hx:Dl CX X E)
  (I:AL X pins σ H s) (r:Ah vs us) (h:sp (vs++dvs) H Q E):wpAny (model X.prog X.w) X.A (call (.ref f) us) (EP X pins σ Q) X.xe s:=by
 have r2:Ah (vs++dvs) (us++ds):=r.FO hd;have hl:(us++ds).length=ps.length:=by rw[<-r2.length]; exact F.len _ _ _ _ h
 refine wpAny_call (codeAny_mono (F.Ii X.A X.stack s H ⟨us,[]⟩ (us++ds) (vs++dvs) Q E hr I.NV (hb s us I.BF hl) r2 h) λr s' hq=>?_);cases r with
 | error e=>exact hx pins σ H s e s' I hq
 | ok fl =>
  cases fl with
  | ret u=>exact I.after hq
  | next=>exact False.elim hq
  | brk=>exact False.elim hq
  | cont=>exact False.elim hq
theorem Ad (F:AG X.prog X.w X.K X.mg X.base CX k f fd ps sp) (hr:A9 k X.A) (hg:Gl X x) (hm:X.mg x=some (.ref f)) (hk:PySem.W.keepIn X.K (.ref f)=true) (hb:AV X.K fd ps ds) (hd:Ah dvs ds) (hx:Dl CX X E)
  (ha:PA X (e :: es) t) (hdb:(x == ("__debug__":Str))=false:=by decide) (he:starEach (e :: es) X.env=(false,eval e X.env) :: starEach es X.env:=by rfl) (hpl:(backTo pos (starEach es X.env)).any (·.1)=false:=by rfl) :
  PE X (.Call (.Name x p) (e :: es) [] pos) (Es sp dvs E t):=by
 intro pins s σ H Q I h;refine wpAny_Call_Name_kw (JB I hg hm ?_ hdb);refine PySem.W.callWith_K (h₀:=X.base) I.ok.BY.Dg hk (Aa (ha pos pins s σ H _ I h) λus s1 ⟨vs,H1,I1,r,q⟩=>⟨I1.BF,?_⟩) he hpl;exact EN F hr hb hd hx I1 r q
theorem Kp {pl:Sem Bool} (he:PE X o ta) (c:Bw X.K C) (hm:Bc X.K C m f) (F:AG X.prog X.w X.K X.mg X.base CX k f fd ps sp) (hr:A9 k X.A) (hb:AV X.K fd ps ds) (hd:Ah dvs ds) (hx:Dl CX X E) (ha:PA X (e :: es) t)
  (hst:starEach (e :: es) X.env=(false,eval e X.env) :: starEach es X.env:=by rfl) (hpl:(backTo pos (starEach es X.env)).any (·.1)=false:=by rfl)
  (ht:eval (.Call (.Attribute o m apos) (e :: es) [] pos) X.env=(do
   let ov <-eval o X.env
   standAt apos.atName
   let (f,first) <-holding [ov] (getMethod ov m pl)
   callWith pos f first (backTo pos (starEach (e :: es) X.env)) (backToKw pos (keywordEach [] X.env))):=by rfl) :
  PE X (.Call (.Attribute o m apos) (e :: es) [] pos) (Rg C m sp dvs E ta t):=by
 intro pins s σ H Q I h;refine PySem.W.methodCall_KW (pl:=pl) (Aa (he pins s σ H _ I h) λu s1 ⟨x,H1,I1,rx,a,dx,fs,ex,ea,l,q⟩=>?_) ht;subst ex;obtain rfl:u=Value.ref a:=rx;refine D0 I1 ea c hm l ?_;refine PySem.W.callWith_K (first:=[.ref a]) (h₀:=X.base) I.ok.BY.Dg hm.kp (Aa (ha pos pins s1 σ H1 _ I1 q) λus s2 ⟨vs,H2,I2,r,q2⟩=>⟨I2.BF,?_⟩) hst hpl;exact EN (us:=.ref a :: us) (vs:=.ref a :: vs) F hr hb hd hx I2 (.cons rfl r) q2
theorem P9 {pl:Sem Bool} (he:PE X o ta) (c:Bw X.K C) (hm:Bc X.K C m f) (F:AG X.prog X.w X.K X.mg X.base CX k f fd ps sp) (hr:A9 k X.A) (hb:AV X.K fd ps ds) (hd:Ah dvs ds) (hx:Dl CX X E)
  (ht:eval (.Call (.Attribute o m apos) [] [] pos) X.env=(do
   let ov <-eval o X.env
   standAt apos.atName
   let (f,first) <-holding [ov] (getMethod ov m pl)
   callWith pos f first (backTo pos (starEach [] X.env)) (backToKw pos (keywordEach [] X.env))):=by rfl) :
  PE X (.Call (.Attribute o m apos) [] [] pos) (Rg C m sp dvs E ta BH):=by
 intro pins s σ H Q I h;refine PySem.W.methodCall_KW (pl:=pl) (Aa (he pins s σ H _ I h) λu s1 ⟨x,H1,I1,rx,a,dx,fs,ex,ea,l,q⟩=>?_) ht;subst ex;obtain rfl:u=Value.ref a:=rx;refine D0 I1 ea c hm l ?_;exact PySem.W.callWith_K0 (first:=[.ref a]) I1.BF hm.kp (EN (us:=[.ref a]) (vs:=[.ref a]) F hr hb hd hx I1 (.cons rfl .nil) q)
structure Mk(K:PySem.W.Frag)(C f:Addr):Prop where
 ZA:PySem.W.makesIn K C=true
 init:PySem.W.findIn K (.ref C) "__init__" = some (some (.ref f))
 fn:PySem.W.isFn K (.ref f)=true
 kp:PySem.W.keepIn K (.ref C)=true
theorem WH {pins:List (Addr×Obj)} {σ:St} {H:Hp} {s:Shared} {Q:VK} {us:List Value} {vs:List V} (M:Mk X.K C f) (F:AG X.prog X.w X.K X.mg X.base CX k f fd ps sp) (hr:A9 (k+1) X.A) (hb:AV X.K fd ps ds) (hd:Ah dvs ds)
  (hx:Dl CX X E) (I:AL X pins σ H s) (r:Ah vs us)
  (h:∀x dx,H x=none->H dx=none->dx≠x->sp (.ref x :: (vs++dvs)) (AK (AK H dx (.Cq x)) x (.Az C dx [])) (λv H2=>v=.Ay/\Q (.ref x) H2) E) :
  wpAny (model X.prog X.w) X.A (call (.ref C) us) (EP X pins σ Q) X.xe s:=by
 have hq:=h (s.heap.objs.size+1) s.heap.objs.size (I.hok.fresh (Nat.le_succ _)) (I.hok.fresh (Nat.le_refl _)) (Nat.ne_of_lt (Nat.lt_succ_self _));have I2:=AL.made (C:=C) I;have r2:Ah (V.ref (s.heap.objs.size+1) :: (vs++dvs)) (Value.ref (s.heap.objs.size+1) :: (us++ds)):=.cons rfl (r.FO hd);have hl:(Value.ref (s.heap.objs.size+1) :: us++ds).length=ps.length:=by
  have e:=r2.length;rw[F.len _ _ _ _ hq] at e;exact e.symm
 refine wpAny_call (V8 (f:=f) I.BF M.ZA M.init (beq_iff_eq.mp M.fn) (codeAny_mono (F.Ii _ X.stack _ _ ⟨Value.ref (s.heap.objs.size+1) :: us,[]⟩ (Value.ref (s.heap.objs.size+1) :: (us++ds)) _ _ E (hr.N1 C us [])
  (I2.NV.N1 C us []) (hb _ (Value.ref (s.heap.objs.size+1) :: us) I2.BF hl) r2 hq) λr s' hq'=>?_))
 cases r with
 | error e=>exact hx pins σ _ _ e s' I2 hq'
 | ok fl =>
  cases fl with
  | ret u =>
   obtain⟨v,H',I3,rv,ev,q3⟩:=I2.after hq';subst ev;exact⟨rv,⟨V.ref (s.heap.objs.size+1),H',I3,rfl,q3⟩⟩
  | next=>exact False.elim hq'
  | brk=>exact False.elim hq'
  | cont=>exact False.elim hq'
theorem Fm (M:Mk X.K C f) (F:AG X.prog X.w X.K X.mg X.base CX k f fd ps sp) (hr:A9 (k+1) X.A) (hg:Gl X x) (hm:X.mg x=some (.ref C)) (hb:AV X.K fd ps ds) (hd:Ah dvs ds) (hx:Dl CX X E)
  (ha:PA X (e :: es) t) (hdb:(x == ("__debug__":Str))=false:=by decide) (he:starEach (e :: es) X.env=(false,eval e X.env) :: starEach es X.env:=by rfl) (hpl:(backTo pos (starEach es X.env)).any (·.1)=false:=by rfl) :
  PE X (.Call (.Name x p) (e :: es) [] pos) (Ze C sp dvs E t):=by
 intro pins s σ H Q I h;refine wpAny_Call_Name_kw (JB I hg hm ?_ hdb);refine PySem.W.callWith_K (h₀:=X.base) I.ok.BY.Dg M.kp (Aa (ha pos pins s σ H _ I h) λus s1 ⟨vs,H1,I1,r,q⟩=>⟨I1.BF,?_⟩) he hpl;exact WH M F hr hb hd hx I1 r q
end
section
variable {X:Cx} {CX:Cp} {k:Nat} {f C:Addr} {fd:FuncData} {ps ks:List Str} {sp:Sp} {E:XK} {x m:Str} {p pos apos kpos:Pos} {e o:Expr} {es:List Expr} {kws:List Keyword} {te ta:TE} {t tk:TA} {nm:Option Str}
variable {g:List Value->List Value->List Value} {gV:List V->List V->List V}
end
structure Ak(N P:List Str)(sc:Scope):Prop where
 kind:sc.kind=.function
 co:sc.isCoroutine=false
 bK:sc.isGenerator=false
 nd:N.Nodup
 pre:N.take P.length=P
 Sn:∀x∈P,sc.names.lookup x=some .local\/sc.names.lookup x=some .cell
 Yn:∀y∈sc.names,y.2≠.free
theorem Ap{N P:List Str}{sc:Scope}(h1:sc.kind=.function:=by rfl)(h2:sc.isCoroutine=false:=by rfl)(h3:sc.isGenerator=false:=by rfl)(h4:N.Nodup:=by decide +kernel)(h5:N.take P.length=P:=by rfl)(h6:∀x∈P,sc.names.lookup x=some .local\/sc.names.lookup x=some .cell:=by decide +kernel)(h7:∀y∈sc.names,y.2≠.free:=by decide +kernel):Ak N P sc:=⟨h1,h2,h3,h4,h5,h6,h7⟩
abbrev KP(K:PySem.W.Frag)(f:Addr):Prop:=PySem.W.keepIn K (.ref f)=true
theorem bL:0<=sizeLine:=by decide
theorem sz1:1<=sizeLine:=by decide
theorem sz2:2<=sizeLine:=by decide
theorem EF:3<=sizeLine:=by decide
theorem B7:4<=sizeLine:=by decide
theorem L5:5<=sizeLine:=by decide
theorem Ov{kindOf:Str->Option NameKind}{x:Str}:∀{binds:List (Str×Value)} {m:Str->Option Value},(∀v,(x,v)∉binds)->bindL kindOf binds m x=m x
 | [],_,_=>rfl
 | (n,v) :: r,m,h=>by
  unfold bindL;rw[Ov λw hw=>h w (List.mem_cons_of_mem _ hw)];split
  ·have:x≠n:=by rintro rfl; exact h v List.mem_cons_self
   simp[this]
  ·rfl
theorem PL{kindOf:Str->Option NameKind}{x:Str}:∀{binds:List (Str×Value)} {m:Str->Option Value},(∀v,(x,v)∉binds)->bindC kindOf binds m x=m x
 | [],_,_=>rfl
 | (n,v) :: r,m,h=>by
  unfold bindC;rw[PL λw hw=>h w (List.mem_cons_of_mem _ hw)];split
  ·rfl
  ·have:x≠n:=by rintro rfl; exact h v List.mem_cons_self
   simp[this]
theorem Ol{kindOf:Str->Option NameKind}{x:Str}{v:Value}:∀{P:List Str} {vs:List Value} {i:Nat} {m:Str->Option Value},P.Nodup->P[i]?=some x->vs[i]?=some v->kindOf x=some .local →
  bindL kindOf (P.zip vs) m x=some v
 | [],_,_,_,_,h,_,_=>by simp at h
 | _ :: _,[],_,_,_,_,h,_=>by simp at h
 | p :: P,w :: vs,0,m,nd,h1,h2,hk=>by
  simp at h1 h2; subst h1; subst h2;show bindL kindOf ((p,w) :: P.zip vs) m p=_;unfold bindL;rw[Ov λv hv=>(List.nodup_cons.mp nd).1 (List.of_mem_zip hv).1,if_pos hk];simp
 | p :: P,w :: vs,i+1,m,nd,h1,h2,hk=>by
  show bindL kindOf ((p,w) :: P.zip vs) m x=_;unfold bindL;exact Ol (i:=i) (List.nodup_cons.mp nd).2 (by simpa using h1) (by simpa using h2) hk
theorem PF{kindOf:Str->Option NameKind}{x:Str}{v:Value}:∀{P:List Str} {vs:List Value} {i:Nat} {m:Str->Option Value},P.Nodup->P[i]?=some x->vs[i]?=some v->kindOf x≠some .local →
  bindC kindOf (P.zip vs) m x=some v
 | [],_,_,_,_,h,_,_=>by simp at h
 | _ :: _,[],_,_,_,_,h,_=>by simp at h
 | p :: P,w :: vs,0,m,nd,h1,h2,hk=>by
  simp at h1 h2; subst h1; subst h2;show bindC kindOf ((p,w) :: P.zip vs) m p=_;unfold bindC;rw[PL λv hv=>(List.nodup_cons.mp nd).1 (List.of_mem_zip hv).1,if_neg hk];simp
 | p :: P,w :: vs,i+1,m,nd,h1,h2,hk=>by
  show bindC kindOf ((p,w) :: P.zip vs) m x=_;unfold bindC;exact PF (i:=i) (List.nodup_cons.mp nd).2 (by simpa using h1) (by simpa using h2) hk
def Ft(N:List Str)(vs:List V):St:=vs.map some++List.replicate (N.length-vs.length) none
def GC(CX:Cp)(P:Program)(w:World)(K:PySem.W.Frag)(mg:Str->Option Value)(base:Heap)(N:List Str)(qual:Str)(scope:Scope)(f:Addr)(cd:Value)(A:Around)(outer:List Env)(s:Shared)(H:Hp)(E:XK):Cx where
 prog:=P
 w:=w
 K:=K
 mg:=mg
 base:=base
 A:=A.deeper (envOfC qual scope s.heap.objs.size f cd)
 N:=N
 s₀:=s
 H₀:=H
 env:=envOfC qual scope s.heap.objs.size f cd
 outer:=outer
 stack:=envOfC qual scope s.heap.objs.size f cd :: outer
 ex:=[]
 By:=true
 fn:=λ_=>true
 pn:=[]
 xe:=λe s'=>wpAny (model P w) (A.deeper (envOfC qual scope s.heap.objs.size f cd)) (leaving (envOfC qual scope s.heap.objs.size f cd) e) (λ_ s''=>CX outer H s E e s'') (λe' s''=>CX outer H s E e' s'') s'
theorem P2{sc:Scope}{n:Nat}{x:Str}(h:sc.names.lookup x=some .cell):∃c,(cellsFrom n sc.names []).lookup x=some c:=by
 have q:=PySem.W.cellsFrom_some sc.names n [] (.inl h);exact Option.isSome_iff_exists.mp q
theorem U5 {CX:Cp} {P:Program} {w:World} {K:PySem.W.Frag} {mg:Str->Option Value} {base:Heap} {N ps:List Str} {qual:Str} {scope:Scope} {f:Addr} {cd:Value} {A:Around} {outer:List Env} {s s1:Shared} {H:Hp} {E:XK} {us:List Value} {vs:List V}
  (S:Ak N ps scope) (hd:A.handled=none) (e0:FX P w K mg base A outer s H) (hl:vs.length=ps.length) (r:Ah vs us)
  (x:InCallC s s.heap.objs.size (bindL (envOfC qual scope s.heap.objs.size f cd).kindOf (ps.zip us) λ_=>none) (cellsFrom (s.heap.objs.size+1) scope.names []) (bindC (envOfC qual scope s.heap.objs.size f cd).kindOf (ps.zip us) λ_=>none) s1) :
  AL (GC CX P w K mg base N qual scope f cd A outer s H E) [] (Ft N vs) H s1:=by
 have hpl:ps.length<=N.length:=by have:=congrArg List.length S.pre; rw[List.length_take] at this; omega
 obtain⟨h1,tk,rfl,hk⟩:=x.done;have noA:∀b:Addr,b∉(GC CX P w K mg base N qual scope f cd A outer s H E).ex:=λb z=>absurd (show b∈([]:List Addr) from z) (by simp)
 refine⟨⟨e0.BY,S.kind,rfl,rfl,Nat.le_refl _,λy z c h1 h2=>?_,λy hy=>?_,λy c _ h=>?_,λ_=>hd,Around.frames_deeper e0.frames,.inr ⟨rfl,rfl⟩,λb z=>absurd z (noA b),e0.bs,e0.E9,λb _ _=>noA b,λb z=>absurd z (noA b),e0.DH,e0.FC⟩,
  rfl,e0.bare,Un.CK hk,⟨_,x.toInCall.ns,λi y v h1 h2 h3=>?_⟩,λy c h=>⟨_,x.cell y c h⟩,e0.hok.fresh (Nat.le_refl _),λy c h=>?_,λp hp=>absurd (show p∈([]:List (Addr×Obj)) from hp) (by simp),e0.hok.CK hk,?_⟩
 ·exact name_of_addr x.apart (PySem.mem_of_lookup h1) (PySem.mem_of_lookup h2)
 ·have hy:scope.names.lookup y=some .cell\/scope.names.lookup y=some .free:=hy;rcases hy with hy | hy
  ·exact P2 hy
  ·exact absurd rfl (S.Yn _ (PySem.mem_of_lookup hy))
 ·exact Nat.le_of_lt (x.above y c (PySem.mem_of_lookup h))
 ·have hi:i<vs.length:=by
   unfold Ft at h2;by_cases hi:i<vs.length
   ·exact hi
   ·rw[List.getElem?_append_right (by simpa using hi)] at h2;rw[List.getElem?_replicate] at h2;split at h2 <;> cases h2
  have ha:vs[i]?=some v:=by
   unfold Ft at h2;rw[List.getElem?_append_left (by simpa using hi),List.getElem?_map] at h2;cases e:vs[i]? with
   | none=>rw[e] at h2; cases h2
   | some a=>rw[e] at h2; cases h2; rfl
  obtain⟨u,hu,rv⟩:=r.get ha;have hp:ps[i]?=some y:=by
   rw[<-S.pre,List.getElem?_take_of_lt (by omega)]; exact h1
  have ndP:ps.Nodup:=by rw[<-S.pre]; exact S.nd.sublist (List.take_sublist _ _)
  refine⟨u,rv,?_⟩;rcases S.Sn y (List.mem_of_getElem? hp) with k | k
  ·exact .inl ⟨k,Ol ndP hp hu k⟩
  ·obtain⟨c,e⟩:=P2 (n:=s.heap.objs.size+1) k;refine .inr ⟨.inl k,c,e,?_⟩;have q:=x.cell y c e;rw[PF ndP hp hu (by show scope.names.lookup y≠_; rw[k]; decide)] at q;exact q
 ·exact e0.hok.fresh (Nat.le_of_lt (x.above y c (PySem.mem_of_lookup h)))
 ·unfold Ft;show _=N.length;rw[List.length_append,List.length_map,List.length_replicate];omega
theorem Rb {CX:Cp} {P:Program} {w:World} {K:PySem.W.Frag} {mg:Str->Option Value} {base:Heap} {k:Nat} {f:Addr} {name qual:Str} {params:Arguments} {body:List Stmt} {scope:Scope} {dV kV doc pm cdv ct oc:Value} {an od:Option Addr}
  {osl:Array (Option Value)} {N ps:List Str} {sp:Sp} (lk:K.lookup f=some ⟨oc,od,.func (PySem.W.fnOf name qual params body scope dV kV doc pm an cdv ct),osl⟩) (hcd:PySem.W.codeIn K cdv qual=true) (S:Ak N ps scope)
  (len:∀vs H Q E,sp vs H Q E->vs.length=ps.length)
  (hbody:∀(A:Around) (outer:List Env) (s:Shared) (H:Hp) (vs:List V) (Q:VK) (E:XK),A9 k (A.deeper (envOfC qual scope s.heap.objs.size f cdv))->sp vs H Q E →
   ∃t,Cs (GC CX P w K mg base N qual scope f cdv A outer s H E) body t/\t { nx:=λ_ H'=>Q .Ay H',rt:=Q } (Ft N vs) H) :
  AG P w K mg base CX (k+1) f (PySem.W.fnOf name qual params body scope dV kV doc pm an cdv ct) ps sp:=by
 refine⟨len,λA outer s H args us vs Q E hr e0 hb r hsp=>?_⟩;have hl:=len _ _ _ _ hsp;have KX:K.In s.heap:=e0.BY.Dg.keeps λb o e=>(e0.bs b o e).1
 have lim:s.heap.NoLimit:=e0.BY.nolimit.keeps λb o e=>(e0.bs b o e).1
 have hkind:∀y∈ps.zip us,scope.names.lookup y.1=some .local\/(scope.names.lookup y.1=some .cell/\((cellsFrom (s.heap.objs.size+1) scope.names []).lookup y.1).isSome=true):=λ⟨n,v⟩ hy=>by
  rcases S.Sn n (List.of_mem_zip hy).1 with q | q
  ·exact .inl q
  ·exact .inr ⟨q,PySem.W.cellsFrom_some _ _ _ (.inl q)⟩
 refine codeAny_call_function hr.depth (KX _ _ lk) rfl S.co S.bK rfl (PySem.W.codeRec_of KX hcd) (hb _ _ _ _ ?_);refine wpAny_newFunctionEnv_cells S.kind hkind λenv he s1 x=>?_
 subst he;refine⟨lim.keeps x.toInCall.keep,codeAny_func ?_⟩;obtain⟨t,ht,hq⟩:=hbody A outer s H vs Q E (hr.deeper _) hsp;have I:AL (GC CX P w K mg base N qual scope f cdv A outer s H E) [] (Ft N vs) H s1:=U5 S hr.hd e0 hl r x;refine wpAny_mono (ht [] s1 (Ft N vs) H _ I hq) (λfl s' hs=>?_) λe s' hs=>hs
 have fin:∀{σ':St} {H':Hp} {v:V} {u:Value},AL (GC CX P w K mg base N qual scope f cdv A outer s H E) [] σ' H' s'->Av v u->Q v H'->CE outer P w H s Q u s' :=
  λ{σ' H' v u} J rv q=>⟨v,H',J.os,J.bare,J.base,J.hok,rv,q⟩
 cases fl with
 | ret u =>
  obtain⟨v,σ',H',J,rv,q⟩:=hs;exact fin J rv q
 | next =>
  obtain⟨σ',H',J,q⟩:=hs;exact fin (v:=V.Ay) (u:=Value.none) J rfl q
 | brk =>
  obtain⟨_,_,_,q⟩:=hs;exact False.elim q
 | cont =>
  obtain⟨_,_,_,q⟩:=hs;exact False.elim q
section
variable {X:Cx} {x:Str} {p pos:Pos} {e:Expr} {es:List Expr} {t:TA} {id T:String} {r:List V->Hp->VK->Prop}
def Ic(r:List V->Hp->VK->Prop)(t:TA):TE:=λσ H Q=>t σ H λvs H1=>r vs H1 Q
theorem BJ (hc:Ck X (.builtin id) r) (hg:Gl X x) (hm:X.mg x=none) (hv:bootBuiltins x=some (.builtin id)) (ha:PA X (e :: es) t) (hn:x≠"__name__":=by decide) (hdb:(x == ("__debug__":Str))=false:=by decide)
  (he:starEach (e :: es) X.env=(false,eval e X.env) :: starEach es X.env:=by rfl) (hpl:(backTo pos (starEach es X.env)).any (·.1)=false:=by rfl):PE X (.Call (.Name x p) (e :: es) [] pos) (Ic r t):=by
 intro pins s σ H Q I h;refine wpAny_Call_Name_kw (IB I hg hm hv ?_ hn hdb);exact PyProof.Rows.callWith_builtin1 (Aa (ha pos pins s σ H _ I h) λus s1 ⟨vs,H1,I1,r1,q1⟩=>hc pins s1 σ H1 vs us Q I1 r1 q1) he hpl
theorem EJ (hc:Ck X (.type T) r) (hg:Gl X x) (hm:X.mg x=none) (hv:bootBuiltins x=some (.type T)) (ha:PA X (e :: es) t) (hn:x≠"__name__":=by decide) (hdb:(x == ("__debug__":Str))=false:=by decide)
  (he:starEach (e :: es) X.env=(false,eval e X.env) :: starEach es X.env:=by rfl) (hpl:(backTo pos (starEach es X.env)).any (·.1)=false:=by rfl):PE X (.Call (.Name x p) (e :: es) [] pos) (Ic r t):=by
 intro pins s σ H Q I h;refine wpAny_Call_Name_kw (IB I hg hm hv ?_ hn hdb);exact PyProof.Rows.callWith_type1 (Aa (ha pos pins s σ H _ I h) λus s1 ⟨vs,H1,I1,r1,q1⟩=>hc pins s1 σ H1 vs us Q I1 r1 q1) he hpl
end
end L2
namespace HT
open PySem PyProof.Rows
section
open PySem.SeqAt
open PySem.AutoSeq1 (wpAny_loadPart')
open PySem.MeetsSeq PySem.MeetsSeq2 PySem.MeetsSeq3
end
section
variable {prog:Program} {w:World} {A:Around} {E:Value->Shared->Prop} {s:Shared}
theorem W8 {t b:Addr} {vs ws:List Value} {Q:Value->Shared->Prop} (ht:IsTup s.heap t vs.toArray) (hb:IsTup s.heap b ws.toArray) (hv:vs≠[])
  (h1:ws=[]->Q (.ref t) s) (h2:ws≠[]->Q (.ref s.heap.objs.size) { s with heap:=s.heap.push { cls:=.type "tuple",data:=.seq (vs++ws).toArray } })
  (hsz:vs.length+ws.length<=sizeLine):wpAny (model prog w) A (binaryOp .Add (.ref t) (.ref b)) Q E s:=by
 obtain⟨⟨cls,dd,data,sl⟩,ho,hc,n,hd⟩:=id ht;obtain⟨⟨cls2,dd2,data2,sl2⟩,ho2,hc2,n2,hd2⟩:=id hb;simp only at hc hd hc2 hd2;subst hc hd hc2 hd2;have e:vs.toArray++ws.toArray=(vs++ws).toArray:=by simp
 by_cases hw:ws=[]
 ·exact concat_meets ⟨_,ho,rfl⟩ ⟨_,ho2,rfl⟩ noFill_tuple_add seq_tuple_add PySem.F.slot_tuple_add PySem.F.entry_tuple_add (PySem.F.args_tuple_add_2 _ _)
   (tuple_addW1 t b vs.toArray ws.toArray n n2 dd dd2 sl sl2 (by simpa using hv) (by simp[hw])) ⟨ho,ho2,h1 hw⟩
 ·refine concat_meets ⟨_,ho,rfl⟩ ⟨_,ho2,rfl⟩ noFill_tuple_add seq_tuple_add PySem.F.slot_tuple_add PySem.F.entry_tuple_add (PySem.F.args_tuple_add_2 _ _)
   (tuple_addW2 t b vs.toArray ws.toArray n n2 dd dd2 sl sl2 (by simpa using hv) (by simpa using hw) (by rw[List.size_toArray,List.size_toArray]; exact hsz)) ⟨ho,ho2,?_⟩
  rw[e];exact h2 hw
def Ao(n d:Nat):Option Int->Nat
 | none=>d
 | some v=>if v<0 then (v+(n:Int)).toNat else min v.toNat n
theorem YY(n d:Nat)(hd:d<=n)(o:Option Int):Ao n d o<=n:=by
 cases o with
 | none=>exact hd
 | some v =>
  show(if v<0 then (v+(n:Int)).toNat else min v.toNat n)<=n;by_cases hv:v<0
  ·rw[if_pos hv]; omega
  ·rw[if_neg hv]; exact Nat.min_le_right _ _
theorem QR(v:Int)(n d:Nat):(if v<0 then max (v+(n:Int)) 0 else min v (n:Int))=((Ao n d (some v):Nat):Int):=by
 show(if v<0 then max (v+(n:Int)) 0 else min v (n:Int))=(((if v<0 then (v+(n:Int)).toNat else min v.toNat n):Nat):Int);by_cases hv:v<0
 ·simp only[if_pos hv]; omega
 ·simp only[if_neg hv]; omega
theorem UJ(lo hi:Option Int)(n:Nat):Builtin.Slice.sliceAdjust lo hi 1 (n:Int)=(((Ao n 0 lo:Nat):Int),((Ao n n hi:Nat):Int)):=by
 have h1:¬((1:Int)<0):=by omega
 unfold Builtin.Slice.sliceAdjust;simp only[h1,if_false];refine Prod.ext ?_ ?_
 ·cases lo with
  | none=>rfl
  | some v=>exact QR v n 0
 ·cases hi with
  | none=>rfl
  | some v=>exact QR v n n
theorem US(i j:Nat):Builtin.Slice.slicePlaces (i:Int) (j:Int) 1=j-i:=by
 unfold Builtin.Slice.slicePlaces;have h1:(1:Int) > 0:=by omega
 simp only[h1,if_true,Int.ediv_one];split <;> omega
theorem Oc{v:Value}{o:Option Int}{Q:Option Int->Shared->Prop}(p:IsPart v o)(h:Q o s):wpAny (model prog w) A (Builtin.Slice.slicePartIndex v) Q E s:=by
 cases p with
 | none=>exact slicePart_none h
 | int i t=>exact slicePart_int h
theorem TF {sl:Addr} {vl vu:Value} {lo hi:Option Int} {n:Nat} {Q:Int×Int×Nat->Shared->Prop} (hs:s.heap.IsSliceOf sl vl vu .none) (pl:IsPart vl lo) (pu:IsPart vu hi)
  (h:Q (((Ao n 0 lo:Nat):Int),1,Ao n n hi-Ao n 0 lo) s):wpAny (model prog w) A (Builtin.Slice.sliceApplied (.ref sl) (pure (n:Int))) Q E s:=by
 obtain⟨os,hos,hcs,hds⟩:=id hs;unfold Builtin.Slice.sliceApplied Builtin.Slice.sliceFields;refine wpAny_bind (wpAny_bind (wpAny_field hos hds (x:=vl) rfl (wpAny_bind (wpAny_field hos hds (x:=vu) rfl (wpAny_bind (wpAny_field hos hds (x:=.none) rfl (wpAny_pure ?_)))))));refine wpAny_bind (slicePart_none ?_);show wpAny _ _ (if ((1:Int) == 0)=true then _ else _) _ _ s;rw[if_neg (by decide)];refine wpAny_bind (Oc pl (wpAny_bind (Oc pu (wpAny_bind (wpAny_pure ?_)))));show wpAny _ _ (match Builtin.Slice.sliceAdjust lo hi 1 (n:Int) with | (lo,hi)=>pure (lo,(1:Int),Builtin.Slice.slicePlaces lo hi 1)) _ _ s;rw[UJ lo hi n];show wpAny _ _ (pure (((Ao n 0 lo:Nat):Int),(1:Int),Builtin.Slice.slicePlaces ((Ao n 0 lo:Nat):Int) ((Ao n n hi:Nat):Int) 1)) _ _ s;rw[US];exact wpAny_pure h
theorem V3(xs:Array Value)(i k:Nat):((List.range k).filterMap λ(m:Nat)=>xs[((i:Int)+(m:Int)*1).toNat]?).toArray=((xs.toList.drop i).take k).toArray:=by
 have e:(λ(m:Nat)=>xs[((i:Int)+(m:Int)*1).toNat]?)=λm=>xs[i+m]?:=by
  funext m
  have:((i:Int)+(m:Int)*1).toNat=i+m:=by omega
  rw[this]
 rw[e]
 have:=pick_run xs i k
 rw[List.filterMap_map] at this;have e2:((λx=>xs[x]?) ∘ λx=>i+x)=λm=>xs[i+m]?:=rfl
 rw[e2] at this;rw[this]
theorem TC {t sl:Addr} {items:Array Value} {vl vu:Value} {lo hi:Option Int} {Q:Value->Shared->Prop} (ht:IsTup s.heap t items) (hs:s.heap.IsSliceOf sl vl vu .none) (pl:IsPart vl lo) (pu:IsPart vu hi)
  (hw:¬(Ao items.size 0 lo=0/\Ao items.size items.size hi=items.size))
  (h:Q (.ref s.heap.objs.size) { s with heap:=s.heap.push { cls:=.type "tuple",data:=.seq ((items.toList.drop (Ao items.size 0 lo)).take (Ao items.size items.size hi-Ao items.size 0 lo)).toArray } })
  (hsz:items.size<=sizeLine):wpAny (model prog w) A (getItem (.ref t) (.ref sl)) Q E s:=by
 have htake:sizeOk (.seq ((items.toList.drop (Ao items.size 0 lo)).take (Ao items.size items.size hi-Ao items.size 0 lo)).toArray):=by
  show((items.toList.drop (Ao items.size 0 lo)).take (Ao items.size items.size hi-Ao items.size 0 lo)).toArray.size<=sizeLine;rw[List.size_toArray,List.length_take,List.length_drop,Array.length_toList];omega
 have hj:Ao items.size items.size hi<=items.size:=YY _ _ (Nat.le_refl _) hi;obtain⟨os,hos,hcs,hds⟩:=id hs;have hTs:s.TypeIs (.ref sl) "slice":=⟨os,hos,hcs⟩;unfold getItem
 try with_reducible refine wpAny_holding ?_
 first | refine wpAny_bind (wpAny_pure ?_) | skip
 refine wpAny_bind (wpAny_sequenceKey ht.typeIs (by decide) ?_);refine wpAny_bind (wpAny_callSpecial?_slot (name:=Str.ofString "__getitem__") ht.typeIs PyProof.Rows.slot_tuple_getitem
  (wpAny_call_entry PyProof.Rows.slot_tuple_getitem ht.typeIs entry_tuple_getitem ?_ (args_tuple_getitem _ _)))
 show wpAny _ _ (Builtin.Tuple.tupleItemsOf (.ref t) >>= _) _ _ s;refine wpAny_bind (tupleItemsOf_ ht ?_);refine wpAny_bind (wpAny_typeOf hTs ?_);rw[if_pos (by decide)];refine wpAny_bind (TF hs pl pu ?_);have hno:¬((((Ao items.size 0 lo:Nat):Int) == 0 && (1:Int) == 1 && (Ao items.size items.size hi-Ao items.size 0 lo) == items.size)=true):=by
  intro q;rw[Bool.and_eq_true,Bool.and_eq_true] at q;have q1:((Ao items.size 0 lo:Nat):Int)=0:=eq_of_beq q.1.1;have q2:Ao items.size items.size hi-Ao items.size 0 lo=items.size:=eq_of_beq q.2;exact hw ⟨by omega,by omega⟩
 show wpAny _ _ (if (((Ao items.size 0 lo:Nat):Int) == 0 && (1:Int) == 1 && (Ao items.size items.size hi-Ao items.size 0 lo) == items.size)=true then _ else _) _ _ s;rw[if_neg hno,V3]
 first
  | exact wpAny_bind (m:=Builtin.Tuple.tupleExact _) (wpAny_newObj_type (wpAny_pure ⟨_,rfl,wpAny_pure h⟩) htake)
  | exact wpAny_bind (m:=Builtin.Tuple.tupleExact _) (wpAny_newObj_type (wpAny_bind (wpAny_pure (wpAny_pure ⟨_,rfl,wpAny_pure h⟩))) htake)
  | exact wpAny_bind (wpAny_bind (m:=Builtin.Tuple.tupleExact _) (wpAny_newObj_type (wpAny_pure (wpAny_pure ⟨_,rfl,wpAny_pure h⟩)) htake))
  | exact wpAny_bind (wpAny_bind (m:=Builtin.Tuple.tupleExact _) (wpAny_newObj_type (wpAny_pure ⟨_,rfl,wpAny_pure h⟩) htake))
end
end HT
namespace L2
open PySem PySem.Spec PyProof.Rows
abbrev TO:=St->Hp->(Option Int->Hp->Prop)->Prop
def PO(X:Cx)(e:Option Expr)(t:TO):Prop :=
 ∀(pins:List (Addr×Obj)) (s:Shared) (σ:St) (H:Hp) (Q:Option Int->Hp->Prop),AL X pins σ H s->t σ H Q →
  wpAny (model X.prog X.w) X.A (evalPart e X.env) (λu s'=>∃o H',AL X pins σ H' s'/\IsPart u o/\Q o H') X.xe s
def Xb:TO:=λ_ H Q=>Q none H
def Zg(t:TE):TO:=λσ H Q=>t σ H λx H1=>∃i,x=.int i/\Q (some i) H1
theorem ME{ns:List Int}:∀{us:List Value},Ah (ns.map V.int) us->IntsAre us ns:=by
 induction ns with
 | nil=>intro us r; rw[List.map_nil] at r; cases r; exact .nil
 | cons n ns ih =>
  intro us r;rw[List.map_cons] at r;cases r with
  | cons r1 r2 =>
   obtain⟨t,e⟩:=r1;subst e;exact .cons n t (ih r2)
section
variable {X:Cx} {e:Expr} {te:TE} {lo hi:Option Expr} {tl th:TO} {pos p2:Pos}
theorem Ej:PO X none Xb:=by
 intro pins s σ H Q I h;rw[evalPart_none];exact wpAny_pure ⟨none,H,I,.none,h⟩
theorem D4(h:PE X e te):PO X (some e) (Zg te):=by
 intro pins s σ H Q I hw;rw[evalPart_some];refine Aa (h pins s σ H _ I hw) λu s1 ⟨x,H1,I1,r1,q1⟩=>?_
 obtain⟨i,rfl,q⟩:=q1;obtain⟨t,rfl⟩:=r1;exact⟨some i,H1,I1,.int i t,q⟩
def J4(X:Cx)(r:V->Option Int->Option Int->Hp->VK->Prop):Prop :=
 ∀(pins:List (Addr×Obj)) (s:Shared) (σ:St) (H:Hp) (x:V) (v vl vu:Value) (lo hi:Option Int) (sl:Addr) (Q:VK),AL X pins σ H s->Av x v->s.heap.IsSliceOf sl vl vu .none->IsPart vl lo->IsPart vu hi->r x lo hi H Q →
  ∃T id,typeLookup (.type T) "__getitem__" = pure (some (.builtin id))/\s.TypeIs v T/\wpAny (model X.prog X.w) X.A (getItem v (.ref sl)) (EP X pins σ Q) X.xe s
def bH(r:V->Option Int->Option Int->Hp->VK->Prop)(te:TE)(tl th:TO):TE:=λσ H Q=>te σ H λx H1=>tl σ H1 λl H2=>th σ H2 λu H3=>r x l u H3 Q
theorem EK{r:V->Option Int->Option Int->Hp->VK->Prop}(hr:J4 X r)(he:PE X e te)(hl:PO X lo tl)(hu:PO X hi th):PE X (.Subscript e (.Slice lo hi none p2) pos) (bH r te tl th):=by
 intro pins s σ H Q I h;refine Subscript_ (Aa (he pins s σ H _ I h) λv s1 ⟨x,H1,I1,r1,q1⟩=>?_);refine wpAny_Slice (Aa (hl pins s1 σ H1 _ I1 q1) λvl s2 ⟨l,H2,I2,pl,q2⟩=>Aa (hu pins s2 σ H2 _ I2 q2) λvu s3 ⟨u,H3,I3,pu,q3⟩=>?_);rw[evalPart_none];refine wpAny_pure ?_;have I4:AL X pins σ H3 { s3 with heap:=s3.heap.push { cls:=.type "slice",data:=.fields #[vl,vu,.none] } }:=I3.CK (t':=s3.toks) λb ob q=>Heap.get?_push_of_some _ q
 obtain⟨T,id,hT,ht,hg⟩:=hr pins { s3 with heap:=s3.heap.push { cls:=.type "slice",data:=.fields #[vl,vu,.none] } } σ H3 x v vl vu l u s3.heap.objs.size Q I4 r1 (Heap.IsSliceOf.new ..) pl pu q3;show wpAny (model X.prog X.w) X.A (subscriptTail e (.Slice lo hi none p2) v (.ref s3.heap.objs.size)) (EP X pins σ Q) X.xe { s3 with heap:=s3.heap.push { cls:=.type "slice",data:=.fields #[vl,vu,.none] } };exact tail_any (ops:=[.ref s3.heap.objs.size,v]) ht hT hg (by with_unfolding_all rfl)
def Bv(xs:List V)(lo hi:Option Int):List V:=(xs.drop (HT.Ao xs.length 0 lo)).take (HT.Ao xs.length xs.length hi-HT.Ao xs.length 0 lo)
theorem OQ(xs:List V)(lo hi:Option Int):(Bv xs lo hi).length<=xs.length:=by
 unfold Bv;rw[List.length_take,List.length_drop];omega
def SV(K:PySem.W.Frag):V->Option Int->Option Int->Hp->VK->Prop:=λx lo hi H Q=>∃a xs,x=.ref a/\AJ K H a xs /\
 ¬(HT.Ao xs.length 0 lo=0/\HT.Ao xs.length xs.length hi=xs.length)/\∀p,H p=none->Q (.ref p) (AK H p (.AH (Bv xs lo hi)))
theorem RA:J4 X (SV X.K):=by
 intro pins s σ H x v vl vu lo hi sl Q I rx hs pl pu h;obtain⟨a,xs,rfl,hx,hw,q⟩:=h;cases rx;obtain⟨its,r,ht,hz⟩:=I.tuple hx;have hlen:its.toArray.size=xs.length:=by rw[List.size_toArray]; exact r.length.symm
 refine⟨"tuple",_,PyProof.Rows.slot_tuple_getitem.lookup,ht.typeIs,?_⟩;refine HT.TC ht hs pl pu (by rw[hlen]; exact hw) ?_ (by rw[hlen]; exact hz);rw[hlen];refine⟨.ref s.heap.objs.size,_,I.laid (t':=s.toks) (o:=.AH (Bv xs lo hi)) (λb ob q=>Heap.get?_push_of_some _ q) (Nat.le_refl _) ?_,rfl,q _ (I.hok.fresh (Nat.le_refl _))⟩;exact⟨Nat.le_trans (OQ xs lo hi) hz,_,(r.drop (HT.Ao xs.length 0 lo)).take (HT.Ao xs.length xs.length hi-HT.Ao xs.length 0 lo),IsTup.new _ _,_,Heap.get?_push_size _ rfl,rfl⟩
def R7(K:PySem.W.Frag):R2:=λx y H Q=>∃a b xs ys,x=.ref a/\y=.ref b/\AJ K H a xs/\AJ K H b ys/\xs≠[]/\xs.length+ys.length<=sizeLine /\
 (ys=[]->Q (.ref a) H)/\(ys≠[]->∀p,H p=none->Q (.ref p) (AK H p (.AH (xs++ys))))
theorem Ah.Mg{xs:List V}{us:List Value}(r:Ah xs us):us=[]↔xs=[]:=by
 cases r with
 | nil=>simp
 | cons _ _=>simp
theorem XT:BZ X (binaryOp .Add) (R7 X.K):=by
 intro pins s σ H x y v u Q I rx ry h;obtain⟨a,b,xs,ys,rfl,rfl,ha,hb,hx,hz,q1,q2⟩:=h;cases rx;cases ry;obtain⟨its,r1,p1,_⟩:=I.tuple ha;obtain⟨its2,r2,p2,_⟩:=I.tuple hb;refine HT.W8 p1 p2 (λz=>hx (r1.Mg.mp z)) (λz=>⟨.ref a,H,I,rfl,q1 (r2.Mg.mp z)⟩) (λz=>?_) (by rw[<-r1.length,<-r2.length]; exact hz);refine⟨.ref s.heap.objs.size,_,I.laid (t':=s.toks) (o:=.AH (xs++ys)) (λb ob q=>Heap.get?_push_of_some _ q) (Nat.le_refl _) ?_,rfl,q2 (λw=>z (r2.Mg.mpr w)) _ (I.hok.fresh (Nat.le_refl _))⟩;exact⟨by rw[List.length_append]; exact hz,_,r1.FO r2,IsTup.new _ _,_,Heap.get?_push_size _ rfl,rfl⟩
def Fc(n:Nat)(i:Int):Option Nat:=if 0<=i then (if i<n then some i.toNat else none) else if -(n:Int)<=i then some (i+n).toNat else none
def BN{α:Type}(xs:List α)(i:Int):Option α:=(Fc xs.length i).bind λj=>xs[j]?
theorem Qe{n:Nat}{i:Int}{j:Nat}(h:Fc n i=some j):seqIndex? i n=some j/\j<n/\-(n:Int)<=i/\i<n:=by
 unfold Fc at h;by_cases h0:0<=i
 ·rw[if_pos h0] at h;by_cases h1:i<n
  ·rw[if_pos h1] at h;have e:i.toNat=j:=Option.some.inj h;exact⟨by rw[seqIndex_of h0 h1,e],by omega,by omega,h1⟩
  ·rw[if_neg h1] at h; cases h
 ·rw[if_neg h0] at h;by_cases h1:-(n:Int)<=i
  ·rw[if_pos h1] at h;have e:(i+n).toNat=j:=Option.some.inj h;exact⟨by rw[seqIndex_neg (by omega) h1,e],by omega,h1,by omega⟩
  ·rw[if_neg h1] at h; cases h
theorem QN{α:Type}{xs:List α}{i:Int}{v:α}(h:BN xs i=some v):∃j,seqIndex? i xs.length=some j/\xs[j]?=some v/\j<xs.length/\-(xs.length:Int)<=i/\i<xs.length:=by
 unfold BN at h;cases e:Fc xs.length i with
 | none=>rw[e] at h; cases h
 | some j =>
  rw[e] at h;obtain⟨h1,h2,h3,h4⟩:=Qe e;exact⟨j,h1,h,h2,h3,h4⟩
theorem Al{α:Type}{xs:List α}{j:Nat}{v:α}(h:xs[j]?=some v):BN xs (j:Int)=some v:=by
 have hj:j<xs.length:=(List.getElem?_eq_some_iff.mp h).1;have e:Fc xs.length (j:Int)=some j:=by
  unfold Fc;rw[if_pos (by omega),if_pos (by omega)]; simp
 unfold BN; rw[e]; exact h
def Md(b:Expr):Prop:=∀o i,subscripted b false o i=operate [o,i] (getItem o i)
def J0(X:Cx)(r:R2):Prop :=
 ∀(value slice:Expr) (pins:List (Addr×Obj)) (s:Shared) (σ:St) (H:Hp) (x y:V) (v u:Value) (Q:VK),AL X pins σ H s->Av x v->Av y u->r x y H Q →
  subscripted slice false v u=operate [v,u] (getItem v u)->wpAny (model X.prog X.w) X.A (subscriptTail value slice v u) (EP X pins σ Q) X.xe s
def Sv(X:Cx)(id:String)(r:V->List V->Hp->VK->Prop):Prop :=
 ∀(pins:List (Addr×Obj)) (s:Shared) (σ:St) (H:Hp) (x:V) (xs:List V) (v:Value) (us:List Value) (Q:VK),AL X pins σ H s->Av x v->Ah xs us->r x xs H Q →
  wpAny (model X.prog X.w) X.A (call (.builtin id) (v :: us)) (EP X pins σ Q) X.xe s
variable {a b:Expr} {ta tb:TE}
theorem EU{r:R2}(hr:J0 X r)(ha:PE X a ta)(hb:PE X b tb)(hs:Md b):PE X (.Subscript a b pos) (BG r ta tb):=by
 intro pins s σ H Q I h;exact Subscript_ (Ng ha hb I h λv u s2 x y H2 I2 rx ry q=>hr a b pins s2 σ H2 x y v u Q I2 rx ry q (hs _ _))
inductive Sk(K:PySem.W.Frag)(x y:V)(H:Hp)(Q:VK):Prop
 | mk (p:Addr) (xs:List V) (i:Int) (v:V) (a:x=.ref p) (b:y=.int i) (c:AS K H p xs) (d:BN xs i=some v) (q:Q v H):Sk K x y H Q
inductive SI(K:PySem.W.Frag)(x y:V)(H:Hp)(Q:VK):Prop
 | mk (p:Addr) (xs:List V) (i:Int) (v:V) (a:x=.ref p) (b:y=.int i) (c:AJ K H p xs) (d:BN xs i=some v) (q:Q v H):SI K x y H Q
def GA(K:PySem.W.Frag):R2:=λx y H Q=>Sk K x y H Q
def Ew(K:PySem.W.Frag):R2:=λx y H Q=>SI K x y H Q
theorem MX:J0 X (GA X.K):=by
 intro value slice pins s σ H x y v u Q I rx ry h hs;obtain⟨p,xs,i,z,rfl,rfl,hq,he,q⟩:=h;cases rx;obtain⟨t,rfl⟩:=ry;obtain⟨its,r,pl,hz⟩:=I.list hq;obtain⟨j,h1,h2,h3,h4,h5⟩:=QN he;obtain⟨w,ew,rw'⟩:=r.get h2;have hl:=r.length;have hn:=K2;have fin:EP X pins σ Q w s:=⟨z,H,I,rw',q⟩;by_cases h0:0<=i
 ·have hj:i.toNat=j:=by
   rw[seqIndex_of h0 h5] at h1;exact Option.some.inj h1
  exact item_listR pl.isList h0 (by omega) (by rw[hj]; simpa using ew) fin hs
 ·have hj:(i+(its.toArray.size:Int)).toNat=j:=by
   rw[seqIndex_neg (by omega) h4] at h1;rw[List.size_toArray,<-hl];exact Option.some.inj h1
  exact subscriptTail_builtinR (x:=w) pl.isList.typeIs slot_list_getitem.lookup
   (wpAny_getItem_list_neg (Q:=λr s'=>r=w/\EP X pins σ Q r s') pl.isList (by omega) (by rw[List.size_toArray] <;> omega) (by omega) (by rw[hj]; simpa using ew) ⟨rfl,fin⟩) hs
theorem Fq:J0 X (Ew X.K):=by
 intro value slice pins s σ H x y v u Q I rx ry h hs;obtain⟨p,xs,i,z,rfl,rfl,hq,he,q⟩:=h;cases rx;obtain⟨t,rfl⟩:=ry;obtain⟨its,r,pl,hz⟩:=I.tuple hq;obtain⟨j,h1,h2,h3,h4,h5⟩:=QN he;obtain⟨w,ew,rw'⟩:=r.get h2;have hl:=r.length;have hn:=K2;have fin:EP X pins σ Q w s:=⟨z,H,I,rw',q⟩;exact subscriptTail_builtinR (x:=w) pl.typeIs slot_tuple_getitem.lookup
  (getItem_tuple (j:=j) (Q:=λr s'=>r=w/\EP X pins σ Q r s') pl (by omega) (by omega) (by rw[List.size_toArray,<-hl]; exact h1) (by simpa using ew) ⟨rfl,fin⟩) hs
theorem T9(its:List Value)(n j:Nat)(u:Value):Obj.mapSeq (·.setIfInBounds j u) { cls:=.type "list",data:=.seq its.toArray n }={ cls:=.type "list",data:=.seq (its.set j u).toArray n }:=by
 simp[Obj.mapSeq]
theorem AL.AN{pins:List (Addr×Obj)}{σ:St}{H:Hp}{s:Shared}{p:Addr}{xs:List V}(I:AL X pins σ H s)(h:H p=some (.AN xs)):
  ∃(its:List Value) (n:Nat),Ah xs its/\s.heap.get? p=some { cls:=.type "list",data:=.seq its.toArray n }/\xs.length<=sizeLine:=by
 obtain⟨z,its,n,r,e⟩:=I.hok p _ h;exact⟨its,n,r,e,z⟩
theorem AL.X1 {pins:List (Addr×Obj)} {σ:St} {H:Hp} {s:Shared} {p:Addr} {xs ys:List V} {its its':List Value} {n n':Nat} {f:Obj->Obj} (I:AL X pins σ H s) (h:H p=some (.AN xs))
  (ho:s.heap.get? p=some { cls:=.type "list",data:=.seq its.toArray n }) (hf:f { cls:=.type "list",data:=.seq its.toArray n }={ cls:=.type "list",data:=.seq its'.toArray n' }) (r:Ah ys its') (hz:ys.length<=sizeLine) (t:Nat) :
  AL X pins σ (AK H p (.AN ys)) { s with heap:=s.heap.update p f,toks:=t }:=by
 have e:(s.heap.update p f).get? p=some { cls:=.type "list",data:=.seq its'.toArray n' }:=by
  rw[Heap.get?_update_self f ho (by rw[hf] <;> rfl),hf]
 refine I.Gg (x:=p) (e:=p) (by rw[h]; trivial) (.inl rfl) (λb u hb q=>(Heap.get?_update_other _ _ (Ne.symm hb)).trans q) ⟨_,e⟩ ?_;exact⟨hz,its',n',r,e⟩
inductive Rw(o i v:V)(H:Hp)(Q:Hp->Prop):Prop
 | mk (p:Addr) (xs:List V) (k:Int) (j:Nat) (e1:o=.ref p) (e2:i=.int k) (h:H p=some (.AN xs)) (x:Fc xs.length k=some j) (q:Q (AK H p (.AN (xs.set j v)))):Rw o i v H Q
def ZC:V->V->V->Hp->(Hp->Prop)->Prop:=λo i v H Q=>Rw o i v H Q
theorem Pg:Sm X ZC:=by
 intro pins s σ H o i v ov iv u Q I ro ri rv h;obtain⟨p,xs,k,j,rfl,rfl,hp,hj,q⟩:=h;cases ro;obtain⟨t,rfl⟩:=ri;obtain⟨its,n,r,ho,hz⟩:=I.AN hp;obtain⟨h1,h2,h3,h4⟩:=Qe hj;have hl:=r.length;have hn:=K2;have I':AL X pins σ (AK H p (.AN (xs.set j v))) { s with heap:=s.heap.update p (Obj.mapSeq (·.setIfInBounds j u)) } :=
  I.X1 hp ho (T9 its n j u) (r.set rv j) (by rw[List.length_set]; exact hz) s.toks
 by_cases h0:0<=k
 ·have hk:k.toNat=j:=by
   rw[seqIndex_of h0 h4] at h1;exact Option.some.inj h1
  exact PySem.W.ki_setAt ho h0 (by omega) (by rw[List.size_toArray,<-hl]; exact h4) (by rw[hk]; exact⟨_,I',q⟩)
 ·have hk:(k+(its.toArray.size:Int)).toNat=j:=by
   rw[seqIndex_neg (by omega) h3] at h1;rw[List.size_toArray,<-hl];exact Option.some.inj h1
  exact PySem.W.ki_setBack ho (by omega) (by rw[List.size_toArray,<-hl]; exact h3) (by omega) (by rw[hk]; exact⟨_,I',q⟩)
theorem TY(lo hi:Option Int)(n:Nat):(sliceBounds lo hi none n).1=((HT.Ao n 0 lo:Nat):Int)/\(sliceBounds lo hi none n).2.1=((HT.Ao n n hi:Nat):Int)/\(sliceBounds lo hi none n).2.2=1:=by
 refine⟨?_,?_,rfl⟩
 ·cases lo with
  | none=>simp[sliceBounds,HT.Ao]
  | some i =>
   simp only[sliceBounds,HT.Ao,Option.getD_none,show(1:Int) > 0 by decide,if_true];by_cases h:i<0
   ·simp only[h,if_true] <;> omega
   ·simp only[h,if_false] <;> omega
 ·cases hi with
  | none=>simp[sliceBounds,HT.Ao]
  | some i =>
   simp only[sliceBounds,HT.Ao,Option.getD_none,show(1:Int) > 0 by decide,if_true];by_cases h:i<0
   ·simp only[h,if_true] <;> omega
   ·simp only[h,if_false] <;> omega
theorem TR(its:List Value)(lo hi:Option Int):slicePick its.toArray lo hi none=((its.drop (HT.Ao its.length 0 lo)).take (HT.Ao its.length its.length hi-HT.Ao its.length 0 lo)).toArray:=by
 obtain⟨h1,h2,h3⟩:=TY lo hi its.toArray.size;unfold slicePick;rw[h1,h2,h3];simp only[sliceRange_one,pick_run,List.size_toArray] <;> rfl
inductive SW(K:PySem.W.Frag)(x:V)(lo hi:Option Int)(H:Hp)(Q:VK):Prop
 | mk (a:Addr) (xs:List V) (e:x=.ref a) (s:AS K H a xs) (q:∀p,H p=none->Q (.ref p) (AK H p (.AN (Bv xs lo hi)))):SW K x lo hi H Q
def Si(K:PySem.W.Frag):V->Option Int->Option Int->Hp->VK->Prop:=λx lo hi H Q=>SW K x lo hi H Q
theorem Xv:J4 X (Si X.K):=by
 intro pins s σ H x v vl vu lo hi sl Q I rx hs pl pu h;obtain⟨a,xs,rfl,hx,q⟩:=h;cases rx;obtain⟨its,r,ht,hz⟩:=I.list hx;have hlen:=r.length;refine⟨"list",_,slot_list_getitem.lookup,ht.isList.typeIs,?_⟩;refine wpAny_getItem_list_slice ht.isList hs pl pu .none (by simp) ?_ (by rw[List.size_toArray] <;> omega);rw[TR,<-hlen];refine⟨.ref s.heap.objs.size,_,I.laid (t':=s.toks) (o:=.AN (Bv xs lo hi)) (λb ob q=>Heap.get?_push_of_some _ q) (Nat.le_refl _) ?_,rfl,q _ (I.hok.fresh (Nat.le_refl _))⟩;exact⟨Nat.le_trans (OQ xs lo hi) hz,_,0,(r.drop (HT.Ao xs.length 0 lo)).take (HT.Ao xs.length xs.length hi-HT.Ao xs.length 0 lo),Heap.get?_push_size _ rfl⟩
inductive N3(K:PySem.W.Frag)(xs:List V)(H:Hp)(Q:VK):Prop
 | mk (p:Addr) (ys:List V) (e:xs=[.ref p]) (s:AS K H p ys\/AJ K H p ys) (q:Q (.int ys.length) H):N3 K xs H Q
theorem TZ:Ck X (.builtin "len") (N3 X.K):=by
 intro pins s σ H xs us Q I r h;obtain⟨p,ys,rfl,hq,q⟩:=h;obtain⟨u,rfl,rx⟩:=Eu r;cases rx;have hn:=K2;rcases hq with hq | hq
 ·obtain⟨its,r',pl,hz⟩:=I.list hq;have hlen:=r'.length;exact Calls.call_len_list pl.isList (by simp only[List.size_toArray] <;> omega) ⟨.int ys.length,H,I.DR _,⟨s.toks+1,by rw[List.size_toArray,hlen]⟩,q⟩
 ·obtain⟨its,r',pl,hz⟩:=I.tuple hq;have hlen:=r'.length;exact len_tuple pl (by simp only[List.size_toArray] <;> omega) ⟨.int ys.length,H,I.DR _,⟨s.toks+1,by rw[List.size_toArray,hlen]⟩,q⟩
theorem L6:Ck X (.type "list") (λxs H Q=>∃p ys,xs=[.ref p]/\(AS X.K H p ys\/AJ X.K H p ys)/\∀l,H l=none->Q (.ref l) (AK H l (.AN ys))):=by
 intro pins s σ H xs us Q I r h;obtain⟨p,ys,rfl,hq,q⟩:=h;obtain⟨u,rfl,rx⟩:=Eu r;cases rx;have fin:∀(its:List Value),Ah ys its->ys.length<=sizeLine->∀(h':Heap) (c':Nat),(∀b o',s.heap.get? b=some o'->h'.get? b=some o') →
   h'.get? s.heap.objs.size=some { cls:=.type "list",dict:=none,data:=.seq its.toArray c',slots:=#[] }->EP X pins σ Q (.ref s.heap.objs.size) { s with heap:=h' }:=λits r' hz h' c' kp e =>
  ⟨.ref s.heap.objs.size,_,I.laid (t':=s.toks) kp (Nat.le_refl _) (show BR X.prog X.w _ h' _ (.AN ys) from ⟨hz,its,c',r',e⟩),rfl,q _ (I.hok.fresh (Nat.le_refl _))⟩
 rcases hq with hq | hq
 ·obtain⟨its,r',pl,hz⟩:=I.list hq;have hlen:=r'.length;obtain⟨o,ho,hc,n,hd⟩:=pl.isList;exact call_list_seq p (.inl rfl) ho hc hd (λh' c' kp e=>fin its r' hz h' c' kp e) (by simp only[List.size_toArray] <;> omega)
 ·obtain⟨its,r',pl,hz⟩:=I.tuple hq;have hlen:=r'.length;obtain⟨o,ho,hc,n,hd⟩:=pl;exact call_list_seq p (.inr rfl) ho hc hd (λh' c' kp e=>fin its r' hz h' c' kp e) (by simp only[List.size_toArray] <;> omega)
theorem Ik:Ck X (.type "tuple") (λxs H Q=>∃p ys,xs=[.ref p]/\((AS X.K H p ys/\∀l,H l=none->Q (.ref l) (AK H l (.AH ys)))\/(AJ X.K H p ys/\Q (.ref p) H))):=by
 intro pins s σ H xs us Q I r h;obtain⟨p,ys,rfl,h⟩:=h;obtain⟨u,rfl,rx⟩:=Eu r;cases rx;rcases h with ⟨hq,q⟩ | ⟨hq,q⟩
 ·obtain⟨its,r',pl,hz⟩:=I.list hq;have hlen:=r'.length;refine call_tuple_list pl.isList (λh' kp=>?_) (by simp only[List.size_toArray] <;> omega);have I1:AL X pins σ H { s with heap:=h' }:=I.CK (t':=s.toks) kp;have I2:AL X pins σ (AK H h'.objs.size (.AH ys)) { s with heap:=h'.push { cls:=.type "tuple",data:=.seq its.toArray } } :=
   I1.laid (t':=s.toks) (λb o e=>Heap.get?_push_of_some _ e) (Nat.le_refl _) (show BR X.prog X.w _ _ _ (.AH ys) from ⟨hz,its,r',IsTup.new _ _,_,Heap.get?_push_size _ rfl,rfl⟩)
  exact⟨.ref h'.objs.size,_,I2,rfl,q _ (I1.hok.fresh (Nat.le_refl _))⟩
 ·obtain⟨its,r',pl,hz⟩:=I.tuple hq;exact call_tuple_same pl ⟨.ref p,H,I,rfl,q⟩
def Sq(K:PySem.W.Frag)(T:String)(x:V)(H:Hp):Prop:=match x with
 | .str _=>T="str"
 | .int _=>T="int"
 | .ref p=>(T="list"/\∃xs,AS K H p xs)\/(T="tuple"/\∃o,K.lookup p=some o/\o.cls=.type "tuple"/\o.dict=none) \/
   (T="dict"/\((∃kvs,H p=some (.dK kvs))\/∃kvs,H p=some (.dT kvs)))\/(T="set"/\∃S n,H p=some (.set S n))
 | _=>False
theorem Yj{pins:List (Addr×Obj)}{σ:St}{H:Hp}{s:Shared}{T:String}{x:V}{v:Value}(I:AL X pins σ H s)(r:Av x v)(ty:Sq X.K T x H):
  s.TypeIs v T/\∀a,v=.ref a->∃ob,s.heap.get? a=some ob/\ob.dict=none:=by
 cases x with
 | str z =>
  obtain⟨t,rfl⟩:=r;cases (show T="str" from ty);exact⟨typeIs_str s z t,λ_ e=>nomatch e⟩
 | int i =>
  obtain⟨t,rfl⟩:=r;cases (show T="int" from ty);exact⟨typeIs_int s i t,λ_ e=>nomatch e⟩
 | ref p =>
  cases r;rcases ty with ⟨rfl,xs,hq⟩ | ⟨rfl,o,hk,hc,hd⟩ | ⟨rfl,hk⟩ | ⟨rfl,S,n,hk⟩
  ·obtain⟨its,_,pl,_⟩:=I.list hq;refine⟨pl.isList.typeIs,λa e=>?_⟩;cases e;obtain⟨o,n,e,c,hd,_⟩:=pl;exact⟨o,e,hd⟩
  ·refine⟨⟨o,I.BF p o hk,hc⟩,λa e=>?_⟩;cases e;exact⟨o,I.BF _ o hk,hd⟩
  ·have z:∃o,s.heap.get? p=some o/\o.ExactDict:=by
    rcases hk with ⟨kvs,hk⟩ | ⟨kvs,hk⟩
    ·obtain⟨_,_,_,_,o,_,_,e,ex,_⟩:=I.hok p _ hk;exact⟨o,e,ex⟩
    ·obtain⟨_,_,_,_,o,_,_,e,ex,_⟩:=I.hok p _ hk;exact⟨o,e,ex⟩
   obtain⟨o,e,ex⟩:=z;refine⟨⟨o,e,ex.1⟩,λa e2=>?_⟩;cases e2;exact⟨o,e,ex.2.1⟩
  ·obtain⟨o,_,_,_,e,ex,_⟩:=I.hok p _ hk;refine⟨⟨o,e,ex.1⟩,λa e2=>?_⟩;cases e2;exact⟨o,e,ex.2.1⟩
 | _=>exact False.elim ty
def TB(K:PySem.W.Frag)(T:String)(r:V->List V->Hp->VK->Prop)(to:TE)(t:TA):TE:=λσ H Q=>to σ H λx H1=>Sq K T x H1/\t σ H1 λxs H2=>r x xs H2 Q
variable {o:Expr} {es:List Expr} {to:TE} {t:TA} {name:Str} {apos cpos:Pos} {T id:String} {r:V->List V->Hp->VK->Prop}
theorem Y9 (pa:PlainAttrs T) (slot:Slot T name id) (hty:typeOf (.builtin id)=pure (.type "method_descriptor")) (hm:Sv X id r) (ho:PE X o to) (ha:PA X (e :: es) t)
  (hbase:attributeBase o name X.env (eval o X.env)=eval o X.env:=by rfl)
  (hfew:((backTo cpos (starEach (e :: es) X.env)).all (λx=>!x.1) && (backToKw cpos (keywordEach [] X.env)).all (λx=>x.1.isSome)
   && decide ((e :: es).length+([]:List Keyword).length+(if ([]:List Keyword).isEmpty then 0 else 1)<30))=true:=by rfl)
  (hline:(apos.endLine == cpos.line)=true:=by rfl) (hs:starEach (e :: es) X.env=(false,eval e X.env) :: starEach es X.env:=by rfl) (hplain:(backTo cpos (starEach es X.env)).any (·.1)=false:=by rfl) :
  PE X (.Call (.Attribute o name apos) (e :: es) [] cpos) (TB X.K T r to t):=by
 intro pins s σ H Q I h;refine wpAny_Call_method_late hbase hfew hline rfl (Aa (ho pins s σ H _ I h) λv s1 ⟨x,H1,I1,r1,ty,q1⟩=>?_);obtain⟨h1,h2⟩:=Yj I1 r1 ty;refine⟨T,id,pa,slot,hty,h1,h2,?_⟩;have hA:=ha cpos pins s1 σ H1 _ I1 q1;rw[hs] at hA ⊢;refine Calls.callWith_builtin (by show(false || (backTo cpos (starEach es X.env)).any (·.1))=false; rw[hplain] <;> rfl) (Calls.evalArgs_plain ?_);exact Aa hA λus s2 ⟨vs,H2,I2,r2,q2⟩=>hm pins s2 σ H2 x vs v us Q I2 r1 r2 q2
end
def Jt(X:Cx)(id:String)(r:V->List V->Hp->VK->Prop):Prop :=
 ∀(pins:List (Addr×Obj)) (s:Shared) (σ:St) (H:Hp) (x:V) (xs:List V) (v:Value) (us:List Value) (Q:VK),AL X pins σ H s->Av x v->Ah xs us->r x xs H Q →
  wpAny (model X.prog X.w) X.A (call (.builtin id) (v :: us)) (EP X pins σ Q) X.xe s
theorem Ah.one:∀{x:V} {us:List Value},Ah [x] us->∃u,us=[u]/\Av x u
 | _,_,.cons r .nil=>⟨_,rfl,r⟩
theorem Ah.OF:∀{x y:V} {us:List Value},Ah [x,y] us->∃u v,us=[u,v]/\Av x u/\Av y v
 | _,_,_,.cons r (.cons q .nil)=>⟨_,_,rfl,r,q⟩
theorem Ah.dropLast{xs:List V}{us:List Value}(h:Ah xs us):Ah xs.dropLast us.dropLast:=by
 induction h with
 | nil=>exact .nil
 | cons r t ih =>
  cases t with
  | nil=>exact .nil
  | cons q t'=>exact .cons r ih
theorem Ah.eraseIdx:∀{xs:List V} {us:List Value} (i:Nat),Ah xs us->Ah (xs.eraseIdx i) (us.eraseIdx i)
 | _,_,_,.nil=>.nil
 | _,_,0,.cons _ t=>t
 | _,_,i+1,.cons r t=>.cons r (Ah.eraseIdx i t)
theorem Ah.reverse{xs:List V}{us:List Value}(h:Ah xs us):Ah xs.reverse us.reverse:=by
 induction h with
 | nil=>exact .nil
 | cons r t ih=>rw[List.reverse_cons,List.reverse_cons]; exact Ah.FO ih (.cons r .nil)
theorem PH{α:Type}:∀(l:List α) (i:Nat),(l.eraseIdx i).length<=l.length
 | [],_=>Nat.le_refl _
 | _ :: _,0=>Nat.le_succ _
 | _ :: r,i+1=>Nat.succ_le_succ (PH r i)
section
variable {X:Cx} {pins:List (Addr×Obj)} {σ:St} {H:Hp} {s:Shared} {l b:Addr} {xs ys zs:List V}
theorem AL.lset {its its':List Value} {n:Nat} {f:Array Value->Array Value} {t':Nat} (I:AL X pins σ H s) (hH:H l=some (.AN xs))
  (e:s.heap.get? l=some { cls:=.type "list",data:=.seq its.toArray n }) (hf:f its.toArray=its'.toArray) (hv:Ah ys its') (hz:ys.length<=sizeLine) :
  AL X pins σ (AK H l (.AN ys)) { s with heap:=s.heap.update l (Obj.mapSeq f),toks:=t' }:=by
 have q:=PySem.IsL.update e f;rw[hf] at q;refine I.Gg (x:=l) (e:=l) (by rw[hH]; exact trivial) (.inl rfl) (λb' u hb hu=>(Heap.get?_update_other s.heap (Obj.mapSeq f) (Ne.symm hb)).trans hu) ⟨_,q⟩ ?_;exact⟨hz,its',_,hv,q⟩
theorem AL.aw{its:List Value}{t':Nat}(I:AL X pins σ H s)(hv:Ah ys its)(hz:ys.length<=sizeLine):
  AL X pins σ (AK H s.heap.objs.size (.AN ys)) { s with heap:=s.heap.push { cls:=.type "list",data:=.seq its.toArray },toks:=t' } :=
 I.laid (λ_ _ q=>Heap.get?_push_of_some _ q) (Nat.le_refl _) ⟨hz,its,0,hv,Heap.get?_push_size _ rfl⟩
theorem AL.fresh(I:AL X pins σ H s):H s.heap.objs.size=none:=I.hok.fresh (Nat.le_refl _)
theorem AL.Gn(I:AL X pins σ H s)(hH:H l=some (.AN xs)):xs.length<=sizeLine/\∃(its:List Value) (n:Nat),Ah xs its/\xs.length=its.length/\s.heap.get? l=some { cls:=.type "list",data:=.seq its.toArray n }:=by
 obtain⟨z,its,n,r,e⟩:=I.hok l _ hH;exact⟨z,its,n,r,r.length,e⟩
theorem Vw{n:Nat}(h:n<=sizeLine):Builtin.List.listTooLong n=false:=by
 unfold Builtin.List.listTooLong;exact decide_eq_false (by omega)
end
section
variable {X:Cx}
inductive Sh(x:V)(vs:List V)(H:Hp)(Q:VK):Prop
 | mk (l:Addr) (xs:List V) (y:V) (e1:x=.ref l) (e2:vs=[y]) (h:H l=some (.AN xs)) (n:xs.length<sizeLine) (q:Q .Ay (AK H l (.AN (xs++[y])))):Sh x vs H Q
def XC:V->List V->Hp->VK->Prop:=λx vs H Q=>Sh x vs H Q
theorem VD:Jt X "list.append" XC:=by
 intro pins s σ H x vs v us Q I rx rv h;obtain⟨l,xs,y,rfl,rfl,hH,hz,q⟩:=h;cases rx;obtain⟨u,rfl,ru⟩:=rv.one;obtain⟨z,its,n,r,hl,e⟩:=I.Gn hH;refine call_meets F.slot_list_append ⟨_,e,rfl⟩ F.entry_list_append (F.args_list_append_2 _ _) (PySem.list_append l its.toArray n u (by rw[List.size_toArray]; omega)) ⟨e,?_⟩;refine⟨.Ay,_,I.lset (its':=its++[u]) hH e (by simp) (r.FO (.cons ru .nil)) ?_,rfl,q⟩;rw[List.length_append,List.length_singleton];omega
def Xs:V->List V->Hp->VK->Prop:=λx vs H Q=>∃l b xs zs,x=.ref l/\vs=[.ref b]/\H l=some (.AN xs)/\H b=some (.AN zs)/\xs.length+zs.length<=sizeLine/\Q .Ay (AK H l (.AN (xs++zs)))
theorem U2:Jt X "list.extend" Xs:=by
 intro pins s σ H x vs v us Q I rx rv h;obtain⟨l,b,xs,zs,rfl,rfl,hH,hB,hz,q⟩:=h;cases rx;obtain⟨u,rfl,ru⟩:=rv.one;cases ru;obtain⟨z,its,n,r,hl,e⟩:=I.Gn hH;obtain⟨z2,its2,n2,r2,hl2,e2⟩:=I.Gn hB;have hsz:its.toArray.size+its2.toArray.size<=sizeLine:=by rw[List.size_toArray,List.size_toArray]; omega
 have hlong:¬(!its.toArray.isEmpty && Builtin.List.listTooLong (its.toArray.size+its2.toArray.size))=true:=by
  rw[Vw hsz,Bool.and_false];exact Bool.false_ne_true
 refine call_meets F.slot_list_extend ⟨_,e,rfl⟩ F.entry_list_extend (F.args_list_extend_2 _ _)
  (AutoSeq1.list_extend_list_list_0 l its.toArray n b its2.toArray n2 hlong (by rw[List.size_toArray]; omega) (by omega)) ⟨e,e2,?_⟩
 refine⟨.Ay,_,I.lset (its':=its++its2) hH e (by simp) (r.FO r2) ?_,rfl,q⟩;rw[List.length_append];omega
def Yr:V->List V->Hp->VK->Prop:=λx vs H Q=>∃l xs i k y,x=.ref l/\vs=[.int i]/\H l=some (.AN xs)/\-(2 ^ 63)<=i/\i<2 ^ 63/\seqIndex? i xs.length=some k/\xs[k]?=some y/\Q y (AK H l (.AN (xs.eraseIdx k)))
theorem V7:Jt X "list.pop" Yr:=by
 intro pins s σ H x vs v us Q I rx rv h;obtain⟨l,xs,i,k,y,rfl,rfl,hH,h1,h2,hk,hy,q⟩:=h;cases rx;obtain⟨u,rfl,ru⟩:=rv.one;obtain⟨t,rfl⟩:=ru;obtain⟨z,its,n,r,hl,e⟩:=I.Gn hH;obtain⟨w,hw,rw'⟩:=r.get hy;refine call_meets F.slot_list_pop ⟨_,e,rfl⟩ F.entry_list_pop (F.args_list_pop_2 _ _)
  (MeetsSeq.list_pop_at l its.toArray n i t k w (fitsIndex_both h1 h2) (by rw[List.size_toArray,<-hl]; exact hk) (by rw[<-Array.getElem?_toList]; exact hw) (by rw[List.size_toArray]; omega)) ⟨e,?_⟩
 refine⟨y,_,I.lset (its':=its.eraseIdx k) hH e ?_ (r.eraseIdx k) ?_,rw',q⟩
 ·show its.toArray.eraseIdxIfInBounds k=(its.eraseIdx k).toArray;rw[List.eraseIdxIfInBounds_toArray]
 ·have:=PH xs k
  omega
inductive SR(x y:V)(H:Hp)(Q:VK):Prop
 | mk (l b:Addr) (xs zs:List V) (e1:x=.ref l) (e2:y=.ref b) (h1:H l=some (.AN xs)) (h2:H b=some (.AN zs)) (n:xs.length+zs.length<=sizeLine) (q:∀p,H p=none->Q (.ref p) (AK H p (.AN (xs++zs)))):SR x y H Q
def SN:R2:=λx y H Q=>SR x y H Q
theorem DT:BZ X (binaryOp .Add) SN:=by
 intro pins s σ H x y v u Q I rx ry h;obtain⟨l,b,xs,zs,rfl,rfl,hH,hB,hz,q⟩:=h;cases rx;cases ry;obtain⟨z,its,n,r,hl,e⟩:=I.Gn hH;obtain⟨z2,its2,n2,r2,hl2,e2⟩:=I.Gn hB;refine PySem.P.add_list e e2 ?_ (by rw[List.size_toArray,List.size_toArray]; omega);have ea:its.toArray++its2.toArray=(its++its2).toArray:=by simp
 rw[ea];exact⟨.ref _,_,I.aw (t':=s.toks) (r.FO r2) (by rw[List.length_append]; omega),rfl,q _ I.fresh⟩
end
section
variable {prog:Program} {w:World} {A:Around} {E:Value->Shared->Prop} {s:Shared}
end
section
variable {X:Cx}
end
section
variable {κ:Type} [DecidableEq κ]
def B6(kvs:List (κ×V))(k:κ):Option V:=(kvs.find? λkv=>decide (kv.1=k)).map (·.2)
def Dt(kvs:List (κ×V))(k:κ)(v:V):List (κ×V) :=
 if (kvs.any λkv=>decide (kv.1=k))=true then kvs.map (λkv=>if kv.1=k then (kv.1,v) else kv) else kvs++[(k,v)]
def R0(kvs:List (κ×V))(k:κ):List (κ×V):=kvs.filter λkv=>decide (kv.1≠k)
theorem Eg{p:κ×V}{r:List (κ×V)}{k:κ}(e:p.1=k):B6 (p :: r) k=some p.2:=by simp[B6,List.find?_cons,e]
theorem Eh{p:κ×V}{r:List (κ×V)}{k:κ}(e:¬p.1=k):B6 (p :: r) k=B6 r k:=by simp[B6,List.find?_cons,e]
theorem Kb(k:κ):∀kvs:List (κ×V),(kvs.any λkv=>decide (kv.1=k))=(B6 kvs k).isSome
 | []=>rfl
 | p :: r=>by
  rw[List.any_cons];by_cases e:p.1=k
  ·simp only[Eg e,decide_eq_true e,Bool.true_or,Option.isSome_some]
  ·rw[Eh e,decide_eq_false e,Bool.false_or]; exact Kb k r
theorem P7(k j:κ)(y:V):∀kvs:List (κ×V),B6 (kvs.map λkv=>if kv.1=k then (kv.1,y) else kv) j=(B6 kvs j).map λx=>if j=k then y else x
 | []=>rfl
 | p :: r=>by
  have ih:=P7 k j y r;rw[List.map_cons];by_cases h:p.1=k
  ·rw[if_pos h];by_cases e:p.1=j
   ·rw[Eg (p:=(p.1,y)) e,Eg e,Option.map_some,if_pos (e.symm.trans h)]
   ·rw[Eh (p:=(p.1,y)) e,Eh e,ih]
  ·rw[if_neg h];by_cases e:p.1=j
   ·rw[Eg (p:=p) e,Eg e,Option.map_some,if_neg (λz=>h (e.trans z))]
   ·rw[Eh (p:=p) e,Eh e,ih]
theorem Ow(k j:κ)(y:V):∀kvs:List (κ×V),B6 kvs k=none->B6 (kvs++[(k,y)]) j=if j=k then some y else B6 kvs j
 | [],_=>by
  by_cases e:k=j
  ·rw[if_pos e.symm]; exact Eg (p:=(k,y)) e
  ·rw[if_neg (λz=>e z.symm)]; exact Eh (p:=(k,y)) e
 | p :: r,hn=>by
  rw[List.cons_append];have hk:¬p.1=k:=λz=>by rw[Eg z] at hn; cases hn
  rw[Eh hk] at hn;have ih:=Ow k j y r hn;by_cases e:p.1=j
  ·rw[Eg e,Eg e,if_neg (λz=>hk (e.trans z))]
  ·rw[Eh e,Eh e,ih]
theorem Wl(kvs:List (κ×V))(k j:κ)(y:V):B6 (Dt kvs k y) j=if j=k then some y else B6 kvs j:=by
 unfold Dt;by_cases a:(kvs.any λkv=>decide (kv.1=k))=true
 ·rw[if_pos a,P7];rw[Kb] at a;by_cases e:j=k
  ·obtain⟨x,hx⟩:=Option.isSome_iff_exists.mp a;rw[if_pos e,e,hx,Option.map_some,if_pos rfl]
  ·rw[if_neg e];cases B6 kvs j with
   | none=>rfl
   | some x=>rw[Option.map_some,if_neg e]
 ·rw[if_neg a];refine Ow k j y kvs ?_;rw[Kb] at a;cases q:B6 kvs k with
  | none=>rfl
  | some x=>rw[q] at a; exact(a rfl).elim
theorem L7(kvs:List (κ×V))(k:κ)(v:V):(Dt kvs k v).length<=kvs.length+1:=by
 unfold Dt;split
 ·rw[List.length_map]; omega
 ·rw[List.length_append,List.length_cons,List.length_nil]; omega
theorem DI.MJ{o:Option V}{u:Option Value}(r:DI o u):o.isSome=u.isSome:=by
 cases o with
 | none=>cases u with
  | none=>rfl
  | some _=>exact(show False from r).elim
 | some _=>cases u with
  | none=>exact(show False from r).elim
  | some _=>rfl
theorem DI.getD{o:Option V}{u:Option Value}{d:V}{d':Value}(r:DI o u)(rd:Av d d'):Av (o.getD d) (u.getD d'):=by
 cases o with
 | none=>cases u with
  | none=>exact rd
  | some _=>exact(show False from r).elim
 | some _=>cases u with
  | none=>exact(show False from r).elim
  | some _=>exact r
theorem KV.val{kvs:List (κ×V)}{vs:List (κ×Value)}(r:KV kvs vs)(k:κ):DI (B6 kvs k) (valueAt vs k):=by
 unfold KV at r
 induction r with
 | nil=>exact True.intro
 | @cons p q ps qs h t ih =>
  obtain⟨h1,h2⟩:=h;by_cases e:p.1=k
  ·have e':q.1=k:=h1.symm.trans e;have b:valueAt (q :: qs) k=some q.2:=by simp[valueAt,List.find?_cons,e']
   rw[Eg e,b]; exact h2
  ·have e':¬q.1=k:=λz=>e (h1.trans z)
   have b:valueAt (q :: qs) k=valueAt qs k:=by simp[valueAt,List.find?_cons,e']
   rw[Eh e,b]; exact ih
theorem KV.any{kvs:List (κ×V)}{vs:List (κ×Value)}(r:KV kvs vs)(k:κ):(kvs.any λkv=>decide (kv.1=k))=vs.any λkv=>decide (kv.1=k):=by
 unfold KV at r
 induction r with
 | nil=>rfl
 | cons h t ih=>rw[List.any_cons,List.any_cons,ih,h.1]
theorem KV.NT{kvs:List (κ×V)}{vs:List (κ×Value)}(r:KV kvs vs)(k:κ){y:V}{u:Value}(ry:Av y u):
  KV (kvs.map λkv=>if kv.1=k then (kv.1,y) else kv) (vs.map λkv=>if kv.1=k then (kv.1,u) else kv):=by
 unfold KV at r ⊢
 induction r with
 | nil=>exact .nil
 | @cons p q ps qs h t ih =>
  rw[List.map_cons,List.map_cons];refine .cons ?_ ih;obtain⟨h1,h2⟩:=h;by_cases e:p.1=k
  ·rw[if_pos e,if_pos (h1.symm.trans e)]; exact⟨h1,ry⟩
  ·rw[if_neg e,if_neg (λz=>e (h1.trans z))]; exact⟨h1,h2⟩
theorem KV.put{kvs:List (κ×V)}{vs:List (κ×Value)}(r:KV kvs vs)(k:κ){y:V}{u:Value}(ry:Av y u):KV (Dt kvs k y) (stored vs k u):=by
 unfold Dt stored;rw[r.any k];by_cases e:(vs.any λkv=>decide (kv.1=k))=true
 ·rw[if_pos e,if_pos e]; exact r.NT k ry
 ·rw[if_neg e,if_neg e]; exact Paired.snoc r ⟨rfl,ry⟩
theorem KV.drop{kvs:List (κ×V)}{vs:List (κ×Value)}(r:KV kvs vs)(k:κ):KV (R0 kvs k) (without vs k):=by
 unfold KV at r ⊢;unfold R0 without
 induction r with
 | nil=>exact .nil
 | @cons p q ps qs h t ih =>
  obtain⟨h1,h2⟩:=h;rw[List.filter_cons,List.filter_cons];by_cases e:p.1=k
  ·have a:¬decide (p.1≠k)=true:=by simp[e]
   have b:¬decide (q.1≠k)=true:=by simp[h1.symm.trans e]
   rw[if_neg a,if_neg b]; exact ih
  ·have e':¬q.1=k:=λz=>e (h1.trans z)
   have a:decide (p.1≠k)=true:=by simp[e]
   have b:decide (q.1≠k)=true:=by simp[e']
   rw[if_pos a,if_pos b]; exact .cons ⟨h1,h2⟩ ih
theorem KV.length{kvs:List (κ×V)}{vs:List (κ×Value)}(r:KV kvs vs):kvs.length=vs.length:=Paired.length r
end
theorem NM{P:Program}{w:World}{k:A2}{u:Value}(r:Av (kV k) u):(D2 P w).is k u=true:=by
 cases k with
 | inl i=>obtain⟨t,e⟩:=(show ∃t,u=Value.int i t from r); subst e; exact Tn P w i t
 | inr x=>obtain⟨t,e⟩:=(show ∃t,u=Value.str x t from r); subst e; exact Tr P w x t
theorem Oq{P:Program}{w:World}:∀{ks:List A2} {us:List Value},Ah (ks.map kV) us->ItemsAre (D2 P w) ks us
 | [],_,r=>by rw[List.map_nil] at r; cases r; exact .nil
 | k :: ks,_,r=>by
  rw[List.map_cons] at r;cases r with
  | cons h t=>exact .cons (NM h) (Oq t)
abbrev KT(H:Hp):List (List A2×V)->List (List A2×Addr×Value)->Prop:=Paired λp q=>p.1=q.1/\H q.2.1=some (.AH (p.1.map kV))/\Av p.2 q.2.2
theorem KT.val{H:Hp}{kvs:List (List A2×V)}{xs:List (List A2×Addr×Value)}(r:KT H kvs xs)(k:List A2):DI (B6 kvs k) ((atKey xs k).map (·.2)):=by
 induction r with
 | nil=>exact True.intro
 | @cons p q ps qs h t ih =>
  obtain⟨h1,_,h2⟩:=h;by_cases e:p.1=k
  ·have e':q.1=k:=h1.symm.trans e;have b:atKey (q :: qs) k=some q.2:=by simp[atKey,List.find?_cons,e']
   rw[Eg e,b]; exact h2
  ·have e':¬q.1=k:=λz=>e (h1.trans z)
   have b:atKey (q :: qs) k=atKey qs k:=by simp[atKey,List.find?_cons,e']
   rw[Eh e,b]; exact ih
theorem KT.NT{H:Hp}{kvs:List (List A2×V)}{xs:List (List A2×Addr×Value)}(r:KT H kvs xs)(k:List A2){y:V}{u:Value}(ry:Av y u):
  KT H (kvs.map λkv=>if kv.1=k then (kv.1,y) else kv) (xs.map (putAt k u)):=by
 induction r with
 | nil=>exact .nil
 | @cons p q ps qs h t ih =>
  rw[List.map_cons,List.map_cons];refine .cons ?_ ih;obtain⟨h1,h2,h3⟩:=h;unfold putAt;by_cases e:p.1=k
  ·rw[if_pos e,if_pos (h1.symm.trans e)]; exact⟨h1,h2,ry⟩
  ·rw[if_neg e,if_neg (λz=>e (h1.trans z))]; exact⟨h1,h2,h3⟩
theorem KT.put{H:Hp}{kvs:List (List A2×V)}{xs:List (List A2×Addr×Value)}(r:KT H kvs xs)(k:List A2){b:Addr}{y:V}{u:Value}(hb:H b=some (.AH (k.map kV)))(ry:Av y u):
  KT H (Dt kvs k y) (storedH xs k b u):=by
 have e:(kvs.any λkv=>decide (kv.1=k))=(atKey xs k).isSome:=by
  rw[Kb,(r.val k).MJ,Option.isSome_map]
 unfold Dt storedH;rw[e];by_cases q:(atKey xs k).isSome=true
 ·rw[if_pos q,if_pos q]; exact r.NT k ry
 ·rw[if_neg q,if_neg q]; exact Paired.snoc r ⟨rfl,hb,ry⟩
theorem KT.keeps{H H':Hp}{kvs:List (List A2×V)}{xs:List (List A2×Addr×Value)}(r:KT H kvs xs)(ht:∀b ys,H b=some (.AH ys)->H' b=some (.AH ys)):KT H' kvs xs :=
 Paired.Nh r λ_ _ z=>⟨z.1,ht _ _ z.2.1,z.2.2⟩
section
variable {P:Program} {w:World} {H:Hp} {h:Heap} {a:Addr}
theorem R9{u:HO}(ok:BS P w H h)(e:Rd H a u):BR P w H h a u:=e.ok ok
theorem R1{kvs:List (A2×V)}(ok:BS P w H h)(e:Rd H a (.dK kvs)):kvs.length<=sizeLine/\(a == sysModules)=false/\∃vs,KV kvs vs/\h.DictOf (D2 P w) a vs :=
 show BR P w H h a (.dK kvs) from R9 ok e
theorem ZP{kvs:List (A2×V)}(ok:BS P w H h)(e:H a=some (.dK kvs)):kvs.length<=sizeLine/\(a == sysModules)=false/\∃vs,KV kvs vs/\h.DictOf (D2 P w) a vs:=R1 ok (.inl e)
theorem Ml{ks:List A2}(ok:BS P w H h)(e:H a=some (.AH (ks.map kV))):(tupleKind (D2 P w)).is h ks a:=by
 obtain⟨_,its,r,⟨o,h1,h2,n,h3⟩,_⟩:=(show BR P w H h a (.AH (ks.map kV)) from ok a _ e);exact⟨o,its.toArray,n,h1,h2,h3,by simpa using Oq r⟩
theorem Rf{kvs:List (List A2×V)}(ok:BS P w H h)(e:Rd H a (.dT kvs)):kvs.length<=sizeLine/\(a == sysModules)=false /\
  ∃xs,KT H kvs xs/\h.DictOfH (tupleKind (D2 P w)) a xs:=by
 obtain⟨z,y,xs,r,o,es,ep,h1,h2,h3,h4,h5⟩:=(show BR P w H h a (.dT kvs) from R9 ok e);refine⟨z,y,xs,r,o,es,ep,h1,h2,h3,h4,λx hx=>?_,h5⟩;have all:∀{l:List (List A2×V)} {m:List (List A2×Addr×Value)},KT H l m->∀x∈m,(tupleKind (D2 P w)).is h x.1 x.2.1:=by
  intro l m q
  induction q with
  | nil=>intro x hx; exact nomatch hx
  | @cons p q ps qs hq t ih =>
   intro x hx;rcases List.mem_cons.mp hx with e | hx
   ·subst e;exact Ml ok (by rw[<-hq.1]; exact hq.2.1)
   ·exact ih x hx
 exact all r x hx
theorem ZJ{kvs:List (List A2×V)}(ok:BS P w H h)(e:H a=some (.dT kvs)):kvs.length<=sizeLine/\(a == sysModules)=false /\
  ∃xs,KT H kvs xs/\h.DictOfH (tupleKind (D2 P w)) a xs:=Rf ok (.inl e)
end
def Jc(H:Hp)(a:Addr)(y:V)(r:Option V):Prop :=
 (∃kvs k,Rd H a (.dK kvs)/\y=kV k/\r=B6 kvs k)\/∃kvs k b,Rd H a (.dT kvs)/\y=.ref b/\H b=some (.AH (k.map kV))/\r=B6 kvs k
def Ji(H:Hp)(a:Addr)(y v:V)(H':Hp):Prop :=
 (∃kvs k,H a=some (.dK kvs)/\y=kV k/\kvs.length<sizeLine/\H'=AK H a (.dK (Dt kvs k v))) \/
 ∃kvs k b,H a=some (.dT kvs)/\y=.ref b/\H b=some (.AH (k.map kV))/\kvs.length<sizeLine/\H'=AK H a (.dT (Dt kvs k v))
theorem Jc.t{H:Hp}{a b:Addr}{kvs:List (List A2×V)}{k:List A2}(e:H a=some (.dT kvs))(eb:H b=some (.AH (k.map kV))):Jc H a (.ref b) (B6 kvs k):=.inr ⟨kvs,k,b,.inl e,rfl,eb,rfl⟩
theorem Ji.t{H:Hp}{a b:Addr}{kvs:List (List A2×V)}{k:List A2}{v:V}(e:H a=some (.dT kvs))(eb:H b=some (.AH (k.map kV)))(hl:kvs.length<sizeLine):
  Ji H a (.ref b) v (AK H a (.dT (Dt kvs k v))):=.inr ⟨kvs,k,b,e,rfl,eb,hl,rfl⟩
section
variable {X:Cx} {pins:List (Addr×Obj)} {σ:St} {H:Hp} {s:Shared} {a:Addr} {y v:V} {u r:Value} {o:Option V} {A:Around} {E:Value->Shared->Prop}
theorem AL.N8(I:AL X pins σ H s):sysModules<s.heap.objs.size:=by
 have h:mainGlobals<s.heap.objs.size:=(I.BY.FT.keeps I.bk).lt;exact Nat.lt_trans (by decide) h
theorem W7{Q:Value->Shared->Prop}(hu:A.units+1<cLine)(I:AL X pins σ H s)(g:Jc H a y o)(ry:Av y u)(h:∀s',AL X pins σ H s'->Q (.bool (!o.isSome)) s'):
  wpAny (model X.prog X.w) A (compareOp .NotIn u (.ref a)) Q E s:=by
 rcases g with ⟨kvs,k,e,ey,l⟩ | ⟨kvs,k,b,e,ey,eb,l⟩
 ·subst ey;obtain⟨z,hd,vs,rel,dd⟩:=R1 I.hok e;refine wpAny_notIn_of (NM ry) hd dd.mapOf ?_;rw[<-(rel.val k).MJ,<-l];exact h _ (I.DR _)
 ·subst ey;cases (show u=Value.ref b from ry);obtain⟨z,hd,xs,rel,dd⟩:=Rf I.hok e;refine wpAny_notIn_heap (tupleKind_room_in1 hu) (Ml I.hok eb) hd dd ?_;have q:=(rel.val k).MJ;rw[Option.isSome_map] at q;rw[<-q,<-l];exact h _ (I.DR _)
theorem QZ{h':Heap}{t':Nat}{ob:HO}(I:AL X pins σ H s)(mu:J5 (H a))(hs:Heap.SameBut a s.heap h')(he:∃q,h'.get? a=some q)(new:BR X.prog X.w (AK H a ob) h' a ob):
  AL X pins σ (AK H a ob) { s with heap:=h',toks:=t' } :=
 I.Gg (x:=a) (e:=a) mu (.inl rfl) (λb q hb z=>(hs.2 b hb).trans z) he new
theorem YT{P:Program}{w:World}{H':Hp}{h':Heap}{kvs:List (A2×V)}{vs:List (A2×Value)}(z:kvs.length<=sizeLine)(hd:(a == sysModules)=false)(rel:KV kvs vs)(dd:h'.DictOf (D2 P w) a vs):
  BR P w H' h' a (.dK kvs):=⟨z,hd,vs,rel,dd⟩
theorem U1{H':Hp}{Q:Unit->Shared->Prop}(hu:A.units+1<cLine)(I:AL X pins σ H s)(g:Ji H a y v H')(ry:Av y u)(rv:Av v r)(h:∀s',AL X pins σ H' s'->Q () s'):
  wpAny (model X.prog X.w) A (setItem (.ref a) u r) Q E s:=by
 rcases g with ⟨kvs,k,e,ey,l,eH⟩ | ⟨kvs,k,b,e,ey,eb,l,eH⟩
 ·subst ey eH;obtain⟨z,hd,vs,rel,dd⟩:=ZP I.hok e;have hz:vs.length<=sizeLine:=by rw[<-rel.length]; exact z
  have hl:(Dt kvs k v).length<=sizeLine:=by have:=L7 kvs k v; omega
  refine wpAny_setItem_pairs (hsz:=hz) (NM ry) dd λh' dd' hs=>h _ ?_
  have he:∃q,h'.get? a=some q:=let ⟨q,_,_,hq,_⟩:=dd'; ⟨q,hq⟩
  exact QZ I (by rw[e]; exact True.intro) hs he (YT hl hd (rel.put k rv) dd')
 ·subst ey eH;cases (show u=Value.ref b from ry);obtain⟨z,hd,xs,rel,dd⟩:=ZJ I.hok e;have hz:xs.length<=sizeLine:=by rw[<-Paired.length rel]; exact z
  have hl:(Dt kvs k v).length<=sizeLine:=by have:=L7 kvs k v; omega
  refine wpAny_setItem_heap (hsz:=hz) (tupleKind_room_in1 hu) (Ml I.hok eb) dd λh' dd' hs=>h _ ?_
  obtain⟨q,es,ep,hq,h2,h3,h4,_,h5⟩:=dd';refine QZ I (by rw[e]; exact True.intro) hs ⟨q,hq⟩ ⟨hl,hd,_,(rel.put k eb rv).keeps λc ys ec=>?_,q,es,ep,hq,h2,h3,h4,h5⟩;rw[An (ZV ec e (λz=>nomatch z))];exact ec
end
section
variable {X:Cx} {pins:List (Addr×Obj)} {σ:St} {H:Hp} {s:Shared} {a:Addr} {kvs:List (A2×V)} {k:A2} {u:Value} {A:Around} {E:Value->Shared->Prop}
end
inductive RS(x y v:V)(H:Hp)(Q:Hp->Prop):Prop
 | mk (a:Addr) (H4:Hp) (e:x=.ref a) (d:Ji H a y v H4) (q:Q H4):RS x y v H Q
def W5(ty td:TE):TE:=λσ H Q=>ty σ H λy H1=>td σ H1 λx H2=>∃a o,x=.ref a/\Jc H2 a y o/\Q (.bl (!o.isSome)) H2
def ZW(td ty tv:TE):TS:=λD σ H=>tv σ H λv H1=>td σ H1 λx H2=>ty σ H2 λy H3=>RS x y v H3 (D.nx σ)
section
variable {X:Cx} {o i e value:Expr} {pos pos' tpos:Pos} {td ty tv:TE}
theorem VG(hu:X.A.units+1<cLine)(hi:PE X i ty)(ho:PE X o td):PC X .NotIn i o (W5 ty td):=by
 intro pins s σ H Q I h;refine Aa (hi pins s σ H _ I h) λiv s1 ⟨y,H1,I1,ry,q1⟩=>Aa (ho pins s1 σ H1 _ I1 q1) λu s2 ⟨x,H2,I2,rx,a,ov,ex,g,q2⟩=>?_
 subst ex;obtain rfl:u=Value.ref a:=rx;exact W7 hu I2 g ry λs3 I3=>⟨.bl (!ov.isSome),H2,I3,rfl,q2⟩
theorem XF(hu:X.A.units+1<cLine)(ho:PE X o td)(hi:PE X i ty)(hv:PE X value tv)(hs:swapsWith value (some (.Subscript o i pos')) pos.line X.env=pure false):
  PS X (.Assign [.Subscript o i pos'] value pos) (ZW td ty tv):=by
 intro pins s σ H D I h;refine wpAny_Assign_Subscript (Aa (hv pins s σ H _ I h) λr s1 ⟨v,H1,I1,rv,q1⟩=>Aa (ho pins s1 σ H1 _ I1 q1) λu s2 ⟨x,H2,I2,rx,q2⟩=>Aa (hi pins s2 σ H2 _ I2 q2) λiv s3 ⟨y,H3,I3,ry,a,H4,ex,g,q3⟩=>?_) hs;subst ex;obtain rfl:u=Value.ref a:=rx;exact U1 hu I3 g ry rv λs4 I4=>⟨σ,H4,I4,q3⟩
end
theorem Vl{P:Program}{w:World}{H:Hp}(h:Heap)(hb:sysModules<h.objs.size):BR P w H (h.push { cls:=.type "dict",data:=.dict #[] }) h.objs.size (.dT []) :=
 ⟨Nat.zero_le _,beq_eq_false_iff_ne.mpr (Ne.symm (Nat.ne_of_lt hb)),[],.nil,_,#[],0,Heap.get?_push_size _ rfl,⟨rfl,rfl,rfl⟩,rfl,rfl,List.nodup_nil⟩
def X7:TE:=λ_ H Q=>∀p,H p=none->Q (.ref p) (AK H p (.dT []))
section
variable {X:Cx} {pos:Pos}
theorem Vr:PE X (.Dict [] [] pos) X7:=λpins s σ H Q I h =>
 wpAny_Dict_empty ⟨.ref s.heap.objs.size,_,I.laid (a:=s.heap.objs.size) (o:=.dT []) (t':=s.toks) (λ_ _ q=>Heap.get?_push_of_some _ q) (Nat.le_refl _) (Vl s.heap I.N8),rfl,h _ (I.hok.fresh (Nat.le_refl _))⟩
end
structure M1(X:Cx)(o:Expr)(m:Str)(apos:Pos)(e:Expr)(cpos:Pos):Prop where
 base:attributeBase o m X.env (eval o X.env)=eval o X.env
 few:((backTo cpos (starEach [e] X.env)).all (λx=>!x.1) && (backToKw cpos (keywordEach [] X.env)).all (λx=>x.1.isSome)
  && decide (([e]:List Expr).length+([]:List Keyword).length+(if ([]:List Keyword).isEmpty then 0 else 1)<30))=true
 line:(apos.endLine == cpos.line)=true
 Y5:backTo cpos (starEach [e] X.env)=[(false,eval e X.env)]
structure M2(X:Cx)(o:Expr)(m:Str)(apos:Pos)(e f:Expr)(cpos:Pos):Prop where
 base:attributeBase o m X.env (eval o X.env)=eval o X.env
 few:((backTo cpos (starEach [e,f] X.env)).all (λx=>!x.1) && (backToKw cpos (keywordEach [] X.env)).all (λx=>x.1.isSome)
  && decide (([e,f]:List Expr).length+([]:List Keyword).length+(if ([]:List Keyword).isEmpty then 0 else 1)<30))=true
 line:(apos.endLine == cpos.line)=true
 Y5:backTo cpos (starEach [e,f] X.env)=[(false,eval e X.env),(false,eval f X.env)]
section
variable {X:Cx} {pins:List (Addr×Obj)} {σ:St} {H:Hp} {s:Shared} {a:Addr} {y d:V} {u r:Value} {o:Option V} {A:Around} {E:Value->Shared->Prop}
end
section
variable {X:Cx} {o e f:Expr} {apos cpos:Pos} {td ty tx:TE}
end
section
variable {X:Cx} {pins:List (Addr×Obj)} {σ:St} {H:Hp} {s:Shared} {a:Addr} {kvs:List (A2×V)} {A:Around} {E:Value->Shared->Prop}
end
section
variable {X:Cx} {pins:List (Addr×Obj)} {σ:St} {H:Hp} {s:Shared} {a:Addr} {y:V} {u:Value} {A:Around} {E:Value->Shared->Prop}
end
end L2
namespace Att
open PySem PySem.W PySem.Calls PyProof.Rows
theorem TM{P:Params}{h:Heap}:∀(ns:List Int) (vs:List Value),WellAll P h vs (ns.map WData.int)->IntsAre vs ns:=by
 intro ns
 induction ns with
 | nil =>
  intro vs w;rw[List.map_nil] at w;cases w;exact .nil
 | cons n ns ih =>
  intro vs w;rw[List.map_cons] at w;cases w with
  | cons a b =>
   cases a;exact .cons _ _ (ih _ b)
theorem Um {l:OpenLaw} {n:Nat} (hn:l.most=some n) {P:Params} {h:Heap} {args:List WData} {vals:List Value}
  (hpre:l.row.toRowW.claim.pre args=true) (hwl:WellAll P h vals args) :
  ∃a vs ns,vals=[Value.ref a]/\args=[WData.list (ns.map WData.int)]/\h.get? a=some { cls:=.type "list",data:=.seq vs.toArray }/\IntsAre vs ns/\ns.length<=n:=by
 have hsh:WShape.hasAll [] args [.list .int]=true:=(pre_splitW hpre).1;have hc:l.pre.holds [] { args:=args }=true:=(pre_splitW hpre).2;obtain⟨d,r,rfl,h1,h2⟩:=hasAllW_cons hsh;obtain rfl:=hasAllW_nil h2;obtain⟨xs,rfl,h3⟩:=hasW_list h1;obtain⟨ns,rfl⟩:=items_int h3;have hlen:ns.length<=n:=by
  unfold OpenLaw.pre at hc;have h4:(WTm.not (.lt (.lit (.int (n:Int))) (.len (.arg 0)))).holds [] { args:=[.list (ns.map .int)] }=true:=by
   have h4:=(holds_andW hc).1;rw[hn] at h4;exact h4
  have h5:=condW_of h4 (w_not (w_lt w_lit (w_len_list (w_arg rfl))));rw[List.length_map] at h5;refine Nat.le_of_not_lt λq=>?_
  have q':(n:Int)<((ns.length:Nat):Int):=by omega
  first
   | (rw[decide_eq_true q'] at h5; exact absurd h5 (by decide))
   | (simp at h5; omega)
 cases hwl with
 | cons w1 w2 =>
  cases w2;cases w1 with
  | list ho hall=>exact⟨_,_,ns,rfl,rfl,ho,TM ns _ hall,hlen⟩
theorem UX(l:OpenLaw)(args:List WData):l.row.toRowW.claim.post args (.bool true) args=true :=
 postW_of (r:=l.row.toRowW) (X:=(true == true))
  (show WShape.has [] (.bool true) .bool=true by first | rfl | decide | simp[WShape.has,WShape.arms,WShape.armsAll])
  (show(WTm.eq .res (.lit (.bool true))).value [] { args:=args,res:=some (.bool true),after:=args }=some (.bool (true == true)) from w_eq_bool (w_res rfl) w_lit) rfl
theorem To {l:OpenLaw} {n:Nat} {q:Program} {loose:List Str} {XP:(Str->Option Value)->Heap->Prop} {YP:World->Heap->Prop} {d:DefRec}
  (hn:l.most=some n) (hdf:d.params.defaults=[])
  (call:∀(w:World) (s₀ s₁:Shared) (mg mb:Str->Option Value) (fa:Addr) (o:Obj) (pm cd doc:Value) (a:Addr) (vs:List Value) (ns:List Int),
   Ground q loose [] XP w s₀ mg mb s₁.heap->YP w s₁.heap →
   s₁.heap.get? fa=some o->o.data=.func (docDef d.name d.params d.body d.scope pm cd doc)->s₁.heap.CodeRec cd d.name->mg d.name=some (.ref fa) →
   s₁.heap.get? a=some { cls:=.type "list",data:=.seq vs.toArray }->IntsAre vs ns->ns.length<=n->s₁.gens = #[] →
   codeAny (model l.prog w) callerA (.call (.ref fa) ⟨[.ref a],[]⟩) (λr s'=>r=.ok (.ret (.bool true))/\OldK s₁.heap s'.heap/\s'.os=s₁.os/\AllBare s'.gens) s₁) :
  WalkO q loose XP YP l.row.toRowW d [] (λf vs=>PySem.call f vs):=by
 intro w s₀ s₁ mg mb G Y fa o pm cd doc dV kV ho hd hcd hD hmg hg args vals as hpre hlay hrd hwl hlo;obtain rfl:dV=.none:=Dflts.none hD hdf;obtain rfl:kV=.none:=Dflts.noKw hD;obtain⟨a,vs,ns,rfl,rfl,hobj,hints,hlen⟩:=Um hn hpre hwl;refine enter_call (codeAny_mono (call w s₀ s₁ mg mb fa o pm cd doc a vs ns G Y ho (fd_plain hd) hcd hmg hobj hints hlen hg) λr s' hq=>?_);obtain⟨rfl,h2,h3,h4⟩:=hq;exact⟨.inl ⟨.bool true,.bool true,[],rfl,λ_=>rfl,.bool true,UX l _,λ_=>⟨List.Pairwise.nil,λ_ hm=>(nomatch hm)⟩⟩,h2,h3,h4⟩
section
variable {prog:Program} {w:World} {A:Around} {E:Value->Shared->Prop} {s:Shared} {K:Frag}
def JO(h:Heap):Heap:={ h with objs:=#[] }
theorem MI(h:Heap)(b:Addr):(JO h).get? b=none:=by
 cases e:(JO h).get? b with
 | none=>rfl
 | some o=>exact absurd (Heap.lt_size e) (Nat.not_lt_zero _)
def K4(h:Heap)(L d:Addr):List (Addr×Obj):=(List.range h.objs.size).filterMap λa=>if a=L\/a=d then none else (h.get? a).map λo=>(a,o)
theorem MG{h:Heap}{L d a:Addr}{o:Obj}:(a,o)∈K4 h L d↔a≠L/\a≠d/\h.get? a=some o:=by
 unfold K4;rw[List.mem_filterMap];constructor
 ·rintro⟨b,_,e⟩;split at e
  ·cases e
  ·rename_i hb
   obtain⟨o',ho,e'⟩:=Option.map_eq_some_iff.mp e;cases e';exact⟨λq=>hb (.inl q),λq=>hb (.inr q),ho⟩
 ·rintro⟨n1,n2,ho⟩;refine⟨a,List.mem_range.mpr (Heap.lt_size ho),?_⟩;rw[if_neg (show ¬(a=L\/a=d) from λq=>q.elim n1 n2),ho] <;> rfl
theorem Te{h:Heap}{L d:Addr}{od:Obj}(hne:d≠L)(ho:h.get? d=some od):News (JO h) L h ([]++(d,od) :: K4 h L d):=by
 rintro⟨a,o⟩ hp;rcases List.mem_cons.mp hp with e | hp
 ·cases e;exact⟨ho,hne,MI _ _⟩
 ·obtain⟨n1,n2,e⟩:=MG.mp hp;exact⟨e,n1,MI _ _⟩
theorem YF{h:Heap}{L:Addr}{m:Str->Option Value}(n:h.Ns L m):Fr (JO h) L h m :=
 ⟨n,λb o e=>(by rw[MI] at e; cases e),Nat.zero_le _⟩
theorem Im {x C dx L:Addr} {ox:Obj} {m:Str->Option Value} {es es':List DictEntry} {n n':Nat} {name:Str} {v:Value} {Q:Unit->Shared->Prop}
  (X:K.In s.heap) (I:PySem.W.InstAt s.heap x ox C (some (dictOf es n))) (hd:ox.dict=some dx) (hL:s.heap.Ns L m) (hne:dx≠L)
  (hs:findIn K (.ref C) "__setattr__" = some (some (.builtin "object.__setattr__"))) (hp:plainOver K C=true) (ht:takerIn K C name=some none) (hh:hasDictIn K C=true) (hl:(getL name es).isSome=true)
  (e:(putL name (PyData.keyHash w.params name) (.str name (s.toks+1)) v es,putN name es n)=(es',n')) (hz:es'.length<=1000)
  (h:∀h':Heap,h'.Ns L m->h'.get? dx=some (dictOf es' n')->(∀b o,b≠dx->b≠L->s.heap.get? b=some o->h'.get? b=some o)->Q () { s with heap:=h',toks:=s.toks+2 }) :
  wpAny (model prog w) A (setAttr (.ref x) name v) Q E s:=by
 obtain⟨e1,e2⟩:=Prod.mk.inj e;have hdx:s.heap.get? dx=some (dictOf es n):=by
  have:=I.dict
  rw[hd] at this;exact this
 refine set_plain X I hs (osa_dict (s:={ s with toks:=s.toks+1 }) (h₀:=JO s.heap) (L:=L) (m:=m) (od:=dictOf es n) (od':=dictOf es' n') (es:=es') (n:=n') (pre:=[]) (post:=K4 s.heap L dx)
  (YF hL) (Te hne hdx) X I hd hp ht hh hl (λ_ q=>nomatch q) (λ⟨_,_⟩ q=>(MG.mp q).2.1) (by rw[putName_dict,e1,e2]) rfl hz λh' F' N'=>?_)
 exact h h' F'.ns (N'.get (List.Mem.head _)) λb o n1 n2 ho=>N'.get (List.Mem.tail _ (MG.mpr ⟨n2,n1,ho⟩))
end
end Att
namespace L2
open PySem PySem.Spec PyProof.Rows
theorem Ou:∀{vs:List Value} {ns:List Int},IntsAre vs ns->Ah (ns.map V.int) vs
 | _,_,.nil=>.nil
 | _,_,.cons n t h=>.cons ⟨t,rfl⟩ (Ou h)
def N4(H:Hp):Prop:=∀b,H b=none\/∃o xs,H b=some (.Df o (.AN xs))
theorem Wf {P:Program} {w:World} {K:PySem.W.Frag} {mg mb:Str->Option Value} {CX:Cp} {k:Nat} {fa a:Addr} {fd:FuncData} {x:Str} {sp:Sp} {s₁:Shared} {vs:List Value} {ns:List Int}
  (KX:K.In s₁.heap) (hns:s₁.heap.Ns mainGlobals mg) (hb:s₁.heap.Ns builtinsNs mb) (hbb:∀x:Str,x≠"__name__"->mb x=bootBuiltins x) (hlim:s₁.heap.NoLimit) (hg:s₁.gens = #[])
  (ha:s₁.heap.get? a=some { cls:=.type "list",data:=.seq vs.toArray }) (hi:IntsAre vs ns) (hl:ns.length<=sizeLine) (hr:A9 k callerA)
  (F:∀base:Heap,K.In base->base.Ns mainGlobals mg->AG P w K mg base CX k fa fd [x] sp) (hbind:∀(s:Shared) (u:Value),BindsTo s fd ⟨[u],[]⟩ [(x,u)])
  (hsp:∀H:Hp,N4 H->AS K H a (ns.map V.int)->sp [.ref a] H (λv _=>v=.bl true) λ_ _ _=>False)
  (hCX:∀H e s',CX [] H s₁ (λ_ _ _=>False) e s'->False) :
  codeAny (model P w) callerA (.call (.ref fa) ⟨[.ref a],[]⟩) (λr s'=>r=.ok (.ret (.bool true))/\OldK s₁.heap s'.heap/\s'.os=s₁.os/\AllBare s'.gens) s₁:=by
 have rv:=Ou hi;have lenV:=hi.length;have core:∀H:Hp,N4 H->AS K H a (ns.map V.int)->BS P w H s₁.heap->(∀b,H b≠none->b=a)->(H a≠none->K.lookup a=none) →
   codeAny (model P w) callerA (.call (.ref fa) ⟨[.ref a],[]⟩) (λr s'=>r=.ok (.ret (.bool true))/\OldK s₁.heap s'.heap/\s'.os=s₁.os/\AllBare s'.gens) s₁:=by
  intro H hO hS hok hA hK;have base_of:∀{b:Addr} {o:Obj},s₁.heap.get? b=some o->H b=none->(Fx s₁.heap H).get? b=some o:=λe n=>V0 e n
  have noA:∀{b:Addr} {o:Obj} {es:Array DictEntry} {ep:Nat},s₁.heap.get? b=some o->o.data=.dict es ep->H b=none:=λ{b o es ep} e d=>by
   cases q:H b with
   | none=>rfl
   | some u =>
    have e':b=a:=hA b (by rw[q]; simp);subst e';rw[ha] at e; cases e;have d':Data.seq vs.toArray _=Data.dict es ep:=d;cases d'
  have nsK:∀{b:Addr} {m:Str->Option Value},s₁.heap.Ns b m->(Fx s₁.heap H).Ns b m:=λ{b m} ⟨o,es,ep,e,d,r⟩=>⟨o,es,ep,base_of e (noA e d),d,r⟩
  have hKb:K.In (Fx s₁.heap H):=λb o e=>base_of (KX b o e) (by
   cases q:H b with
   | none=>rfl
   | some u =>
    have e':b=a:=hA b (by rw[q]; simp);subst e';rw[hK (by rw[q]; simp)] at e; cases e)
  have hM:Mod K mg (Fx s₁.heap H):=⟨hKb,nsK hns,⟨mb,nsK hb,hbb⟩,let ⟨mc,h1,h2⟩:=hlim; ⟨mc,nsK h1,h2⟩⟩;have e0:FX P w K mg (Fx s₁.heap H) callerA [] s₁ H:=⟨rfl,hM,λb o e=>Xh e,Nat.le_of_eq (Uk _ _),trivial,λb hb=>absurd (show b∈([]:List Addr) from hb) (by simp),hok,.of_eq hg⟩;refine codeAny_mono ((F _ hKb (nsK hns)).Ii callerA [] s₁ H ⟨[.ref a],[]⟩ [.ref a] [.ref a] _ _ hr e0 (hbind s₁ (.ref a)) (.cons rfl .nil) (hsp H hO hS)) λr s' h=>?_
  cases r with
  | error e=>exact(hCX H e s' h).elim
  | ok fl =>
   cases fl with
   | next=>exact False.elim h
   | brk=>exact False.elim h
   | cont=>exact False.elim h
   | ret u =>
    obtain⟨v,H',os,bare,un,hok',r',q⟩:=h;have q':v=.bl true:=q;subst q';obtain rfl:u=Value.bool true:=r';refine⟨rfl,OldK.of_keep λb o e=>?_,os,bare⟩;cases q:H b with
    | none=>exact un.keep b o e q (by intro z; exact absurd (show b∈([]:List Addr) from z) (by simp)) (by simp)
    | some u =>
     rcases hO b with z | ⟨ob,xs,z⟩
     ·rw[q] at z; cases z
     ·have z2:=un.frzs b ob _ z;obtain⟨e1,_⟩:=hok b _ z;obtain⟨e2,_⟩:=hok' b _ z2;rw[e] at e1; cases e1;exact e2
 cases hk:K.lookup a with
 | some o =>
  have e:=KX a o hk;rw[ha] at e;cases e;refine core (λ_=>none) (λ_=>.inl rfl) (.inr ⟨_,vs.toArray,_,hk,rfl,rfl,rfl,by rw[List.size_toArray,lenV]; exact hl,by simpa using rv⟩) (λb u z=>by have z':(none:Option HO)=some u:=z; cases z') (λb z=>absurd rfl z) λz=>absurd rfl z
 | none =>
  refine core (λb=>if b=a then some (.Df { cls:=.type "list",data:=.seq vs.toArray } (.AN (ns.map V.int))) else none) (λb=>?_) (.inl (.inr ⟨{ cls:=.type "list",data:=.seq vs.toArray },if_pos rfl⟩)) (λb u z=>?_) (λb z=>?_) λ_=>hk
  ·by_cases hb:b=a
   ·exact .inr ⟨_,_,if_pos hb⟩
   ·exact .inl (if_neg hb)
  ·by_cases hb:b=a
   ·have z':=(if_pos hb).symm.trans z;cases z';subst hb;exact⟨ha,by rw[List.length_map]; exact hl,vs,_,rv,ha⟩
   ·have z':=(if_neg hb).symm.trans z;cases z'
  ·by_cases hb:b=a
   ·exact hb
   ·exact absurd (if_neg hb) z
abbrev bX{K:PySem.W.Frag}{h:Heap}(_:K.In h):PySem.W.Frag:=K
theorem Xj {l:PySem.W.OpenLaw} {n k:Nat} {q:Program} {loose:List Str} {XP:(Str->Option Value)->Heap->Prop} {YP:World->Heap->Prop} {d:DefRec} {K:Params->PySem.W.Frag} {CX:World->Cp} {sp:World->Sp} {x:Str}
  (hn:l.most=some n) (hn2:n<=sizeLine) (hdf:d.params.defaults=[]) (hr:A9 k callerA)
  (hY:∀(w:World) (h:Heap),YP w h->(K w.params).In h)
  (F:∀(w:World) (mg:Str->Option Value) (fa:Addr) (h:Heap),(K w.params).In h->h.Ns mainGlobals mg->mg d.name=some (.ref fa) →
   ∃fd:FuncData,(∀(s:Shared) (u:Value),BindsTo s fd ⟨[u],[]⟩ [(x,u)]) /\
    ∀base:Heap,(K w.params).In base->base.Ns mainGlobals mg->AG l.prog w (K w.params) mg base (CX w) k fa fd [x] (sp w))
  (hsp:∀(w:World) (H:Hp) (a:Addr) (ns:List Int),ns.length<=n->N4 H->AS (K w.params) H a (ns.map V.int)->sp w [.ref a] H (λv _=>v=.bl true) λ_ _ _=>False)
  (hCX:∀(w:World) (H:Hp) (s:Shared) (e:Value) (s':Shared),CX w [] H s (λ_ _ _=>False) e s'->False) :
  PySem.W.WalkO q loose XP YP l.row.toRowW d [] (λf vs=>PySem.call f vs):=by
 refine Att.To hn hdf λw s₀ s₁ mg mb fa o pm cd doc a vs ns G Y ho hd hcd hmg hobj hints hlen hg=>?_
 have KX:=hY w _ Y;obtain⟨fd,hb,hF⟩:=F w mg fa _ KX G.T.g hmg;exact Wf KX G.T.g G.T.b G.T.builtins G.T.nolimit hg hobj hints (Nat.le_trans hlen hn2) hr hF hb (λH hO hS=>hsp w H a ns hlen hO hS) λH e s'=>hCX w H s₁ e s'
def DA(s:Stmt)(j:Nat):Stmt:=match s with
 | .ClassDef _ _ _ body _ _ _ _ _ _ _=>body.getD j (.Pass ⟨0,0,0,0⟩)
 | _=>.Pass ⟨0,0,0,0⟩
def Dj(s:Stmt):Arguments:=match s with
 | .FunctionDef _ a _ _ _ _ _ _ _ _=>a
 | _=>{ posonlyargs:=[],args:=[],vararg:=none,kwonlyargs:=[],kw_defaults:=[],kwarg:=none,defaults:=[] }
def C9(s:Stmt):List Stmt:=match s with
 | .FunctionDef _ _ b _ _ _ _ _ _ _=>b
 | _=>[]
def Af(s:Stmt):Scope:=match s with
 | .FunctionDef _ _ _ _ _ _ sc _ _ _=>sc
 | _=>{ kind:=.function,names:=[],isGenerator:=false,isCoroutine:=false }
abbrev AM:Cp:=λ_ _ _ _ _ _=>False
abbrev E0:XK:=λ_ _ _=>False
theorem AZ{X:Cx}:Dl AM X E0:=λ_ _ _ _ _ _ _ h=>h.elim
structure Ag(K:PySem.W.Frag)(x qual:Str)(st:Stmt)(f:Addr)(fd:FuncData):Prop where
 ex:∃(oc:Value) (od:Option Addr) (kV doc pm:Value) (an:Option Addr) (cdv ct:Value) (osl:Array (Option Value)),
  fd=PySem.W.fnOf x qual (Dj st) (C9 st) (Af st) .none kV doc pm an cdv ct/\K.lookup f=some ⟨oc,od,.func fd,osl⟩/\PySem.W.codeIn K cdv qual=true
 kp:KP K f
section
variable {P:Program} {w:World} {K:PySem.W.Frag} {mg:Str->Option Value} {base:Heap}
theorem Ag.ok {x qual:Str} {st:Stmt} {f:Addr} {fd:FuncData} {N ps:List Str} {k:Nat} {sp:Sp} (F:Ag K x qual st f fd) (S:Ak N ps (Af st)) (len:∀vs H Q E,sp vs H Q E->vs.length=ps.length)
  (hbody:∀(cdv:Value) (A:Around) (outer:List Env) (s:Shared) (H:Hp) (vs:List V) (Q:VK) (E:XK),A9 k (A.deeper (envOfC qual (Af st) s.heap.objs.size f cdv))->sp vs H Q E →
   ∃t,Cs (GC AM P w K mg base N qual (Af st) f cdv A outer s H E).Ea (C9 st) t/\t { nx:=λ_ H'=>Q .Ay H',rt:=Q } (Ft N vs) H):AG P w K mg base AM (k+1) f fd ps sp:=by
 obtain⟨oc,od,kV,doc,pm,an,cdv,ct,osl,rfl,lk,hcd⟩:=F.ex;refine Rb lk hcd S len λA outer s H vs Q E hr hsp=>?_
 obtain⟨t,h,q⟩:=hbody cdv A outer s H vs Q E hr hsp;exact⟨t,h.Ea,q⟩
theorem Ag.binds {x qual:Str} {st:Stmt} {f:Addr} {fd:FuncData} {ps:List Str} (F:Ag K x qual st f fd)
  (h:∀(kV doc pm:Value) (an:Option Addr) (cdv ct:Value) (us:List Value),us.length=ps.length->bindArgs (PySem.W.fnOf x qual (Dj st) (C9 st) (Af st) .none kV doc pm an cdv ct) ⟨us,[]⟩=pure (ps.zip us)):AV K fd ps []:=by
 obtain⟨oc,od,kV,doc,pm,an,cdv,ct,osl,rfl,lk,hcd⟩:=F.ex;exact .all (h kV doc pm an cdv ct)
theorem LG {x qual:Str} {st:Stmt} {f:Addr} {oc:Value} {od an:Option Addr} {osl:Array (Option Value)} {kV doc pm cdv ct:Value} (l:K.lookup f=some ⟨oc,od,.func (PySem.W.fnOf x qual (Dj st) (C9 st) (Af st) .none kV doc pm an cdv ct),osl⟩)
  (c:PySem.W.codeIn K cdv qual=true) (k:KP K f):Ag K x qual st f (PySem.W.fnOf x qual (Dj st) (C9 st) (Af st) .none kV doc pm an cdv ct):=⟨⟨oc,od,kV,doc,pm,an,cdv,ct,osl,rfl,l,c⟩,k⟩
end
theorem R5{A:Around}{k:Nat}(hr:A9 k A):A.units+1<cLine:=Nat.lt_of_le_of_lt (Nat.add_le_add_left (by decide:1<=64) _) hr.units
section
variable {X:Cx}
theorem pv (i:Nat) {x:Str} {pos:Pos} (hN:X.N[i]?=some x:=by rfl) (hv:OA X.env.scope x:=by first | exact Or.inl rfl | exact Or.inr (Or.inl rfl) | exact Or.inr (Or.inr rfl)) (hd:(x == ("__debug__":Str))=false:=by decide)
  (hcd:(x == ("__classdict__":Str))=false:=by decide):PE X (.Name x pos) (Ar i):=X2 hN hv hd hcd
end
theorem Bh{A B:Prop}(h:B):if false=true then A else B:=by
 rw[if_neg Bool.false_ne_true];exact h
theorem CL{A B:Prop}(h:A):if true=true then A else B:=by
 rw[if_pos rfl];exact h
theorem Ey{c A B:Prop}[Decidable c](h1:c->A)(h2:¬c->B):if c then A else B:=by
 by_cases h:c
 ·rw[if_pos h];exact h1 h
 ·rw[if_neg h];exact h2 h
theorem CJ{c A B:Prop}[Decidable c](hc:c)(h:B):if (!decide c)=true then A else B:=by
 rw[decide_eq_true hc];exact Bh h
def AQ(H H':Hp):Prop:=∀b o,H b=some o->H' b=some o
theorem AQ.refl(H:Hp):AQ H H:=λ_ _ h=>h
theorem AQ.trans{H H1 H2:Hp}(a:AQ H H1)(b:AQ H1 H2):AQ H H2:=λc o h=>b c o (a c o h)
theorem AQ.free{H H':Hp}(e:AQ H H'){l:Addr}(h:H' l=Option.none):H l=Option.none:=by
 cases q:H l with
 | none=>rfl
 | some o =>
  rw[e l o q] at h;cases h
theorem AQ.seq{K:PySem.W.Frag}{H H':Hp}{a:Addr}{xs:List V}(e:AQ H H')(h:AS K H a xs):AS K H' a xs:=by
 rcases h with (h | ⟨o,h⟩) | h
 ·exact .inl (.inl (e _ _ h))
 ·exact .inl (.inr ⟨o,e _ _ h⟩)
 ·exact .inr h
section
variable {X:Cx}
end
section
variable {κ:Type} [DecidableEq κ]
end
end L2
namespace L2
open PySem
def DK(h h':Heap):Prop:=∀a o,h.get? a=some o->∃o',h'.get? a=some o'/\o'.dict=o.dict
theorem DK.refl(h:Heap):DK h h:=λ_ o e=>⟨o,e,rfl⟩
theorem DK.trans{h1 h2 h3:Heap}(x:DK h1 h2)(y:DK h2 h3):DK h1 h3:=λa o e=>by
 obtain⟨o1,e1,d1⟩:=x a o e;obtain⟨o2,e2,d2⟩:=y a o1 e1;exact⟨o2,e2,d2.trans d1⟩
theorem VO{h:Heap}{a:Addr}{o:Obj}(e:h.get? a=some o):o.isFreed=false:=by
 unfold Heap.get? at e;split at e
 ·cases e
 ·rename_i x hx
  obtain⟨c,d,dt,sl⟩:=o;cases dt <;> first | rfl | (exact absurd e (hx _ _ _))
theorem DK.AK{h:Heap}{a:Addr}{f:Obj->Obj}(hf:∀o,(f o).dict=o.dict/\(f o).isFreed=o.isFreed):DK h (h.update a f):=λb o e=>by
 by_cases hb:a=b
 ·subst hb;exact⟨f o,Heap.get?_update_self f e ((hf o).2.trans (VO e)),(hf o).1⟩
 ·exact⟨o,(Heap.get?_update_other h f hb).trans e,rfl⟩
theorem DK.push(h:Heap)(x:Obj):DK h (h.push x):=λ_ o e=>⟨o,Heap.get?_push_of_some x e,rfl⟩
structure KpD{α:Type}(t:Sem α):Prop where
 out:∀(M:Model) (Γ:Ctx) (Q:α->Pos->Shared->Prop) (E:Value->Pos->Shared->Prop) (p:Pos) (s:Shared),Sem.wp M Γ t Q E p s->Sem.wp M Γ t (λa p' s'=>Q a p' s'/\DK s.heap s'.heap) E p s
namespace KpD
variable {α β:Type}
theorem pure(a:α):KpD (Pure.pure a:Sem α):=⟨λ_ _ _ _ _ s h=>⟨h,DK.refl _⟩⟩
theorem unsupported(w:String):KpD (PySem.unsupported w:Sem α):=⟨λ_ _ _ _ _ _ h=>h⟩
theorem bind{m:Sem α}{f:α->Sem β}(hm:KpD m)(hf:∀a,KpD (f a)):KpD (m >>= f):=⟨λM Γ Q E p s h=>by
 rw[Sem.wp_bind'] at h ⊢;refine Sem.wp_mono M Γ m (λa p' s' ⟨q,k⟩=>?_) (λ_ _ _ z=>z) p s (hm.out M Γ _ E p s h);exact Sem.wp_mono M Γ (f a) (λb p2 s2 ⟨q2,k2⟩=>⟨q2,k.trans k2⟩) (λ_ _ _ z=>z) p' s' ((hf a).out M Γ Q E p' s' q)⟩
theorem ite{c:Prop}[Decidable c]{t u:Sem α}(ht:KpD t)(hu:KpD u):KpD (if c then t else u):=by split <;> assumption
theorem load(a:Addr):KpD (PySem.load a):=⟨λ_ _ _ _ _ _ h=>by
 obtain⟨o,e,q⟩:=h;exact⟨o,e,q,DK.refl _⟩⟩
theorem stack:KpD PySem.stack:=⟨λ_ _ _ _ _ _ h=>⟨h,DK.refl _⟩⟩
theorem update(a:Addr){f:Obj->Obj}(hf:∀o,(f o).dict=o.dict/\(f o).isFreed=o.isFreed):KpD (PySem.update a f):=⟨λ_ _ _ _ _ _ h=>⟨h.1,h.2,DK.AK hf⟩⟩
theorem alloc(x:Obj):KpD (PySem.alloc x):=⟨λ_ _ _ _ _ _ h=>⟨h,DK.push _ _⟩⟩
theorem field(v:Value)(i:Nat):KpD (PySem.field v i):=⟨λM Γ Q E p s h=>by
 rw[wp_field_iff] at h ⊢;obtain⟨a,o,vs,x,e,ho,hd,hx,q⟩:=h;exact⟨a,o,vs,x,e,ho,hd,hx,q,DK.refl _⟩⟩
theorem Z2(g:Array Value->Array Value)(o:Obj):(o.mapFields g).dict=o.dict/\(o.mapFields g).isFreed=o.isFreed:=by
 obtain⟨c,d,dt,sl⟩:=o;cases dt <;> exact⟨rfl,rfl⟩
theorem setField(v:Value)(i:Nat)(x:Value):KpD (PySem.setField v i x):=⟨λM Γ Q E p s h=>by
 rw[wp_setField_iff] at h ⊢;obtain⟨a,o,vs,e,ho,hd,hi,q⟩:=h;exact⟨a,o,vs,e,ho,hd,hi,q,DK.AK (Z2 _)⟩⟩
theorem newFields(ty:String)(vs:List Value):KpD (PySem.newFields ty vs):=by
 unfold PySem.newFields newObj newObjAsIs;dsimp only;split
 all_goals repeat' with_reducible first
  | exact unsupported _
  | exact alloc _
  | exact pure _
  | apply bind
  | intro _
theorem slotF(g:Obj->Array (Option Value))(o:Obj):({ o with slots:=g o }:Obj).dict=o.dict/\({ o with slots:=g o }:Obj).isFreed=o.isFreed:=by
 obtain⟨c,d,dt,sl⟩:=o;cases dt <;> exact⟨rfl,rfl⟩
end KpD
local macro_rules
 | `(tactic| trivial)=>`(tactic| (repeat' with_reducible first
  | assumption
  | exact KpD.pure _
  | exact KpD.unsupported _
  | exact KpD.field _ _
  | exact KpD.setField _ _ _
  | exact KpD.newFields _ _
  | exact KpD.load _
  | exact KpD.update _ (KpD.slotF _)
  | exact KpD.stack
  | exact KpD.alloc _
  | apply KpD.ite
  | apply KpD.bind
  | intro _
  | split))
theorem Tw(env:Env)(outer:List Env):KpD (behindIsImport env outer):=by unfold behindIsImport; trivial
theorem Uc:KpD underTheClaimsCaller:=by unfold underTheClaimsCaller; trivial
theorem WG(env:Env)(i:Bool)(l:List Env):KpD (keptBack env i l):=by
 have:=Uc
 cases l <;> unfold keptBack <;> trivial
theorem Oo:∀l:List Env,KpD (readyFrames l)
 | []=>KpD.pure _
 | env :: outer=>by
  have ih:=Oo outer;have h1:=Tw env outer;have h2:=λi=>WG env i outer
  unfold readyFrames;trivial
  all_goals first | exact h2 _ | exact KpD.update _ (KpD.slotF _)
theorem XQ(l:List Env):KpD (frameObject l):=by
 cases l with
 | nil=>exact KpD.pure _
 | cons env outer =>
  have:=Oo (env :: outer)
  unfold frameObject;trivial
theorem WO:KpD frameEnvs:=by unfold frameEnvs; trivial
theorem Ts(env:Env):KpD (frameOf env):=by
 have h1:=WO;have h2:=XQ;unfold frameOf;trivial
 all_goals exact h2 _
theorem VY(f:Addr)(b:Bool):KpD (entryPlaceOf f b):=by unfold entryPlaceOf; trivial
theorem MF(e:Value)(f:Option Addr):KpD (setFlight e f):=by unfold setFlight; trivial
theorem P4(e:Value)(env:Env):KpD (noteFrame e env):=by
 have h1:=Ts env;have h2:=VY;unfold noteFrame EntryCells.newEntry;trivial
 all_goals exact h2 _ _
theorem OP(env:Env)(e:Value):KpD (leaving env e):=by
 unfold leaving;exact KpD.bind (P4 e env) λ_=>MF e none
theorem JJ{α:Type}{M:Model}{A:Around}{t:Sem α}{Q Q':α->Shared->Prop}{E:Value->Shared->Prop}{s:Shared}(k:KpD t)(h:wpAny M A t Q' E s)(hQ:∀a s',Q' a s'->DK s.heap s'.heap->Q a s'):wpAny M A t Q E s:=λΓ p hΓ =>
 Sem.wp_mono M Γ t (λa _ s' ⟨q,d⟩=>hQ a s' q d) (λ_ _ _ z=>z) p s (k.out M Γ _ _ p s (h Γ p hΓ))
end L2
namespace L2
open PySem PySem.Spec PyProof.Rows
theorem PR{P:Program}{w:World}{H:Hp}{h:Heap}{a:Addr}{o:HO}(x:BR P w H h a o):∃u,h.get? a=some u:=by
 cases o with
 | AN xs=>obtain⟨_,_,_,_,e⟩:=x; exact⟨_,e⟩
 | AH xs=>obtain⟨_,_,_,_,u,e,_⟩:=x; exact⟨u,e⟩
 | dK kvs=>obtain⟨_,_,_,_,u,_,_,e,_⟩:=x; exact⟨u,e⟩
 | dT kvs=>obtain⟨_,_,_,_,u,_,_,e,_⟩:=x; exact⟨u,e⟩
 | set S n=>obtain⟨u,_,_,_,e,_⟩:=x; exact⟨u,e⟩
 | Az C dx fs=>obtain⟨_,_,_,e,_⟩:=x; exact⟨_,e⟩
 | Cq y=>exact x
 | xd fs=>obtain⟨_,⟨u,_,_,e,_⟩,_⟩:=x; exact⟨u,e⟩
 | Lp lo hi=>obtain⟨_,_,_,e⟩:=x; exact⟨_,e⟩
 | Df ob u=>obtain⟨e,_⟩:=x; exact⟨_,e⟩
 | HF ps=>exact⟨_,x⟩
 | Lo f y=>exact⟨_,x⟩
 | ext φ=>obtain⟨_,e,_⟩:=x; exact e
theorem TV{P:Program}{w:World}{H:Hp}{h:Heap}{a:Addr}(x:BS P w H h)(e:h.get? a=none):H a=none:=by
 cases q:H a with
 | none=>rfl
 | some o =>
  obtain⟨u,z⟩:=PR (x a o q);rw[e] at z;cases z
def Fv(B:Heap)(l:List Env)(a:Addr)(cls:Value)(t:Addr)(od:Option Addr)(h:Heap):Prop:=Heap.FlyingW B l a cls (.ref t) h/\∃o,h.get? a=some o/\o.dict=od
theorem Fv.there{B h:Heap}{l:List Env}{a t:Addr}{cls:Value}{od:Option Addr}(x:Fv B l a cls t od h):∃o,h.get? a=some o/\o.cls=cls/\o.dict=od/\∃vs,o.data=.fields vs:=by
 obtain⟨o,e,d⟩:=x.2;obtain⟨o2,vs,e2,c,f,_⟩:=x.1.first;rw[e] at e2;cases e2;exact⟨o,e,c,d,vs,f⟩
theorem DK.dict{h h':Heap}{a:Addr}{od:Option Addr}(k:DK h h')(x:∃o,h.get? a=some o/\o.dict=od):∃o,h'.get? a=some o/\o.dict=od:=by
 obtain⟨o,e,d⟩:=x;obtain⟨o',e',d'⟩:=k a o e;exact⟨o',e',d'.trans d⟩
def Aj(P:Program)(w:World):Cp:=λouter H s E e s' =>
 ∃(a t:Addr) (cls:Value) (od:Option Addr) (B:Heap) (H':Hp),e=.ref a/\s'.os=s.os/\AllBare s'.gens/\Un (BP outer) [] H H' s.heap s'.heap /\
  (∀b o,s.heap.get? b=some o->H b=none->b∉BP outer->B.get? b=some o)/\(∀b o,s.heap.get? b=some o->b∉BP outer->∃o',B.get? b=some o') /\
  BS P w H' B/\Fv B outer a cls t od s'.heap/\s.heap.get? a=none/\H' a=none/\E cls od H'
theorem FJ{P:Program}{w:World}{X:Cx}:Dl (Aj P w) X E0:=λ_ _ _ _ _ _ _ h=>by
 obtain⟨_,_,_,_,_,_,_,_,_,_,_,_,_,_,_,_,z⟩:=h;exact False.elim z
def EZ(a:Addr)(cls:Value)(od:Option Addr):HO:=.ext λh=>∃o,h.get? a=some o/\o.cls=cls/\o.dict=od/\∃vs,o.data=.fields vs
theorem Wx{P:Program}{w:World}{H:Hp}{h:Heap}{a:Addr}{cls:Value}{od:Option Addr}{o:Obj}(e:h.get? a=some o)(c:o.cls=cls)(d:o.dict=od/\∃vs,o.data=.fields vs):BR P w H h a (EZ a cls od) :=
 ⟨⟨o,e,c,d⟩,⟨o,e⟩,λ_ _ ⟨u,q,z⟩ k=>⟨u,k u q,z⟩⟩
def LI(X:Cx)(pins:List (Addr×Obj))(σ:St)(a:Addr)(cls:Value)(od:Option Addr)(H':Hp)(s':Shared):Prop :=
 ∃(B:Heap) (t:Addr),Fv B X.stack a cls t od s'.heap/\H' a=none/\∀h'',Fv B X.stack a cls t od h''->s'.heap.UpToSlots h'' →
  AL X pins σ H' { s' with heap:=h'' }/\AL X pins σ (AK H' a (EZ a cls od)) { s' with heap:=h'' }
section
variable {X:Cx} {pins:List (Addr×Obj)} {σ:St} {H:Hp} {s s':Shared} {E:XK} {e:Value}
theorem Xa(I:AL X pins σ H s)(h:Aj X.prog X.w X.stack H s E e s'):∃a cls od H',e=.ref a/\E cls od H'/\LI X pins σ a cls od H' s':=by
 obtain⟨a,t,cls,od,B,H',rfl,os,bare,u,kB,tB,hok,fl,na,nH,hE⟩:=h;refine⟨a,cls,od,H',rfl,hE,B,t,fl,nH,λh'' flD' up=>?_⟩;have fl':=flD'.1;have fr:=I.stack;have un:Un (BP X.stack) [] H H' s.heap h'':=by
  refine⟨λb o q n hb _=>fl'.1 b o (kB b o q n hb),λb o q n hb hx=>?_,u.free,λb o q hx=>?_,u.tups,u.frzs,u.tbls⟩
  ·obtain⟨sl,q1⟩:=u.slot b o q n hb hx;obtain⟨_,o2,q2,nf⟩:=fr.mem hb;rw[q] at q2;cases q2;obtain⟨sl',q3⟩:=up b _ q1 nf;exact⟨sl',q3⟩
  ·by_cases hb:b∈BP X.stack
   ·obtain⟨sl,q1⟩:=u.slot b o q (I.Kc b hb) hb hx;obtain⟨_,o2,q2,nf⟩:=fr.mem hb;rw[q] at q2;cases q2;obtain⟨sl',q3⟩:=up b _ q1 nf;exact⟨_,q3⟩
   ·obtain⟨o',q'⟩:=tB b o q hb;exact⟨o',fl'.1 b o' q'⟩
 have ok':BS X.prog X.w H' h'':=hok.CK fl'.1;have neA:∀b o,s.heap.get? b=some o->b≠a:=λb o q z=>by rw[z,na] at q; cases q
 have inS:∀b o,H b=some o->b≠a:=λb o q=>by
  obtain⟨v,z⟩:=PR (I.hok b o q);exact neA b v z
 refine⟨I.NK (s':={ s' with heap:=h'' }) os un ok' bare λb z=>absurd z (by simp),?_⟩;refine I.NK (s':={ s' with heap:=h'' }) os ⟨un.keep,un.slot,λb o q n hx=>?_,un.there,λb xs q=>?_,λb o v q=>?_,λb ps q=>?_⟩ (λb o q=>?_) bare λb z=>absurd z (by simp)
 ·rw[An (neA b o q)];exact un.free b o q n hx
 ·rw[An (inS b _ q)];exact un.tups b xs q
 ·rw[An (inS b _ q)];exact un.frzs b o v q
 ·obtain⟨more,z⟩:=un.tbls b ps q;exact⟨more,by rw[An (inS b _ q)]; exact z⟩
 ·by_cases hb:b=a
  ·subst hb;rw[AX] at q;cases q;obtain⟨ob,z1,z2,z3⟩:=flD'.there;exact Wx z1 z2 z3
  ·rw[An hb] at q;refine(ok' b o q).E4 (λc v _ z=>z) (λc z=>?_) λc xs z=>?_
   ·rw[An (A5 z nH)];exact z
   ·rw[An (A5 z nH)];exact z
end
section
variable {P:Program} {w:World} {K:PySem.W.Frag} {mg:Str->Option Value} {base:Heap} {N:List Str} {qual:Str} {scope:Scope} {f:Addr} {cd:Value} {A:Around} {outer:List Env} {s₀:Shared} {H₀:Hp} {E:XK}
theorem D1:Dl (Aj P w) (GC (Aj P w) P w K mg base N qual scope f cd A outer s₀ H₀ E) E:=by
 intro pins σ H s e s' I h;obtain⟨a,t,cls,od,B,H',rfl,os,bare,u,kB,tB,hok,fl,na,nH,hE⟩:=h;have sub:∀b,b∈BP outer->b∈BP (envOfC qual scope s₀.heap.objs.size f cd :: outer):=λb hb=>by
  show b∈List.filterMap _ (_ :: outer);rw[List.filterMap_cons];exact List.mem_cons_of_mem _ hb
 have noL:∀b o,s₀.heap.get? b=some o->b∉BP outer->b∉BP (envOfC qual scope s₀.heap.objs.size f cd :: outer):=λb o q hb z=>by
  rcases List.mem_cons.mp (I.IA b z) with z | z
  ·exact absurd (Heap.lt_size q) (by rw[z]; exact Nat.lt_irrefl _)
  ·exact hb z
 have nex:∀b:Addr,b∉([]:List Addr):=λb z=>by simp at z
 have kB':∀b o,s₀.heap.get? b=some o->H₀ b=none->b∉BP outer->B.get? b=some o:=λb o q n hb =>
  kB b o (I.base.keep b o q n hb (nex b)) (I.base.free b o q n (nex b)) (noL b o q hb)
 have tB':∀b o,s₀.heap.get? b=some o->b∉BP outer->∃o',B.get? b=some o':=λb o q hb=>by
  obtain⟨o1,q1⟩:=I.base.there b o q (nex b);exact tB b o1 q1 (noL b o q hb)
 have na':s₀.heap.get? a=none:=by
  cases q:s₀.heap.get? a with
  | none=>rfl
  | some o =>
   obtain⟨o1,q1⟩:=I.base.there a o q (nex a);rw[na] at q1;cases q1
 refine JJ (OP _ _) (Q':=λ_ s2=>∃h',s2={ s' with heap:=h' }/\Heap.FlyingW B outer a cls (.ref t) h'/\s'.heap.UpToSlots h') (wpAny_leaves_onW I.ok.frames rfl fl.1 λh' fl' up=>⟨h',rfl,fl',up⟩) ?_;rintro _ s2 ⟨h',rfl,fl',up⟩ dk;refine⟨a,t,cls,od,B,H',rfl,os.trans I.os,bare,?_,kB',tB',hok,⟨fl',dk.dict fl.2⟩,na',nH,hE⟩;have slot':∀b o,s₀.heap.get? b=some o->H₀ b=none->b∈BP outer->∃sl,h'.get? b=some { o with slots:=sl }:=λb o q n hb=>by
  obtain⟨sl,q1⟩:=I.base.slot b o q n hb (nex b);obtain⟨sl1,q2⟩:=u.slot b _ q1 (I.base.free b o q n (nex b)) (sub b hb) (nex b);obtain⟨_,o2,q3,nf⟩:=I.DH.mem hb;rw[q1] at q3;cases q3;obtain⟨sl2,q4⟩:=up b _ q2 nf;exact⟨sl2,q4⟩
 refine⟨λb o q n hb _=>fl'.1 b o (kB' b o q n hb),λb o q n hb _=>slot' b o q n hb,λb o q n _=>?_,λb o q _=>?_,λb xs q=>u.tups b xs (I.base.tups b xs q),λb o v q=>u.frzs b o v (I.base.frzs b o v q),λb ps q=>?_⟩
 ·obtain⟨o1,q1⟩:=I.base.there b o q (nex b);exact u.free b o1 q1 (I.base.free b o q n (nex b)) (nex b)
 ·by_cases hb:b∈BP outer
  ·obtain⟨sl,q1⟩:=slot' b o q (I.ok.FC b hb) hb;exact⟨_,q1⟩
  ·obtain⟨o1,q1⟩:=tB' b o q hb;exact⟨o1,fl'.1 b o1 q1⟩
 ·obtain⟨m1,q1⟩:=I.base.tbls b ps q;obtain⟨m2,q2⟩:=u.tbls b _ q1;exact⟨m1++m2,by rw[q2,Array.append_assoc]⟩
def P5(X:Cx)(E:XK):Prop:=∀(pins:List (Addr×Obj)) (σ:St) (H:Hp) (s:Shared) (h':Heap) (a:Addr) (cls:Value) (vs:List Value),
 AL X pins σ H s->Heap.MadeExcOf s.heap h' a cls vs->E cls none H->X.xe (.ref a) { s with heap:=h' }
theorem MN:P5 (GC (Aj P w) P w K mg base N qual scope f cd A outer s₀ H₀ E) E:=by
 intro pins σ H s h' a cls vs I hx hE;have nex:∀b:Addr,b∉([]:List Addr):=λb z=>by simp at z
 have nfr:∀b o,H b=some o->b∉BP (envOfC qual scope s₀.heap.objs.size f cd :: outer):=λb o q z=>by
  have:=I.Kc b z
  rw[q] at this;cases this
 have noL:∀b o,s₀.heap.get? b=some o->b∉BP outer->b∉BP (envOfC qual scope s₀.heap.objs.size f cd :: outer):=λb o q hb z=>by
  rcases List.mem_cons.mp (I.IA b z) with z | z
  ·exact absurd (Heap.lt_size q) (by rw[z]; exact Nat.lt_irrefl _)
  ·exact hb z
 have hokB:BS P w H (PySem.W.hideAll s.heap (BP (envOfC qual scope s₀.heap.objs.size f cd :: outer))):=λb o q =>
  (I.hok b o q).E4 (λc v hc z=>PySem.W.hideAll_get _ z (by
   rcases hc with hc | hc
   ·rw[hc]; exact nfr b o q
   ·exact nfr c _ hc)) (λ_ z=>z) λ_ _ z=>z
 have kB:∀b o,s₀.heap.get? b=some o->H₀ b=none->b∉BP outer->(PySem.W.hideAll s.heap (BP (envOfC qual scope s₀.heap.objs.size f cd :: outer))).get? b=some o:=λb o q n hb =>
  PySem.W.hideAll_get _ (I.base.keep b o q n hb (nex b)) (noL b o q hb)
 have tB:∀b o,s₀.heap.get? b=some o->b∉BP outer->∃o',(PySem.W.hideAll s.heap (BP (envOfC qual scope s₀.heap.objs.size f cd :: outer))).get? b=some o':=λb o q hb=>by
  obtain⟨o1,q1⟩:=I.base.there b o q (nex b);exact⟨o1,PySem.W.hideAll_get _ q1 (noL b o q hb)⟩
 have na:s₀.heap.get? a=none:=by
  cases q:s₀.heap.get? a with
  | none=>rfl
  | some o =>
   obtain⟨o1,q1⟩:=I.base.there a o q (nex a);rw[hx.new] at q1;cases q1
 refine JJ (OP _ _) (Q':=λ_ s2=>∃h'' t,s2={ s with heap:=h'' }/\Heap.FlyingW (PySem.W.hideAll s.heap (BP (envOfC qual scope s₀.heap.objs.size f cd :: outer))) outer a cls (.ref t) h''/\h'.UpToSlots h'') (wpAny_leaves_madeW (s:={ s with heap:=h' }) I.ok.frames rfl (λb o q=>PySem.W.of_hideAll _ q) (PySem.W.funFrames_hide I.stack λenv he b hb=>List.mem_filterMap.mpr ⟨env,he,hb⟩) hx λh'' t fl _ _ up=>⟨h'',t,rfl,fl,up⟩) ?_;rintro _ s2 ⟨h'',t,rfl,fl,up⟩ dk;obtain⟨t',he',_⟩:=hx.there;refine⟨a,t,cls,none,_,H,rfl,I.os,I.bare,?_,kB,tB,hokB,⟨fl,dk.dict ⟨_,he',rfl⟩⟩,na,TV I.hok hx.new,hE⟩;have slot':∀b o,s₀.heap.get? b=some o->H₀ b=none->b∈BP outer->∃sl,h''.get? b=some { o with slots:=sl }:=λb o q n hb=>by
  obtain⟨sl,q1⟩:=I.base.slot b o q n hb (nex b);obtain⟨_,o2,q3,nf⟩:=I.DH.mem hb;rw[q1] at q3;cases q3;obtain⟨sl2,q4⟩:=up b _ (hx.keeps b _ q1) nf;exact⟨sl2,q4⟩
 refine⟨λb o q n hb _=>fl.1 b o (kB b o q n hb),λb o q n hb _=>slot' b o q n hb,λb o q n _=>I.base.free b o q n (nex b),λb o q _=>?_,I.base.tups,I.base.frzs,I.base.tbls⟩;by_cases hb:b∈BP outer
 ·obtain⟨sl,q1⟩:=slot' b o q (I.ok.FC b hb) hb;exact⟨_,q1⟩
 ·obtain⟨o1,q1⟩:=tB b o q hb;exact⟨o1,fl.1 b o1 q1⟩
end
theorem EE {P:Program} {w:World} {K:PySem.W.Frag} {mg:Str->Option Value} {base:Heap} {x qual:Str} {st:Stmt} {f:Addr} {fd:FuncData} {N ps:List Str} {k:Nat} {sp:Sp} (F:Ag K x qual st f fd) (S:Ak N ps (Af st))
  (len:∀vs H Q E,sp vs H Q E->vs.length=ps.length)
  (hbody:∀(cdv:Value) (A:Around) (outer:List Env) (s:Shared) (H:Hp) (vs:List V) (Q:VK) (E:XK),A9 k (A.deeper (envOfC qual (Af st) s.heap.objs.size f cdv))->sp vs H Q E →
   ∃t,Cs (GC (Aj P w) P w K mg base N qual (Af st) f cdv A outer s H E) (C9 st) t/\t { nx:=λ_ H'=>Q .Ay H',rt:=Q } (Ft N vs) H):AG P w K mg base (Aj P w) (k+1) f fd ps sp:=by
 obtain⟨oc,od,kV,doc,pm,an,cdv,ct,osl,rfl,lk,hcd⟩:=F.ex;exact Rb lk hcd S len λA outer s H vs Q E hr hsp=>hbody cdv A outer s H vs Q E hr hsp
theorem Wy{K:PySem.W.Frag}{h:Heap}{C:Addr}{bm:List Value}{newId:String}(X:K.In h)(q:PySem.W.excIn K C bm newId=true):
  ∃tl N nm qn bs hdct sn sub ab col dd k0 k1 k2 k3 k5 mN,h.get? C=some (excClassObj nm qn C N bs tl hdct sn sub ab col dd k0 k1 k2 k3 k5 newId)/\h.Ns N mN/\mN "__init__" = none/\OwnTail h bm tl:=by
 unfold PySem.W.excIn at q;split at q
 case h_2=>cases q
 case h_1 dd cd sl ho =>
  split at q
  case h_2=>cases q
  case h_1 C' tl k0 k1 k2 k3 n k5 hm hs =>
   simp only[Bool.and_eq_true,beq_iff_eq,Bool.not_eq_true'] at q;obtain⟨⟨⟨⟨⟨e1,e2⟩,hdel⟩,ht⟩,hok⟩,hni⟩:=q;subst e1;subst e2;obtain⟨nm,bs,mro,ns,qn,hd,sn,sub,ab,col,del⟩:=cd;obtain⟨sl⟩:=sl;dsimp only at hm hdel hok hni hs;subst hm;subst hdel;subst hs;exact⟨tl,ns,nm,qn,bs,hd,sn,sub,ab,col,dd,k0,k1,k2,k3,k5,_,X _ _ ho,.of_isNs (PySem.W.isNs_of_in X hok),PySem.W.nsMap_none_of_in X hok hni,PySem.W.tail_of_in X ht⟩
def YG(C:Addr)(E:XK)(ta:TA):TS:=λ_ σ H=>ta σ H λvs H1=>vs.length<=sizeLine/\E (.ref C) none H1
theorem MW {X:Cx} {x:Str} {C:Addr} {e0:PySem.Expr} {rest:List PySem.Expr} {ta:TA} {B newId initId:String} {bm:List Value} {E:XK} {np cpos pos:Pos} (hg:Gl X x) (hm:X.mg x=some (.ref C)) (q:PySem.W.excIn X.K C bm newId=true)
  (FB:ExcBaseFacts B newId initId bm) (hc:X.By=true) (ho:P5 X E) (ha:PA X (e0 :: rest) ta) (hdb:(x == ("__debug__":Str))=false:=by decide)
  (he:starEach (e0 :: rest) X.env=(false,eval e0 X.env) :: starEach rest X.env:=by rfl) (hpl:(backTo cpos (starEach rest X.env)).any (·.1)=false:=by rfl) :
  PS X (.Raise (some (.Call (.Name x np) (e0 :: rest) [] cpos)) none pos) (YG C E ta):=by
 intro pins s σ H D I h;obtain⟨tl,N,nm,qn,bs,hdct,sn,sub,ab,col,dd,k0,k1,k2,k3,k5,mN,hC,hN,hni,TL⟩:=Wy I.ok.BY.Dg q;refine wpAny_Raise_call_subT (C:=C) (nm:=nm) (q:=qn) (N:=N) (bs:=bs) (bm:=tl) (hdct:=hdct) (sn:=sn) (sub:=sub) (ab:=ab) (col:=col) (dd:=dd) (k0:=k0) (k1:=k1) (k2:=k2) (k3:=k3) (k5:=k5)
  FB (mN:=mN) (TL.hasType FB.hasBase) (I.ok.hd hc) ?_ hni (JB I hg hm ⟨rfl,?_⟩ hdb)
 ·rw[he];show(false || (backTo cpos (starEach rest X.env)).any (·.1))=false;rw[hpl];rfl
 ·have hargs:=ha cpos pins s σ H _ I h;rw[he] at hargs ⊢;refine Calls.evalArgs_plain (Aa hargs λus s1 ⟨vs,H1,I1,r,z,q1⟩=>⟨rfl,?_,I1.bk _ _ hC,hN.keeps I1.bk,TL.keeps I1.bk,λh' e hx=>ho pins σ H1 s1 h' e _ us I1 hx q1⟩);rw[<-r.length];exact z
abbrev TX:=St->Hp->VK->XK->Prop
def PX(X:Cx)(e:PySem.Expr)(t:TX):Prop :=
 ∀(pins:List (Addr×Obj)) (s:Shared) (σ:St) (H:Hp) (Q:VK) (E:XK) (W:Value->Shared->Prop),AL X pins σ H s->t σ H Q E->(∀a cls od H' s',LI X pins σ a cls od H' s'->E cls od H'->W (.ref a) s') →
  wpAny (model X.prog X.w) X.A (eval e X.env) (EP X pins σ Q) W s
abbrev Ls:=C5->St->Hp->XK->Prop
def S0(X:Cx)(body:List Stmt)(t:Ls):Prop :=
 ∀(pins:List (Addr×Obj)) (s:Shared) (σ:St) (H:Hp) (D:C5) (E:XK) (W:Value->Shared->Prop),AL X pins σ H s->t D σ H E->(∀a cls od H' s',LI X pins σ a cls od H' s'->E cls od H'->W (.ref a) s') →
  wpAny (model X.prog X.w) X.A (execs body X.env) (SP X pins D) W s
def YC(te:TX):Ls:=λD σ H E=>te σ H (λ_ H1=>D.nx σ H1) E
theorem Pw{X:Cx}{e:PySem.Expr}{te:TX}{pos:Pos}(he:PX X e te)(hs:swapsWith e none pos.line X.env=pure false:=by rfl):S0 X [.Expr e pos] (YC te):=by
 intro pins s σ H D E W I h hW;refine wpAny_execs_cons (wpAny_Expr_any (Aa (he pins s σ H _ E W I h hW) λv s1 ⟨x,H1,I1,r1,q1⟩=>?_) I.quiet hs);exact wpAny_execs_nil ⟨σ,H1,I1,q1⟩
abbrev LA(X:Cx)(a:Addr):Cx:={ X with A:=X.A.mark (some (.ref a)),By:=false }
theorem OV{X:Cx}{pins:List (Addr×Obj)}{σ:St}{H:Hp}{s:Shared}(I:AL X pins σ H s)(a:Addr):AL (LA X a) pins σ H s :=
 ⟨⟨I.ok.BY,I.ok.kind,I.ok.FT,I.ok.Hi,I.ok.above,I.ok.inj,I.ok.has,I.ok.Ig,(λz=>by cases z),I.ok.frames,I.ok.Jw,I.ok.OE,I.ok.bs,I.ok.E9,I.ok.IU,I.ok.IL,I.ok.DH,I.ok.FC⟩,I.os,I.bare,I.base,I.Cv,I.cell,I.free,I.Dr,I.Ct,I.hok,I.len⟩
theorem KZ{X:Cx}{pins:List (Addr×Obj)}{σ:St}{H:Hp}{s:Shared}{a:Addr}(ok:X.Ok)(I:AL (LA X a) pins σ H s):AL X pins σ H s :=
 ⟨ok,I.os,I.bare,I.base,I.Cv,I.cell,I.free,I.Dr,I.Ct,I.hok,I.len⟩
theorem Kd {X:Cx} {M:Model} {A:Around} {W:Value->Shared->Prop} {pins:List (Addr×Obj)} {σ:St} {H:Hp} {s:Shared} {i:Nat} {n:Str} {pos:Pos} {Q:Unit->Shared->Prop} (I:AL X pins σ H s) (hN:X.N.Nodup) (hi:X.N[i]?=some n)
  (hx:X.env.scope.names.lookup n=some .local) (h:∀s',AL X pins (σ.set i none) H s'->Q () s'):wpAny M A (do bindName X.env n .none; unbindBehindTheSuite X.env n pos) Q W s:=by
 obtain⟨m,hn,hl⟩:=id I.Cv;have hcls:(X.env.scope.kind == .class || (X.env.scope.kind == .module && X.env.locals != X.env.globals))=false:=by rw[I.ok.kind]; rfl
 obtain⟨oL,_,_,hoL,_⟩:=id hn;refine wpAny_nameGoes_keeps hx hn hcls λh' v hn' hs=>h _ ?_
 have ne:∀b o,X.s₀.heap.get? b=some o->b≠X.env.locals:=λb o e=>Nat.ne_of_lt (Nat.lt_of_lt_of_le (Heap.lt_size e) I.ok.above)
 refine⟨I.ok,I.os,I.bare,⟨λb o e z hb hx=>?_,λb o e z hb hx=>?_,I.base.free,λb o e hx=>?_,I.base.tups,I.base.frzs,I.base.tbls⟩,⟨_,hn',λj y v' e1 e2 e3=>?_⟩,λy c e=>?_,I.free,I.Dr,λp hp=>?_,λb o e=>?_,by simpa using I.len⟩
 ·exact(hs.2 b (ne b o e)).trans (I.base.keep b o e z hb hx)
 ·obtain⟨sl,e1⟩:=I.base.slot b o e z hb hx;exact⟨sl,(hs.2 b (ne b o e)).trans e1⟩
 ·obtain⟨o',e1⟩:=I.base.there b o e hx;exact⟨o',(hs.2 b (ne b o e)).trans e1⟩
 ·have hj:j≠i:=λz=>by
   subst z;have hlt:j<σ.length:=by rw[I.len]; exact(List.getElem?_eq_some_iff.mp hi).1
   rw[List.getElem?_set_self hlt] at e2;cases e2
  rw[List.getElem?_set_ne (Ne.symm hj)] at e2;obtain⟨u',r',q⟩:=hl j y v' e1 e2 e3;have hy:y≠n:=λe=>hj (MO hN e1 (e ▸ hi))
  refine⟨u',r',?_⟩;rcases q with ⟨k,e⟩ | ⟨k,c,e,z⟩
  ·exact .inl ⟨k,by simp[hy,e]⟩
  ·exact .inr ⟨k,c,e,z.sameBut hs (I.cne y c e)⟩
 ·obtain⟨w',z⟩:=I.cell y c e;exact⟨w',z.sameBut hs (I.cne y c e)⟩
 ·obtain⟨e,z,ne',nf,d⟩:=I.Ct p hp;exact⟨(hs.2 p.1 ne').trans e,z,ne',nf,d⟩
 ·refine(I.hok b o e).E4 (λc w' hc q=>(hs.2 c ?_).trans q) (λ_ q=>q) λ_ _ q=>q
  rintro rfl;rcases hc with rfl | hc
  ·rw[I.free] at e; cases e
  ·rw[I.free] at hc; cases hc
section
variable {M:Model} {A:Around} {E:Value->Shared->Prop} {s:Shared} {B:Heap} {env:Env} {outer l:List Env} {L e t:Addr} {cls:Value} {od:Option Addr} {Q:Unit->Shared->Prop}
theorem Uq (hfr:A.frames=some (env :: outer)) (hf:env.frame=some L) (hfl:Fv B (env :: outer) e cls t od s.heap)
  (hQ:∀h',Heap.HeldW B (env :: outer) e cls (.ref t) L h'->(∃o,h'.get? e=some o/\o.dict=od)->s.heap.UpToSlots h'->Q () { s with heap:=h' }):wpAny M A (noteFrame (.ref e) env) Q E s:=by
 refine JJ (P4 _ _) (Q':=λ_ s2=>∃h',s2={ s with heap:=h' }/\Heap.HeldW B (env :: outer) e cls (.ref t) L h'/\s.heap.UpToSlots h') (wpAny_looks_onW hfr hf hfl.1 λh' a b=>⟨h',rfl,a,b⟩) ?_;rintro _ s2 ⟨h',rfl,a,b⟩ dk;exact hQ h' a (dk.dict hfl.2) b
theorem Yy(hh:Heap.HeldW B l e cls (.ref t) L s.heap)(hd:∃o,s.heap.get? e=some o/\o.dict=od)(hQ:∀h',Fv B l e cls t od h'->s.heap.UpToSlots h'->Q () { s with heap:=h' }):wpAny M A (setFlight (.ref e) none) Q E s:=by
 refine JJ (MF _ _) (Q':=λ_ s2=>∃h',s2={ s with heap:=h' }/\Heap.FlyingW B l e cls (.ref t) h'/\s.heap.UpToSlots h') (wpAny_landsW hh λh' a b=>⟨h',rfl,a,b⟩) ?_;rintro _ s2 ⟨h',rfl,a,b⟩ dk;exact hQ h' ⟨a,dk.dict hd⟩ b
theorem Ta(hh:Fv B l e cls t od s.heap)(hQ:∀h',Fv B l e cls t od h'->s.heap.UpToSlots h'->Q () { s with heap:=h' }):wpAny M A (setFlight (.ref e) none) Q E s:=by
 refine JJ (MF _ _) (Q':=λ_ s2=>∃h',s2={ s with heap:=h' }/\Heap.FlyingW B l e cls (.ref t) h'/\s.heap.UpToSlots h') (lands_againW hh.1 λh' a b=>⟨h',rfl,a,b⟩) ?_;rintro _ s2 ⟨h',rfl,a,b⟩ dk;exact hQ h' ⟨a,dk.dict hh.2⟩ b
end
def aR(K:PySem.W.Frag)(C:Addr)(i:Nat)(tb:Ls)(th:Addr->TS):TS:=λD σ H=>tb D σ H λcls od H'=>PySem.W.exmOne K cls (.ref C)=some true/\∀a,H' a=none →
 th a { nx:=λσ2 H2=>D.nx (σ2.set i none) H2,rt:=D.rt,bk:=λσ2 H2=>D.bk (σ2.set i none) H2,ct:=λσ2 H2=>D.ct (σ2.set i none) H2 } (σ.set i (some (.ref a))) (AK H' a (EZ a cls od))
theorem Q8 {X:Cx} {body:List Stmt} {y n:Str} {C:Addr} {i:Nat} {b0:Stmt} {suite:List Stmt} {tb:Ls} {th:Addr->TS} {np hpos pos:Pos} (hN:X.N.Nodup) (hi:X.N[i]?=some n) (hx:X.env.scope.names.lookup n=some .local) (hg:Gl X y) (hm:X.mg y=some (.ref C))
  (hst:X.stack=X.env :: X.outer) (hfr:X.env.frame=some X.env.locals)
  (hb:S0 X body tb) (hs:∀a,Cs (LA X a).Ea (b0 :: suite) (th a)) (hdb:(y == ("__debug__":Str))=false:=by decide) :
  PS X (.Try body [.ExceptHandler (some (.Name y np)) (some n) (b0 :: suite) hpos] [] [] pos) (aR X.K C i tb th):=by
 intro pins s σ H D I h;refine wpAny_Try_except (wpAny_mono (hb pins s σ H D _ _ I h ?_) (λf s1 q=>?_) λ_ _ z=>z);rotate_left
 ·cases f with
  | next=>exact wpAny_execs_nil q
  | ret v=>exact q
  | brk=>exact q
  | cont=>exact q
 intro a cls od H' s' ⟨B,t,fl,nH,inv⟩ ⟨hq,rd⟩;rw[hst] at fl inv;refine Uq (hst ▸ I.ok.frames) hfr fl λh4 held4 dk4 up4=>?_
 refine Yy held4 dk4 λh5 fl5 up5=>?_
 have up45:=up4.trans up5;have I5:=(inv h5 fl5 up45).1;refine wpAny_handleBy_cons (codeAny_handlers_test ?_) (by intro z; cases z);refine JB (OV I5 a) hg hm ?_ hdb;obtain⟨ob,hob,hoc,_⟩:=fl5.there;have LT:PySem.W.Looks (model X.prog X.w) h5 (typeOf (.ref a)) cls:=hoc ▸ (PySem.W.Looks.ld hob).andThen .now;refine(PySem.W.exm_one (I5.BF) LT hq).at (codeAny_handlers_suite_as ?_);refine Ta fl5 λh6 fl6 up6=>?_
 have I6:=(inv h6 fl6 (up45.trans up6)).2;refine MS (X:=(LA X a).Ea) (v:=.ref a) (AL.C6 (OV I6 a) (λ_ _=>False)) hN hi (.inl hx) rfl (λs7 I7=>?_) (.inr hx);refine wpAny_mono (hs a pins s7 _ _ _ I7 (rd a nH)) (λf s8 q8=>?_) λ_ _ z=>False.elim z
 cases f with
 | next =>
  obtain⟨σ8,H8,I8,d8⟩:=q8;exact Kd (KZ I.ok (AL.CH I8)) hN hi hx λs9 I9=>⟨_,H8,I9,d8⟩
 | brk =>
  obtain⟨σ8,H8,I8,d8⟩:=q8;exact Kd (KZ I.ok (AL.CH I8)) hN hi hx λs9 I9=>⟨_,H8,I9,d8⟩
 | cont =>
  obtain⟨σ8,H8,I8,d8⟩:=q8;exact Kd (KZ I.ok (AL.CH I8)) hN hi hx λs9 I9=>⟨_,H8,I9,d8⟩
 | ret u =>
  obtain⟨v,σ8,H8,I8,rv,d8⟩:=q8;exact Kd (KZ I.ok (AL.CH I8)) hN hi hx λs9 I9=>⟨v,_,H8,I9,rv,d8⟩
def Br(X:Cx)(scope:Scope)(cl:List (Str×Addr))(C:Addr)(Nc:List Str)(ex:List Addr)(pins:List (Addr×Obj))(s₀:Shared)(H₀:Hp):Cx where
 prog:=X.prog
 w:=X.w
 K:=X.K
 mg:=X.mg
 base:=X.base
 A:=X.A
 N:=Nc
 s₀:=s₀
 H₀:=H₀
 env:=compEnvC scope cl C X.env
 outer:=X.stack
 stack:=X.stack
 ex:=ex
 fn:=λy=>scope.names.lookup y == some .local
 By:=true
 pn:=X.pn++pins
 xe:=λ_ _=>False
structure Fi(X:Cx)(scope:Scope)(cl:List (Str×Addr))(Nc:List Str)(cap:List (Nat×Nat)):Prop where
 clos:closureFor scope X.env=pure cl
 kind:scope.kind=.function
 names:∀y∈scope.names,y.2=.local->scope.names.lookup y.1=some .local
 nocell:∀y∈scope.names,y.2≠.cell
 sub:∀x c,cl.lookup x=some c->X.env.cells.lookup x=some c/\scope.names.lookup x≠some .local
 has:∀x,((relabel scope X.env).names.lookup x=some .cell\/(relabel scope X.env).names.lookup x=some .free)->∃c,cl.lookup x=some c
 caps:∀j i,(j,i)∈cap->∃x c,Nc[j]?=some x/\X.N[i]?=some x/\cl.lookup x=some c/\X.env.scope.names.lookup x=some .cell/\(relabel scope X.env).names.lookup x=some .cell
theorem Ek {X:Cx} {scope:Scope} {cl:List (Str×Addr)} {Nc:List Str} {cap:List (Nat×Nat)} (clos:closureFor scope X.env=pure cl) (kind:scope.kind=.function) (names:∀y∈scope.names,y.2=.local->scope.names.lookup y.1=some .local) (nocell:∀y∈scope.names,y.2≠.cell)
  (subs:∀p∈cl,X.env.cells.lookup p.1=some p.2/\scope.names.lookup p.1=some .free) (hass:((relabel scope X.env).names.all λp=>(p.2 != .cell && p.2 != .free) || (cl.lookup p.1).isSome)=true)
  (caps:∀p∈cap,∃x c,Nc[p.1]?=some x/\X.N[p.2]?=some x/\cl.lookup x=some c/\X.env.scope.names.lookup x=some .cell/\(relabel scope X.env).names.lookup x=some .cell):Fi X scope cl Nc cap :=
 ⟨clos,kind,names,nocell,λx c e=>⟨(subs (x,c) (PySem.mem_of_lookup e)).1,λz=>by
  have:=(subs (x,c) (PySem.mem_of_lookup e)).2
  rw[z] at this;cases this⟩,λx e=>by
  have key:∀k,(relabel scope X.env).names.lookup x=some k->(k=.cell\/k=.free)->∃c,cl.lookup x=some c:=λk e hk=>by
   have:=List.all_eq_true.mp hass (x,k) (PySem.mem_of_lookup e)
   rcases hk with rfl | rfl
   ·exact Option.isSome_iff_exists.mp (by simpa using this)
   ·exact Option.isSome_iff_exists.mp (by simpa using this)
  rcases e with e | e
  ·exact key _ e (.inl rfl)
  ·exact key _ e (.inr rfl),λj i m=>caps (j,i) m⟩
def HW(n:Nat)(cap:List (Nat×Nat))(σ:St):St:=(List.range n).map λj=>((cap.find? λp=>p.1 == j).bind λp=>σ[p.2]?).bind id
theorem VW{n:Nat}{cap:List (Nat×Nat)}{σ:St}{j:Nat}{v:V}(h:(HW n cap σ)[j]?=some (some v)):∃i,(j,i)∈cap/\σ[i]?=some (some v):=by
 unfold HW at h;rw[List.getElem?_map] at h;cases e:(List.range n)[j]? with
 | none=>rw[e] at h; cases h
 | some k =>
  rw[e] at h;have hk:k=j:=by
   obtain⟨hl,q⟩:=List.getElem?_eq_some_iff.mp e;rw[List.getElem_range] at q;exact q.symm
  subst hk;simp only[Option.map_some,Option.some.injEq] at h;cases f:cap.find? λp=>p.1 == k with
  | none=>rw[f] at h; cases h
  | some p =>
   rw[f] at h;have h1:=List.mem_of_find?_eq_some f;have h2:p.1=k:=by
    have:=List.find?_some f
    exact eq_of_beq this
   refine⟨p.2,?_,?_⟩
   ·rw[<-h2]; exact h1
   ·simp only[Option.bind_some] at h;cases g:σ[p.2]? with
    | none=>rw[g] at h; cases h
    | some o=>rw[g] at h; simpa using h
section
variable {X:Cx} {pins:List (Addr×Obj)} {σ:St} {H:Hp} {s:Shared} {scope:Scope} {cl:List (Str×Addr)} {Nc:List Str} {cap:List (Nat×Nat)} {fp:List Addr}
theorem Wh (I:AL X pins σ H s) (hcalm:X.By=true) (S:Fi X scope cl Nc cap) (hfp:∀b∈fp,E6 X pins H b) (hob:∀b∈fp,∃o,s.heap.get? b=some o) {C:Addr} {h1:Heap} {m:Str->Option Value} {tk:Nat} (hC:s.heap.objs.size<=C)
  (hn:h1.Ns C m) (keep:∀b o,s.heap.get? b=some o->h1.get? b=some o):AL (Br X scope cl C Nc fp pins s H) [] (HW Nc.length cap σ) H { s with heap:=h1,toks:=tk }:=by
 have neC:∀b o,s.heap.get? b=some o->b≠C:=λb o e=>Nat.ne_of_lt (Nat.lt_of_lt_of_le (Heap.lt_size e) hC)
 refine⟨⟨I.ok.BY,S.kind,I.ok.FT,I.ok.Hi,hC,λx y c e1 e2=>?_,λx hx=>S.has x hx,λx c e1 e2=>?_,λ_=>I.ok.hd hcalm,I.ok.frames,.inl rfl,λb hb=>⟨?_,λx c e=>?_⟩,I.bs,Nat.le_trans I.ok.E9 I.sz,λb o e hb=>?_,λb hb z=>?_,I.stack,I.Kc⟩,
  rfl,I.bare,Un.CK keep,⟨m,hn,λj x v e1 e2 e3=>?_⟩,λx c e=>?_,I.hok.fresh hC,λx c e=>?_,λp hp=>?_,I.hok.CK keep,?_⟩
 ·exact I.ok.inj x y c (S.sub x c e1).1 (S.sub y c e2).1
 ·exact absurd (beq_iff_eq.mp e1) (S.sub x c e2).2
 ·obtain⟨o,e⟩:=hob b hb;exact neC b o e
 ·exact(hfp b hb).2.2.2.2.1 x c (S.sub x c e).1
 ·rcases(hfp b hb).2.2.2.1 with z | z
  ·exact I.ok.IU b o e z
  ·exact absurd (Nat.lt_of_lt_of_le (Heap.lt_size e) (Nat.le_trans I.ok.E9 z)) (Nat.lt_irrefl _)
 ·rcases List.mem_cons.mp (I.IA b z) with z | z
  ·exact(hfp b hb).2.1 z
  ·exact(hfp b hb).2.2.1 z
 ·obtain⟨i,hm,hv⟩:=VW e2;obtain⟨x',c,q1,q2,q3,q4,q5⟩:=S.caps j i hm;have e1':Nc[j]?=some x:=e1;rw[q1] at e1';cases e1';obtain⟨mo,_,hl⟩:=I.Cv;obtain⟨u,r,l⟩:=hl i x v q2 hv (.inr (.inl q4));refine⟨u,r,?_⟩;rcases l with ⟨k,_⟩ | ⟨_,c',e',z⟩
  ·have k':X.env.scope.names.lookup x=some .local:=k;rw[q4] at k';cases k'
  ·have:c'=c:=Option.some.inj (e'.symm.trans (S.sub x c q3).1)
   subst this;obtain⟨o,ho,hd⟩:=z;exact .inr ⟨.inl q5,c',q3,⟨o,keep _ _ ho,hd⟩⟩
 ·obtain⟨v,o,ho,hd⟩:=I.cell x c (S.sub x c e).1;exact⟨v,o,keep _ _ ho,hd⟩
 ·exact I.Dr x c (S.sub x c e).1
 ·have hp':p∈X.pn++pins:=by
   have z:p∈(X.pn++pins)++[]:=hp;rw[List.append_nil] at z;exact z
  obtain⟨e,n,ne,nf,d⟩:=I.Ct p hp';refine⟨keep _ _ e,n,neC _ _ e,λz=>?_,d⟩;rcases List.mem_cons.mp (I.IA p.1 z) with z | z
  ·exact ne z
  ·exact nf z
 ·show(HW Nc.length cap σ).length=Nc.length;unfold HW;rw[List.length_map,List.length_range]
theorem VC(I:AL X pins σ H s)(hfp:∀b∈fp,E6 X pins H b){C:Addr}{σc:St}{H':Hp}{s':Shared}{h':Heap}(J:AL (Br X scope cl C Nc fp pins s H) [] σc H' s')(hs:Heap.SameBut C s'.heap h'):AL X pins σ H' { s' with heap:=h' }:=by
 have hC:s.heap.objs.size<=C:=J.ok.above;have neC:∀b o,s.heap.get? b=some o->b≠C:=λb o e=>Nat.ne_of_lt (Nat.lt_of_lt_of_le (Heap.lt_size e) hC)
 have u:=J.base;refine I.NK (s':={ s' with heap:=h' }) (ch:=fp) J.os ⟨λb o e n hb hx=>?_,λb o e n hb hx=>?_,u.free,λb o e hx=>?_,u.tups,u.frzs,u.tbls⟩ (λb o e=>?_) J.bare λb hb=>⟨(hfp b hb).2.2.2.1,(hfp b hb).2.1,(hfp b hb).2.2.2.2.1,(hfp b hb).2.2.2.2.2⟩
 ·exact(hs.2 b (neC b o e)).trans (u.keep b o e n hb hx)
 ·obtain⟨sl,q⟩:=u.slot b o e n hb hx;exact⟨sl,(hs.2 b (neC b o e)).trans q⟩
 ·obtain⟨o',q⟩:=u.there b o e hx;exact⟨o',(hs.2 b (neC b o e)).trans q⟩
 ·refine(J.hok b o e).E4 (λc v hc q=>(hs.2 c ?_).trans q) (λ_ q=>q) λ_ _ q=>q
  intro z;subst z;have fr:H' c=none:=J.free;rcases hc with hc | hc
  ·rw[hc] at fr; rw[fr] at e; cases e
  ·rw[fr] at hc; cases hc
end
def JX(n:Nat)(cap:List (Nat×Nat))(wi:TI)(g:TG)(te:TE):TE:=λσ H Q=>wi σ H λJ H1=>∀acc,H1 acc=none →
 ∃W:Nat->Nat->List V->St->Hp->Prop,(∃m,W 0 m [] (HW n cap σ) (AK H1 acc (.AN [])))/\∀i m ys σc H2,W i m ys σc H2 →
  (J.stop i H2/\Q (.ref acc) H2)\/(J.go i H2/\∀x H3,J.EC i H2 x H3->g x σc H3 λσ4 H4=>te σ4 H4 λv H5=>H5 acc=some (.AN ys)/\ys.length<sizeLine/\∃m',m' < m/\W (i+1) m' (ys++[v]) σ4 (AK H5 acc (.AN (ys++[v]))))
def HR(n:Nat)(cap:List (Nat×Nat))(wi:TI)(g:TG)(tt:TT)(te:TE):TE:=λσ H Q=>wi σ H λJ H1=>∀acc,H1 acc=none →
 ∃W:Nat->Nat->List V->St->Hp->Prop,(∃m,W 0 m [] (HW n cap σ) (AK H1 acc (.AN [])))/\∀i m ys σc H2,W i m ys σc H2 →
  (J.stop i H2/\Q (.ref acc) H2)\/(J.go i H2/\∀x H3,J.EC i H2 x H3->g x σc H3 λσ4 H4=>tt σ4 H4 λok H5=>if ok=true then (te σ4 H5 λv H6=>H6 acc=some (.AN ys)/\ys.length<sizeLine/\∃m',m' < m/\W (i+1) m' (ys++[v]) σ4 (AK H6 acc (.AN (ys++[v])))) else ∃m',m' < m/\W (i+1) m' ys σ4 H5)
def Jx(X:Cx)(ifs:List PySem.Expr)(tt:TT):Prop:=∀(pins:List (Addr×Obj)) (s:Shared) (σ:St) (H:Hp) (Q:Bool->Hp->Prop),AL X pins σ H s->tt σ H Q →
 wpAny (model X.prog X.w) X.A (forIn ifs true λc r=>if r=true then do let ok <-isTrue c X.env (eval c X.env); pure (ForInStep.yield ok) else pure (ForInStep.yield r)) (λok s'=>∃H',AL X pins σ H' s'/\Q ok H') X.xe s
theorem QB{X:Cx}{c:PySem.Expr}{tt:TT}(h:PT X c tt):Jx X [c] tt:=λpins s σ H Q I q=>wpAny_tests_one (h pins s σ H Q I q)
theorem Qk{X:Cx}:Jx X [] (λ_ H Q=>Q true H):=λ_ _ _ H _ I q=>wpAny_tests_nil ⟨H,I,q⟩
section
variable {prog:Program} {w:World} {A:Around} {s:Shared}
theorem Tc {elt iter tg:PySem.Expr} {ifs:List PySem.Expr} {scope:Scope} {pos:Pos} {it acc:Value} {env:Env} {R:Result->Shared->Prop} (I:Nat->Shared->Prop)
  (turn:∀n s,I n s->wpAny (model prog w) A (pyNext it) (λr s₁=>match r with
   | none=>R (.ok .next) s₁
   | some v=>wpAny (model prog w) A (letOwnedTupleGo tg it v) (λ_ s₁'=>wpAny (model prog w) A (assign tg env v) (λ_ s₂ =>
     wpAny (model prog w) A (forIn ifs true λc r=>if r=true then do let ok <-isTrue c env (eval c env); pure (ForInStep.yield ok) else pure (ForInStep.yield r)) (λok s₃=>if ok=true then
      wpAny (model prog w) A (eval elt env) (λx s₄ =>
       wpAny (model prog w) A (call (.builtin "list.append") [acc,x]) (λ_ s₅=>∃m,m<n/\I m s₅) (λ_ _=>False) s₄) (λ_ _=>False) s₃
      else ∃m,m<n/\I m s₃) (λ_ _=>False) s₂)
     (λ_ _=>False) s₁') (λ_ _=>False) s₁) (notedBy (model prog w) A env λe s'=>R (.error e) s') s)
  (n:Nat) (h:I n s):codeAny (model prog w) A (.compLoop (.ListComp elt [⟨tg,iter,ifs,0⟩] scope pos) 0 it acc env) R s:=by
 refine codeAny_loop rfl I (λn s hI=>?_) n h;show wpAny _ A ((compTurn (.ListComp elt [⟨tg,iter,ifs,0⟩] scope pos) 0 it acc env).onRaise (λx=>do noteFrame x env; theTreesLotGoes x)) _ _ s;refine wpAny_noted ?_;rw[compTurn_list];refine wpAny_bind (wpAny_standAt (wpAny_bind (wpAny_mono (turn n s hI) (λr s₁ h₁=>?_) λ_ _ h'=>h')));cases r with
 | none=>exact wpAny_pure h₁
 | some v =>
  refine wpAny_bind (wpAny_mono h₁ (λ_ s₁' h₁'=>?_) λ_ _ h'=>False.elim h');refine wpAny_bind (wpAny_mono h₁' (λ_ s₂ h₂=>wpAny_bind (wpAny_mono h₂ (λok s₃ h₃=>?_) λ_ _ h'=>False.elim h')) λ_ _ h'=>False.elim h');cases ok with
  | false=>exact wpAny_pure ⟨rfl,h₃⟩
  | true =>
   exact wpAny_bind (wpAny_bind (wpAny_mono h₃ (λx s₄ h₄=>wpAny_bind (wpAny_mono h₄ (λ_ s₅ h₅=>wpAny_pure (wpAny_pure ⟨rfl,h₅⟩)) λ_ _ h'=>False.elim h')) λ_ _ h'=>False.elim h'))
end
section
variable {X:Cx} {elt iter tg:PySem.Expr} {ifs:List PySem.Expr} {pos:Pos} {scope:Scope} {cl:List (Str×Addr)} {Nc:List Str} {cap:List (Nat×Nat)} {wi:TI} {g:TG} {tt:TT} {te:TE}
theorem Ot {pins:List (Addr×Obj)} {s:Shared} {σ:St} {H:Hp} {Q:V->Hp->Prop} {pos':Pos} {use:Option (Value->Sem Unit)} {P:Value->Shared->Prop} (hc:X.By=true) (hi:PI X tg iter wi) (S:Fi X scope cl Nc cap)
  (hg:∀C fp pins s H,PG (Br X scope cl C Nc fp pins s H) tg g) (ht:∀C fp pins s H,Jx (Br X scope cl C Nc fp pins s H) ifs tt) (he:∀C fp pins s H,PE (Br X scope cl C Nc fp pins s H) elt te)
  (hs:∀y,foldedSetIterable iter X.env y=pure y) (I:AL X pins σ H s) (h:HR Nc.length cap wi g tt te σ H Q)
  (fin:∀(acc C:Addr) (H5:Hp) (s6:Shared) (m6:Str->Option Value),AL X pins σ H5 s6->E6 X pins H5 C->s6.heap.Ns C m6->Q (.ref acc) H5->compPost (model X.prog X.w) X.A X.xe use P (.ref acc) C (.ok .next) s6) :
  wpAny (model X.prog X.w) X.A (comprehension (.ListComp elt [⟨tg,iter,ifs,0⟩] scope pos) scope X.env pos' (newList []) false (eval iter X.env) use) P X.xe s:=by
 refine wpAny_comprehension_free (use:=use) (cl:=cl) rfl hs S.clos S.kind S.names ?_;refine Aa (hi pins s σ H _ I h) λv s1 h1=>Aa h1 λitv s2 h2=>?_
 obtain⟨it,fp,tn,J,H2,e,I2,T,st2,f2,rd⟩:=h2;subst e;refine wpAny_newObj_type ?_;have hacc:H2 s2.heap.objs.size=none:=I2.hok.fresh (Nat.le_refl _);obtain⟨W,⟨m0,w0⟩,turn⟩:=rd s2.heap.objs.size hacc;have I3:AL X pins σ (AK H2 s2.heap.objs.size (.AN [])) { s2 with heap:=s2.heap.push { cls:=.type "list",dict:=none,data:=.seq ([]:List Value).toArray } } :=
  I2.laid (t':=s2.toks) (λb u e=>Heap.get?_push_of_some _ e) (Nat.le_refl _) ⟨Nat.zero_le _,[],0,.nil,Heap.get?_push_size _ rfl⟩
 have st3:tn 0 (s2.heap.push { cls:=.type "list",dict:=none,data:=.seq ([]:List Value).toArray }):=T.keep _ _ _ st2 λb _ o e=>Heap.get?_push_of_some _ e
 have f3:∀b∈fp,E6 X pins (AK H2 s2.heap.objs.size (.AN [])) b:=λb hb=>by
  obtain⟨o,e,_⟩:=T.obj _ _ st2 b hb;refine⟨?_,(f2 b hb).2⟩;rw[An (Nat.ne_of_lt (Heap.lt_size e))];exact(f2 b hb).1
 generalize hh3:s2.heap.push { cls:=.type "list",dict:=none,data:=.seq ([]:List Value).toArray }=h3 at I3 st3 ⊢;generalize hH3:AK H2 s2.heap.objs.size (.AN [])=H3 at I3 f3 w0;generalize s2.heap.objs.size=acc at *;refine wpAny_newFunctionEnv S.nocell (by intro y hy; simp at hy) (λh4 hns hsb=>?_) S.kind;dsimp only at hns hsb ⊢;have keep:∀b o,h3.get? b=some o->h4.get? b=some o:=λb o e=>hsb.extBut b o (Nat.ne_of_lt (Heap.lt_size e)) (Heap.get?_push_of_some _ e)
 have f0:∀b∈fp,∃o,h3.get? b=some o:=λb hb=>by
  obtain⟨o,e,_⟩:=T.obj _ _ st3 b hb;exact⟨o,e⟩
 have I4:=Wh (tk:=s2.toks+([]:List (Str×Value)).length) I3 hc S f3 f0 (C:=h3.objs.size) (Nat.le_refl _) hns keep;have st4:tn 0 h4:=T.keep _ _ _ st3 λb _ o e=>keep b o e
 have stat:∀{H':Hp},(∀b∈fp,H' b=none)->∀b∈fp,E6 (Br X scope cl h3.objs.size Nc fp pins { s2 with heap:=h3 } H3) [] H' b:=λhn b hb=>by
  obtain⟨o,e⟩:=f0 b hb;refine⟨hn b hb,Nat.ne_of_lt (Heap.lt_size e),I4.ok.IL b hb,.inl hb,λx c q=>(f3 b hb).2.2.2.2.1 x c (S.sub x c q).1,λp hp=>?_⟩;have z:p∈(X.pn++pins)++[]:=hp;rw[List.append_nil] at z;exact(f3 b hb).2.2.2.2.2 p z
 have loop:codeAny (model X.prog X.w) X.A (.compLoop (.ListComp elt [⟨tg,iter,ifs,0⟩] scope pos) 0 (.ref it) (.ref acc) (compEnvC scope cl h3.objs.size X.env)) (compPost (model X.prog X.w) X.A X.xe use P (.ref acc) h3.objs.size)
   { s2 with heap:=h4,toks:=s2.toks+([]:List (Str×Value)).length }:=by
  refine Tc (λn s'=>∃i ys σ' H',AL (Br X scope cl h3.objs.size Nc fp pins { s2 with heap:=h3 } H3) [] σ' H' s'/\tn i s'.heap/\(∀b∈fp,H' b=none)/\W i n ys σ' H') ?_ m0 ⟨0,[],_,H3,I4,st4,λb hb=>(f3 b hb).1,w0⟩;rintro n s5 ⟨i,ys,σ5,H5,I5,st5,fr5,w5⟩;rcases turn i n ys σ5 H5 w5 with ⟨stop,qn⟩ | ⟨go,step⟩
  ·refine Aa (T.done (Br X scope cl h3.objs.size Nc fp pins { s2 with heap:=h3 } H3) rfl rfl rfl rfl i [] s5 σ5 H5 _ I5 (stat fr5) st5 stop) λr s6 ⟨hr,I6⟩=>?_
   subst hr;obtain⟨m6,hn6,_⟩:=id I6.Cv;exact fin acc _ H5 s6 m6 (VC (h':=s6.heap) I3 f3 I6 ⟨rfl,λ_ _=>rfl⟩) (I3.IP (Nat.le_refl _) I6.free) hn6 qn
  ·refine wpAny_mono (T.item (Br X scope cl h3.objs.size Nc fp pins { s2 with heap:=h3 } H3) rfl rfl rfl rfl i [] s5 σ5 H5 (λ_ _=>False) I5 (stat fr5) st5 go) (λr s6 ⟨u,hr,h6⟩=>?_) λ_ _ z=>False.elim z
   subst hr;refine Aa h6 λ_ s7 ⟨y,H7,I7,r7,y7,st7,fr7⟩=>?_
   have I7':=I7.RH (stat fr7) (T.obj _ _ st7);have kp:∀{σ8:St} {H8:Hp} {s8:Shared},AL (Br X scope cl h3.objs.size Nc fp pins { s2 with heap:=h3 } H3) ([]++JQ fp s7.heap) σ8 H8 s8->tn (i+1) s8.heap/\∀b∈fp,H8 b=none:=λ{σ8 H8 s8} I8 =>
    ⟨T.keep _ _ _ st7 λb hb o e=>(I8.Ct (b,o) (List.mem_append_right _ (List.mem_append_right _ (KA hb e)))).1,λb hb=>by
     obtain⟨o,e,d⟩:=T.obj _ _ st7 b hb;exact(I8.Ct (b,o) (List.mem_append_right _ (List.mem_append_right _ (KA hb e)))).2.1⟩
   refine Aa (hg _ _ _ _ _ _ s7 σ5 H7 y u _ I7' r7 (step y H7 y7)) λ_ s8 ⟨σ8,H8,I8,q8⟩=>?_
   refine Aa (ht _ _ _ _ _ _ s8 σ8 H8 _ I8 q8) λok s9 ⟨H9,I9,q9⟩=>?_
   cases ok with
   | false =>
    rw[if_neg Bool.false_ne_true] at q9 ⊢;obtain⟨m',hm,w'⟩:=q9;obtain⟨st9,fr9⟩:=kp I9;exact⟨m',hm,i+1,ys,σ8,H9,I9.Iq,st9,fr9,w'⟩
   | true =>
    rw[if_pos rfl] at q9 ⊢;refine Aa (he _ _ _ _ _ _ s9 σ8 H9 _ I9 q9) λw10 s10 ⟨v10,H10,I10,r10,e10,l10,m',hm,q10⟩=>?_
    refine Aa (VD _ s10 σ8 H10 (.ref acc) [v10] (.ref acc) [w10] (λ_ H11=>W (i+1) m' (ys++[v10]) σ8 H11) I10 rfl (.cons r10 .nil) ⟨acc,ys,v10,rfl,rfl,e10,l10,q10⟩) λ_ s11 ⟨_,H11,I11,_,q11⟩=>?_
    obtain⟨st11,fr11⟩:=kp I11;exact⟨m',hm,i+1,ys++[v10],σ8,H11,I11.Iq,st11,fr11,q11⟩
 exact codeAny_compStart_list loop (T.self _ 0 _ _ _ st4 loop)
theorem P1 (hc:X.By=true) (hi:PI X tg iter wi) (S:Fi X scope cl Nc cap)
  (hg:∀C fp pins s H,PG (Br X scope cl C Nc fp pins s H) tg g) (ht:∀C fp pins s H,Jx (Br X scope cl C Nc fp pins s H) ifs tt) (he:∀C fp pins s H,PE (Br X scope cl C Nc fp pins s H) elt te)
  (hs:∀y,foldedSetIterable iter X.env y=pure y:=by intro _; rfl):PE X (.ListComp elt [⟨tg,iter,ifs,0⟩] scope pos) (HR Nc.length cap wi g tt te):=by
 intro pins s σ H Q I h;rw[eval_ListComp];exact Ot (use:=none) hc hi S hg ht he hs I h λacc C H5 s6 m6 back fpC hn qn=>⟨m6,hn,λh7 hs7=>⟨.ref acc,H5,back.FN (t':=s6.toks) (λb o hb q=>(hs7.2 b hb).trans q) fpC.1 fpC.2.1 fpC.2.2.2.1 fpC.2.2.2.2.1 fpC.2.2.2.2.2,rfl,qn⟩⟩
theorem OS{n:Nat}:HR n cap wi g (λ_ H Q=>Q true H) te=JX n cap wi g te:=by
 unfold HR JX;simp only[if_true]
theorem Ht (hc:X.By=true) (hi:PI X tg iter wi) (S:Fi X scope cl Nc cap)
  (hg:∀C fp pins s H,PG (Br X scope cl C Nc fp pins s H) tg g) (he:∀C fp pins s H,PE (Br X scope cl C Nc fp pins s H) elt te)
  (hs:∀y,foldedSetIterable iter X.env y=pure y:=by intro _; rfl):PE X (.ListComp elt [⟨tg,iter,[],0⟩] scope pos) (JX Nc.length cap wi g te) :=
 OS ▸ P1 (ifs:=[]) (pos:=pos) hc hi S hg (λ_ _ _ _ _=>Qk) he hs
theorem Wk {ct:PySem.Expr} (hc:X.By=true) (hi:PI X tg iter wi) (S:Fi X scope cl Nc cap)
  (hg:∀C fp pins s H,PG (Br X scope cl C Nc fp pins s H) tg g) (ht:∀C fp pins s H,PT (Br X scope cl C Nc fp pins s H) ct tt) (he:∀C fp pins s H,PE (Br X scope cl C Nc fp pins s H) elt te)
  (hs:∀y,foldedSetIterable iter X.env y=pure y:=by intro _; rfl):PE X (.ListComp elt [⟨tg,iter,[ct],0⟩] scope pos) (HR Nc.length cap wi g tt te) :=
 P1 hc hi S hg (λC fp pins s H=>QB (ht C fp pins s H)) he hs
theorem ON {i:Nat} {y:Str} {py spos:Pos} (hN:X.N.Nodup) (hiN:X.N[i]?=some y) (hy:Hg X.env.scope y)
  (hc:X.By=true) (hi:PI X tg iter wi) (S:Fi X scope cl Nc cap)
  (hg:∀C fp pins s H,PG (Br X scope cl C Nc fp pins s H) tg g) (ht:∀C fp pins s H,Jx (Br X scope cl C Nc fp pins s H) ifs tt) (he:∀C fp pins s H,PE (Br X scope cl C Nc fp pins s H) elt te)
  (hsw:swapsWith (.ListComp elt [⟨tg,iter,ifs,0⟩] scope pos) (some (.Name y py)) spos.line X.env=pure true:=by rfl) (hs:∀z,foldedSetIterable iter X.env z=pure z:=by intro _; rfl)
  (hf:X.fn y=true\/X.env.scope.names.lookup y=some .local:=by first | exact .inl rfl | exact .inr rfl | assumption) :
  PS X (.Assign [.Name y py] (.ListComp elt [⟨tg,iter,ifs,0⟩] scope pos) spos) (Ib (HR Nc.length cap wi g tt te) (CW i)):=by
 intro pins s σ H D I h;rw[exec_Assign_Name_used _ _ _ _ hsw];refine wpAny_bind (wpAny_standAt (wpAny_bind ?_));show wpAny _ X.A (do let _ <-comprehension (.ListComp elt [⟨tg,iter,ifs,0⟩] scope pos) scope X.env _ (newList []) false (eval iter X.env) (some (assign (.Name y py) X.env))) _ _ s;refine wpAny_bind (wpAny_mono (Ot (use:=some (assign (.Name y py) X.env)) (P:=λ_ s'=>SP X pins D .next s') hc hi S hg ht he hs I h λacc C H5 s6 m6 back fpC hn6 qn=>?_) (λ_ s' hq=>wpAny_pure (wpAny_pure hq)) λ_ _ e=>e);show wpAny (model X.prog X.w) X.A (assign (.Name y py) X.env (.ref acc)) _ X.xe s6;refine wpAny_assign_Name (Ox (v:=.ref acc) back hN hiN hy rfl (λs7 I7 ⟨a7,sb7,e7⟩=>?_) hf);have nC:C≠a7:=by
  rcases e7 with e7 | e7
  ·rw[e7]; exact fpC.2.1
  ·exact Ne.symm (fpC.2.2.2.2.1 _ _ e7)
 refine⟨m6,hn6.sameBut sb7 nC,λh8 hs8=>⟨_,H5,?_,qn⟩⟩;exact I7.FN (t':=s7.toks) (λb o hb q=>(hs8.2 b hb).trans q) fpC.1 fpC.2.1 fpC.2.2.2.1 fpC.2.2.2.2.1 fpC.2.2.2.2.2
theorem Ti {ct:PySem.Expr} {i:Nat} {y:Str} {py spos:Pos} (hN:X.N.Nodup) (hiN:X.N[i]?=some y) (hy:Hg X.env.scope y)
  (hc:X.By=true) (hi:PI X tg iter wi) (S:Fi X scope cl Nc cap)
  (hg:∀C fp pins s H,PG (Br X scope cl C Nc fp pins s H) tg g) (ht:∀C fp pins s H,PT (Br X scope cl C Nc fp pins s H) ct tt) (he:∀C fp pins s H,PE (Br X scope cl C Nc fp pins s H) elt te)
  (hsw:swapsWith (.ListComp elt [⟨tg,iter,[ct],0⟩] scope pos) (some (.Name y py)) spos.line X.env=pure true:=by rfl) (hs:∀z,foldedSetIterable iter X.env z=pure z:=by intro _; rfl)
  (hf:X.fn y=true\/X.env.scope.names.lookup y=some .local:=by first | exact .inl rfl | exact .inr rfl | assumption) :
  PS X (.Assign [.Name y py] (.ListComp elt [⟨tg,iter,[ct],0⟩] scope pos) spos) (Ib (HR Nc.length cap wi g tt te) (CW i)) :=
 ON hN hiN hy hc hi S hg (λC fp pins s H=>QB (ht C fp pins s H)) he hsw hs hf
theorem MA {i:Nat} {y:Str} {py spos:Pos} (hN:X.N.Nodup) (hiN:X.N[i]?=some y) (hy:Hg X.env.scope y)
  (hc:X.By=true) (hi:PI X tg iter wi) (S:Fi X scope cl Nc cap)
  (hg:∀C fp pins s H,PG (Br X scope cl C Nc fp pins s H) tg g) (he:∀C fp pins s H,PE (Br X scope cl C Nc fp pins s H) elt te)
  (hsw:swapsWith (.ListComp elt [⟨tg,iter,[],0⟩] scope pos) (some (.Name y py)) spos.line X.env=pure true:=by rfl) (hs:∀z,foldedSetIterable iter X.env z=pure z:=by intro _; rfl)
  (hf:X.fn y=true\/X.env.scope.names.lookup y=some .local:=by first | exact .inl rfl | exact .inr rfl | assumption) :
  PS X (.Assign [.Name y py] (.ListComp elt [⟨tg,iter,[],0⟩] scope pos) spos) (Ib (JX Nc.length cap wi g te) (CW i)) :=
 OS ▸ ON (ifs:=[]) hN hiN hy hc hi S hg (λ_ _ _ _ _=>Qk) he hsw hs hf
end
section
variable {X:Cx}
def B3(i:Int):Prop:=i.natAbs<2 ^ 8000
theorem Qf{i:Int}(h:B3 i):i.natAbs.log2<8000:=by
 by_cases z:i.natAbs=0
 ·rw[z]; decide
 ·exact(Nat.log2_lt z).mpr h
theorem Pt{i:Int}(h:B3 i):Builtin.Int.intBits i<=8001:=by
 have:=Qf h
 unfold Builtin.Int.intBits;split <;> omega
def RU(i j:Int):Prop:=B3 i/\B3 j
theorem JD:BZ X (binaryOp .Mult) (rI RU λi j=>.int (i*j)):=Hh λ_ _ _ _ _ _ _ hc q=>mul_int q (IntMulOk.of_bits (Nat.le_trans (Pt hc.1) (by decide)) (Nat.le_trans (Pt hc.2) (by decide)))
def IG(_ j:Int):Prop:=j≠0/\B3 j
theorem Hn:BZ X (binaryOp .FloorDiv) (rI IG λi j=>.int (i.fdiv j)):=Hh λ_ _ _ _ _ _ _ hc q=>floordiv_int hc.1 q (.inl (PyProof.noPylong_of_log2 (by have:=Qf hc.2; omega)))
def Jf(K:PySem.W.Frag)(c:V)(cv:Value):List V->Hp->VK->Prop:=λxs H Q=>∃x t b,xs=[x,c]/\Dw K H x t/\PySem.W.kitOne K t cv=some b/\Q (.bl b) H
theorem KU{c:V}{cv:Value}(hc:∀u,Av c u->u=cv):Ck X (.builtin "isinstance") (Jf X.K c cv):=by
 intro pins s σ H xs us Q I r h;obtain⟨x,t,b,rfl,ty,e,q⟩:=h;obtain⟨u,w',rfl,r1,r2⟩:=JU r;cases hc w' r2;exact U8 I r1 ty e λtk=>⟨.bl b,H,I.DR _,rfl,q⟩
theorem Hm:bootBuiltins "isinstance" = some (.builtin "isinstance"):=by decide +kernel
theorem Qx:bootBuiltins "int" = some (.type "int"):=by decide +kernel
theorem Hr:bootBuiltins "tuple" = some (.type "tuple"):=by decide +kernel
theorem Cj:bootBuiltins "len" = some (.builtin "len"):=by decide +kernel
theorem YJ:bootBuiltins "abs" = some (.builtin "abs"):=by decide +kernel
theorem JT:bootBuiltins "max" = some (.builtin "max"):=by decide +kernel
theorem JM:bootBuiltins "min" = some (.builtin "min"):=by decide +kernel
end
section
variable {prog:Program} {w:World} {A:Around} {E:Value->Shared->Prop} {s:Shared}
theorem UR {c t:Addr} {k:Nat} {vs:Array Value} {y:Value} {Q:Value->Shared->Prop} (hc:s.heap.IsTupleIter c t k) (ht:s.heap.IsTuple t vs) (hy:vs[k]?=some y)
  (hQ:∀h',h'.IsTupleIter c t (k+1)->Heap.SameBut c s.heap h'->Q y { s with heap:=h' }):wpAny (model prog w) A (Builtin.SmallTypes.nextOf (.ref c)) Q E s:=by
 obtain⟨ob,e1,e2,e3⟩:=id hc;obtain⟨ot,f1,_,nt,f2⟩:=ht;unfold Builtin.SmallTypes.nextOf;refine wpAny_bind (wpAny_callSpecial?_slot (name:=Str.ofString "__next__") hc.typeIs PySem.F.slot_tuple_iterator_next (wpAny_call_entry PySem.F.slot_tuple_iterator_next hc.typeIs PySem.F.entry_tuple_iterator_next ?_ (PySem.F.args_tuple_iterator_next_1 _)));show wpAny _ _ (field (.ref c) 0 >>= _) _ _ s;refine wpAny_bind (wpAny_field e1 e3 (x:=.ref t) rfl ?_);show wpAny _ _ (if (Value.ref t == Value.none)=true then _ else _) _ _ _;rw[if_neg (show ¬((Value.ref t == Value.none)=true) by exact Bool.false_ne_true)];show wpAny _ _ (field (.ref c) 1 >>= _) _ _ s;refine wpAny_bind (wpAny_field e1 e3 (x:=.int k 0) rfl ?_);show wpAny _ _ (seqItems? (.ref t) >>= _) _ _ _;refine wpAny_bind (wpAny_seqItems f1 f2 ?_);simp only[Int.toNat_natCast,hy];refine wpAny_bind (wpAny_setField e1 e3 (by simp) (wpAny_pure ⟨y,rfl,wpAny_pure (hQ _ ?_ (Heap.SameBut.update ..))⟩));exact⟨_,Heap.get?_update_self _ e1 (Obj.isFreed_of_fields (Obj.data_mapFields e3 _)),(Obj.cls_mapFields ..).trans e2,by rw[Obj.data_mapFields e3]; simp[rawInt]⟩
theorem Ua {c t:Addr} {k:Nat} {vs:Array Value} {Q:Value->Shared->Prop} (hh:A.handled=none) (hc:s.heap.IsTupleIter c t k) (ht:s.heap.IsTuple t vs) (hy:vs[k]?=none)
  (hE:∀h' x,Heap.ExtBut c s.heap h'->(∃o,h'.get? x=some o/\o.cls=.type "StopIteration")->E (.ref x) { s with heap:=h' }):wpAny (model prog w) A (Builtin.SmallTypes.nextOf (.ref c)) Q E s:=by
 obtain⟨ob,e1,e2,e3⟩:=id hc;obtain⟨ot,f1,_,nt,f2⟩:=ht;unfold Builtin.SmallTypes.nextOf;refine wpAny_bind (wpAny_callSpecial?_slot (name:=Str.ofString "__next__") hc.typeIs PySem.F.slot_tuple_iterator_next (wpAny_call_entry PySem.F.slot_tuple_iterator_next hc.typeIs PySem.F.entry_tuple_iterator_next ?_ (PySem.F.args_tuple_iterator_next_1 _)));show wpAny _ _ (field (.ref c) 0 >>= _) _ _ s;refine wpAny_bind (wpAny_field e1 e3 (x:=.ref t) rfl ?_);show wpAny _ _ (if (Value.ref t == Value.none)=true then _ else _) _ _ _;rw[if_neg (show ¬((Value.ref t == Value.none)=true) by exact Bool.false_ne_true)];show wpAny _ _ (field (.ref c) 1 >>= _) _ _ s;refine wpAny_bind (wpAny_field e1 e3 (x:=.int k 0) rfl ?_);show wpAny _ _ (seqItems? (.ref t) >>= _) _ _ _;refine wpAny_bind (wpAny_seqItems f1 f2 ?_);simp only[Int.toNat_natCast,hy];refine wpAny_bind (wpAny_rule (wpAny_bind (wpAny_setField e1 e3 (by simp) ?_)));show wpAny _ _ (newExc (.type "StopIteration") [] >>= _) _ _ (_:Shared);refine wpAny_bind ?_;simp only[newExc,newTuple];refine wpAny_bind (wpAny_newObj_type ?_ (by size_fits)); refine wpAny_bind (m:=firstArgMember _ _) (wpAny_of_eq (a:=Value.none) (by first | rfl | (simp only[firstArgMember]; rfl)) ?_);refine wpAny_newObj_type ?_ (by size_fits); simp only[raiseNew];refine wpAny_bind (wpAny_handled ?_); first | rw[show A.in1.handled=none from hh] | rw[hh]
 refine wpAny_bind (wpAny_pure (wpAny_throw (hE _ _ (((Heap.SameBut.update ..).extBut.push _).push _) ⟨_,Heap.get?_push_size _ rfl,rfl⟩)))
theorem RI(hh:A.handled=none)(c t:Addr)(hne:t≠c)(vs:Array Value):
  Draws prog w A c [c,t] vs.size (λi v=>vs[i]?=some v) (λi h=>h.IsTupleIter c t i/\h.IsTuple t vs) where
 live:=λ_ _ st=>let ⟨o,ho,_⟩:=st.1; ⟨o,ho⟩
 frame:=λ_ _ _ st hk=>⟨let ⟨o,ho,r⟩:=st.1; ⟨o,hk c (by simp) o ho,r⟩,let ⟨o,ho,r⟩:=st.2; ⟨o,hk t (by simp) o ho,r⟩⟩
 item:=λi s' Q' E' hi st hQ=>UR st.1 st.2 (y:=vs[i]) (by simp[hi]) λh' k1 k2=>hQ _ h' s'.toks (by simp[hi]) ⟨k1,st.2.extBut k2.extBut hne⟩ k2
 done:=λs' Q' E' st hE=>Ua hh st.1 st.2 (by simp) hE
set_option maxHeartbeats 1000000 in
theorem Tt(t:Addr)(vs:Array Value)(n:Nat)(dct:Option Addr)(sl:Array (Option Value)):
  Meets (Builtin.«enumerate.__new__» ⟨[.type "enumerate",.ref t],[]⟩) (λ_ R s=>s.heap.get? t=some { cls:=.type "tuple",dict:=dct,data:=.seq vs n,slots:=sl } /\
   R (.ok (.ret (.ref (s.heap.push { cls:=.type "tuple_iterator",data:=.fields #[.ref t,.int 0 0] }).objs.size)))
    { s with heap:=(s.heap.push { cls:=.type "tuple_iterator",data:=.fields #[.ref t,.int 0 0] }).push { cls:=.type "enumerate",data:=.fields #[.none,.bool false,.ref s.heap.objs.size,rawInt 0,.none,.none] } }) :=
 .of_wp λprog w A R s h=>by
  obtain⟨hp,g,d,tk,os⟩:=s; obtain⟨ht,h⟩:=h;have hsub:=sub_enumerate;have hT:Heap.IsTuple (Shared.heap ⟨hp,g,d,tk,os⟩) t vs:=⟨_,ht,rfl,n,rfl⟩
  wp_walk using AutoSeq1.wpAny_loadPart' ht
  refine wpAny_stack_any λst=>wpAny_pure ?_
  split
  ·rename_i c _ _ _ _ _
   cases (c == Value.type "enumerate") <;> (wp_walk using AutoSeq1.wpAny_loadPart' ht,wpAny_pyIter_tuple hT; exact⟨_,rfl,h⟩)
  ·wp_walk using AutoSeq1.wpAny_loadPart' ht,wpAny_pyIter_tuple hT; exact⟨_,rfl,h⟩
theorem UI {t:Addr} {vs:Array Value} {Q:Value->Shared->Prop} (hT:s.heap.IsTuple t vs)
  (h:∀h',IsEnum h' (s.heap.objs.size+1) s.heap.objs.size 0 .none->h'.IsTupleIter s.heap.objs.size t 0->(∀b o,s.heap.get? b=some o->h'.get? b=some o)->Q (.ref (s.heap.objs.size+1)) { s with heap:=h' }) :
  wpAny (model prog w) A (call (.type "enumerate") [.ref t]) Q E s:=by
 obtain⟨⟨c,dct,dt,sl⟩,ht,hc,n,hd⟩:=hT;obtain rfl:c=.type "tuple":=hc;obtain rfl:dt=.seq vs n:=hd;refine callType_new PySem.F.called_enumerate (by decide) (PySem.F.typeCall_enumerate_1 _) (PySem.F.newCall_enumerate_1 _) (λobj=>PySem.F.args_object_init_2 obj _) PySem.F.entry_enumerate_new (Tt t vs n dct sl) ⟨ht,?_⟩;have z:(s.heap.push { cls:=.type "tuple_iterator",data:=.fields #[.ref t,.int 0 0] }).objs.size=s.heap.objs.size+1:=Heap.size_push ..;show _/\_;rw[z];have he:IsEnum ((s.heap.push { cls:=.type "tuple_iterator",data:=.fields #[.ref t,.int 0 0] }).push { cls:=.type "enumerate",data:=.fields #[.none,.bool false,.ref s.heap.objs.size,rawInt 0,.none,.none] }) (s.heap.objs.size+1) s.heap.objs.size 0 .none:=by
  have q:=Heap.get?_push_size (s.heap.push { cls:=.type "tuple_iterator",data:=.fields #[.ref t,.int 0 0] }) (o:={ cls:=.type "enumerate",data:=.fields #[.none,.bool false,.ref s.heap.objs.size,rawInt 0,.none,.none] }) rfl;rw[z] at q;exact q
 exact⟨⟨_,he,rfl⟩,h _ he ⟨_,Heap.get?_push_of_some _ (Heap.get?_push_size _ rfl),rfl,rfl⟩ λb o q=>Heap.get?_push_of_some _ (Heap.get?_push_of_some _ q)⟩
end
section
variable {X:Cx}
def J8(a : Addr): It :=
  ⟨λi H => ∃xs x, H a = some (.AH xs) /\ xs[i]? = some x,
   λi H v H' => ∃p x, v = .ref p /\ H p = none /\ H' = AK H p (.AH [.int i, x]) /\ ∀xs, H a = some (.AH xs) → xs[i]? = some x,
   λi H => ∃xs, H a = some (.AH xs) /\ xs.length = i⟩
theorem VN{P:Program}{w:World}{K:PySem.W.Frag}{es:List PySem.Expr}{kk:Nat}{pos:Pos}{a e it:Addr}(hei:e≠it):
  IW P w K (.Tuple es kk pos) (J8 a) [e,it] e (λi h=>(∃old,IsEnum h e it ((i:Nat):Int) old)/\h.IsTupleIter it a i) where
 mem:=by simp
 obj:=λi h st c hc=>by
  obtain⟨⟨old,h1⟩,o2,h2,_,d2⟩:=st;simp only[List.mem_cons,List.not_mem_nil,or_false] at hc;rcases hc with rfl | rfl
  ·exact⟨_,h1,λv z=>by have z':Data.fields _=Data.cell v:=z; cases z'⟩
  ·exact⟨_,h2,λv z=>by rw[d2] at z; cases z⟩
 keep:=λi h h' st k=>by
  obtain⟨⟨old,h1⟩,o2,h2,r⟩:=st;exact⟨⟨old,k e (by simp) _ h1⟩,o2,k it (by simp) _ h2,r⟩
 item:=by
  intro X hP hw hK hc i pins s σ H E I hf st hg;subst hP hw hK;obtain⟨xs,x,qa,hx⟩:=hg;obtain⟨its,rv,pa,_⟩:=I.tuple (AJ.of (K:=X.K) qa);obtain⟨ux,hux,rx⟩:=rv.get hx;obtain⟨⟨old,h1⟩,h2⟩:=st;have nea:e≠a:=λz=>by
   have:=(hf e (by simp)).1
   rw[z,qa] at this;cases this
  have nia:a≠it:=λz=>by
   have:=(hf it (by simp)).1
   rw[<-z,qa] at this;cases this
  have hlt:i<its.toArray.size:=by
   rw[List.size_toArray];exact(List.getElem?_eq_some_iff.mp hux).1
  have D:Draws X.prog X.w X.A.in1 it [it,a] its.toArray.size (λi v=>its.toArray[i]?=some v) (λi h=>h.IsTupleIter it a i/\h.IsTuple a its.toArray):=RI (show X.A.in1.handled=none from I.ok.hd hc) it a nia its.toArray;refine wpAny_pyNext_enum_itemD D h1 ⟨h2,pa⟩ hlt hei (by simp[hei,nea]) λy h' tk hy a1 a2 a3 a4 k=>?_
  have hyx:y=ux:=by
   have q1:its.toArray[i]?=some y:=hy;rw[List.getElem?_toArray,hux] at q1;exact(Option.some.inj q1).symm
  subst hyx;refine⟨_,rfl,wpAny_letOwnedTupleGo_enum a1 λh'' b1 sb=>?_⟩;have sb:Heap.SameBut e h' h'':=sb;have hse:s.heap.objs.size≠e:=Nat.ne_of_gt (Heap.lt_size h1);have hsi:s.heap.objs.size≠it:=by
   obtain⟨o,g,_⟩:=id h2;exact Nat.ne_of_gt (Heap.lt_size g)
  have hn:H s.heap.objs.size=none:=I.hok.fresh (Nat.le_refl _);have kk':∀c o,c∉[e,it]->s.heap.get? c=some o->h''.get? c=some o:=λc o hc q =>
   (sb.2 c λz=>hc (by simp[z])).trans (k c o (λz=>hc (by simp[z])) (λz=>hc (by simp[z])) q)
  have tO:h''.get? s.heap.objs.size=some { cls:=.type "tuple",data:=.seq #[.int i tk,y] }:=(sb.2 _ hse).trans a3;have nt:∀c u,H c=some u->c∉[e,it]:=λc u q hc=>by
   have:=(hf c hc).1
   rw[q] at this;cases this
  have tupOk:BR X.prog X.w (AK H s.heap.objs.size (.AH [.int i,x])) h'' s.heap.objs.size (.AH [.int i,x]) :=
   ⟨by exact sz2,[.int i tk,y],.cons ⟨tk,rfl⟩ (.cons rx .nil),⟨_,tO,rfl,_,rfl⟩,_,tO,rfl⟩
  have I1:AL X pins σ (AK H s.heap.objs.size (.AH [.int i,x])) { s with heap:=h'',toks:=tk+1 }:=by
   refine I.step (g':=s.gens) (d':=s.drawn) (t':=tk+1) (ch:=[e,it]) (λc hc=>⟨(hf c hc).2.2.2.1,(hf c hc).2.1,(hf c hc).2.2.2.2.1,(hf c hc).2.2.2.2.2⟩) (λc o _ _ hc q _=>kk' c o hc q) (λc o _ _ hc q _=>⟨o.slots,kk' c o hc q⟩)
    (λc o _ q n=>by rw[An (Nat.ne_of_lt (Heap.lt_size q))]; exact n) (λc o hc q=>⟨o,kk' c o hc q⟩) (λc vs q=>by rw[An (A5 q hn)]; exact q) (λc o vs q=>by rw[An (A5 q hn)]; exact q)
    (λc ps q=>⟨#[],by rw[An (A5 q hn),q]; simp⟩) (λm hm=>?_) (λc o q=>?_) I.bare
   ·obtain⟨o,es',ep,ho,r⟩:=hm;exact⟨o,es',ep,kk' _ o (λq=>(hf _ q).2.1 rfl) ho,r⟩
   ·by_cases hcs:c=s.heap.objs.size
    ·subst hcs;rw[AX] at q;cases q;exact tupOk
    ·rw[An hcs] at q;refine(I.hok c o q).E4 (λd v hd z=>kk' d v ?_ z) (λd z=>by rw[An (A5 z hn)]; exact z) λd vs z=>by rw[An (A5 z hn)]; exact z
     rcases hd with hd | hd
     ·rw[hd]; exact nt c o q
     ·exact nt d _ hd
  have g2:h''.IsTupleIter it a (i+1):=by
   obtain⟨⟨o,g,r⟩,_⟩:=a2;exact⟨o,(sb.2 _ (Ne.symm hei)).trans g,r⟩
  have g1:IsEnum h'' e it (((i+1:Nat)):Int) y:=by
   have:((i+1:Nat):Int)=(i:Int)+1:=by omega
   rw[this];exact b1
  exact⟨.ref s.heap.objs.size,_,I1,rfl,⟨_,x,rfl,hn,rfl,λxs' q=>by rw[qa] at q; cases q; exact hx⟩,⟨⟨_,g1⟩,g2⟩,λc hc=>by
   have:c≠s.heap.objs.size:=by
    simp only[List.mem_cons,List.not_mem_nil,or_false] at hc;rcases hc with rfl | rfl
    ·exact Ne.symm hse
    ·exact Ne.symm hsi
   rw[An this];exact(hf c hc).1⟩
 done:=by
  intro X hP hw hK hc i pins s σ H E I hf st hg;subst hP hw hK;obtain⟨xs,qa,hl⟩:=hg;obtain⟨its,rv,pa,_⟩:=I.tuple (AJ.of (K:=X.K) qa);obtain⟨⟨old,h1⟩,h2⟩:=st;have nia:a≠it:=λz=>by
   have:=(hf it (by simp)).1
   rw[<-z,qa] at this;cases this
  have D:Draws X.prog X.w X.A.in1 it [it,a] its.toArray.size (λi v=>its.toArray[i]?=some v) (λi h=>h.IsTupleIter it a i/\h.IsTuple a its.toArray):=RI (show X.A.in1.handled=none from I.ok.hd hc) it a nia its.toArray;have hi:its.toArray.size=i:=by
   rw[List.size_toArray,<-rv.length];exact hl
  obtain⟨f0,f1,f2,f3,f4,f5⟩:=hf it (by simp);refine wpAny_pyNext_enum_endD D h1 (by rw[hi]; exact⟨h2,pa⟩) λh' k=>⟨rfl,I.FN (t':=s.toks) (λb o hb q=>k b o hb q) f0 f1 f3 f4 f5⟩
 self:=λ_ _ _ _ _ st h=>by
  obtain⟨⟨old,h1⟩,_⟩:=st;exact wpAny_pyIter_enum h1 h
def Za(ta:TA):TI:=λσ H R=>ta σ H λvs H1=>∃a xs,vs=[.ref a]/\H1 a=some (.AH xs)/\R (J8 a) H1
theorem XY{es:List PySem.Expr}{kk:Nat}{tpos:Pos}{a:PySem.Expr}{ta:TA}{p pos:Pos}(hg:Gl X "enumerate")(hm:X.mg "enumerate" = none)(ha:PA X [a] ta)(hs:starEach [a] X.env=[(false,eval a X.env)]:=by rfl):
  PI X (.Tuple es kk tpos) (.Call (.Name "enumerate" p) [a] [] pos) (Za ta):=by
 intro pins s σ H R I h;refine Call_ (IB I hg hm PyProof.Rows.boot_enumerate (PyProof.Rows.callWith_type1 (Aa (ha pos pins s σ H _ I h) λus s1 ⟨vs,H1,I1,r1,q1⟩=>?_) hs rfl));obtain⟨la,xs,e,qa,q⟩:=q1;subst e;obtain⟨u1,rfl,ra⟩:=Eu r1;cases ra;obtain⟨its,rv,pa,_⟩:=I1.tuple (AJ.of (K:=X.K) qa);refine UI pa λh' z1 z2 zk=>wpAny_pyIter_enum z1 ?_
 have I2:AL X pins σ H1 { s1 with heap:=h' }:=I1.CK (t':=s1.toks) zk;refine⟨s1.heap.objs.size+1,_,_,_,H1,rfl,I2,VN (Nat.succ_ne_self _),⟨⟨_,z1⟩,z2⟩,λc hc=>?_,q⟩;have hge:s1.heap.objs.size<=c:=by
  simp only[List.mem_cons,List.not_mem_nil,or_false] at hc;rcases hc with rfl | rfl <;> omega
 exact I1.IP (H':=H1) hge (I1.hok.fresh hge)
theorem V2 {a:Addr} {xs:List V} {g:TG} {tb:TS} {D:C5} {σ:St} {H:Hp} (Pv:Nat->St->Hp->Prop) (h0:Pv 0 σ H) (hl:∀i σ H,i<=xs.length->Pv i σ H->H a=some (.AH xs))
  (hs:∀i x σ H p,xs[i]?=some x->Pv i σ H->H p=none->g (.ref p) σ (AK H p (.AH [.int i,x])) λσ2 H2=>tb { D with nx:=Pv (i+1),ct:=Pv (i+1),bk:=D.nx } σ2 H2) (hd:∀σ H,Pv xs.length σ H->D.nx σ H) :
  ∃W:Nat->Nat->St->Hp->Prop,(∃m,W 0 m σ H)/\∀i m σ H,W i m σ H →
   ((J8 a).stop i H/\D.nx σ H)\/((J8 a).go i H/\∃N:St->Hp->Prop,(∀σ' H',N σ' H'->∃m',m' < m/\W (i+1) m' σ' H')/\∀x H',(J8 a).EC i H x H'->g x σ H' λσ2 H2=>tb { D with nx:=N,ct:=N,bk:=D.nx } σ2 H2):=by
 refine⟨λi m σ H=>m=xs.length-i/\i<=xs.length/\Pv i σ H,⟨xs.length,by simp,Nat.zero_le _,h0⟩,?_⟩;rintro i m σ H ⟨rfl,hi,p⟩;have qa:=hl i σ H hi p;rcases Nat.lt_or_ge i xs.length with hlt | hge
 ·refine .inr ⟨⟨xs,xs[i],qa,by simp[hlt]⟩,Pv (i+1),λσ' H' p'=>⟨xs.length-(i+1),by omega,rfl,hlt,p'⟩,λv H' yl=>?_⟩;obtain⟨pa,x,rfl,hp,rfl,hx⟩:=yl;exact hs i x σ H pa (hx xs qa) p hp
 ·obtain rfl:i=xs.length:=by omega
  exact .inl ⟨⟨xs,qa,rfl⟩,hd σ H p⟩
def XR:V->List V->Hp->VK->Prop:=λx vs H Q=>∃l xs k y,x=.ref l/\vs=[.int k,y]/\H l=some (.AN xs)/\0<=k/\k<=xs.length/\xs.length<1000000/\Q .Ay (AK H l (.AN (xs.take k.toNat++y :: xs.drop k.toNat)))
theorem Uh:Jt X "list.insert" XR:=by
 intro pins s σ H x vs v us Q I rx rv h;obtain⟨l,xs,k,y,rfl,rfl,hH,k0,k1,hz,q⟩:=h;cases rx;obtain⟨u1,u2,rfl,r1,r2⟩:=JU rv;obtain⟨t,rfl⟩:=r1;obtain⟨z,its,n,r,hl,e⟩:=I.Gn hH;have hzs:its.length<=sizeLine:=by rw[<-hl]; exact z
 have hfit:¬(!Builtin.List.listFitsIndex k)=true:=by
  unfold Builtin.List.listFitsIndex;simp only[Bool.not_eq_true,Bool.not_eq_false',Bool.and_eq_true,decide_eq_true_eq];omega
 refine call_meets PySem.F.slot_list_insert ⟨_,e,rfl⟩ PySem.F.entry_list_insert (PySem.F.args_list_insert_3 _ _ _) (AutoSeq1.list_insert_list_int_val_1 l its.toArray n k t u2 hfit (by rw[List.size_toArray]; exact hzs)) ⟨e,?_⟩;refine⟨.Ay,_,I.lset (its':=its.take k.toNat++u2 :: its.drop k.toNat) hH e ?_ ((r.take _).FO (.cons r2 (r.drop _))) ?_,rfl,q⟩
 ·have hk:¬k<0:=by omega
  have hm:min k.toNat its.toArray.size=k.toNat:=by rw[List.size_toArray]; omega
  simp only[if_neg hk,hm];apply Array.toList_inj.mp;simp;exact List.take_of_length_le (by simp)
 ·rw[List.length_append,List.length_cons,List.length_take,List.length_drop];rw[sizeLine_eq] at *;omega
end
section
variable {X:Cx}
def Jd(a : Addr): It :=
  ⟨λi H => ∃xs x, H a = some (.AN xs) /\ xs[i]? = some x,
   λi H v H' => ∃p x, v = .ref p /\ H p = none /\ H' = AK H p (.AH [.int i, x]) /\ ∀xs, H a = some (.AN xs) → xs[i]? = some x,
   λi H => ∃xs, H a = some (.AN xs) /\ xs.length = i⟩
theorem UP{P:Program}{w:World}{K:PySem.W.Frag}{es:List PySem.Expr}{kk:Nat}{pos:Pos}{a e it:Addr}(hei:e≠it):
  IW P w K (.Tuple es kk pos) (Jd a) [e,it] e (λi h=>(∃old,IsEnum h e it ((i:Nat):Int) old)/\h.IsListIter it a i) where
 mem:=by simp
 obj:=λi h st c hc=>by
  obtain⟨⟨old,h1⟩,o2,h2,_,d2⟩:=st;simp only[List.mem_cons,List.not_mem_nil,or_false] at hc;rcases hc with rfl | rfl
  ·exact⟨_,h1,λv z=>by have z':Data.fields _=Data.cell v:=z; cases z'⟩
  ·exact⟨_,h2,λv z=>by rw[d2] at z; cases z⟩
 keep:=λi h h' st k=>by
  obtain⟨⟨old,h1⟩,o2,h2,r⟩:=st;exact⟨⟨old,k e (by simp) _ h1⟩,o2,k it (by simp) _ h2,r⟩
 item:=by
  intro X hP hw hK hc i pins s σ H E I hf st hg;subst hP hw hK;obtain⟨xs,x,qa,hx⟩:=hg;obtain⟨its,rv,pa,_⟩:=I.list (AS.of (K:=X.K) qa);obtain⟨ux,hux,rx⟩:=rv.get hx;obtain⟨⟨old,h1⟩,h2⟩:=st;have nea:e≠a:=λz=>by
   have:=(hf e (by simp)).1
   rw[z,qa] at this;cases this
  have nia:a≠it:=λz=>by
   have:=(hf it (by simp)).1
   rw[<-z,qa] at this;cases this
  have hlt:i<its.toArray.size:=by
   rw[List.size_toArray];exact(List.getElem?_eq_some_iff.mp hux).1
  have D:Draws X.prog X.w X.A.in1 it [it,a] its.toArray.size (λi v=>its.toArray[i]?=some v) (λi h=>h.IsListIter it a i/\h.IsList a its.toArray):=Draws.list (show X.A.in1.handled=none from I.ok.hd hc) it a nia its.toArray;refine wpAny_pyNext_enum_itemD D h1 ⟨h2,pa.isList⟩ hlt hei (by simp[hei,nea]) λy h' tk hy a1 a2 a3 a4 k=>?_
  have hyx:y=ux:=by
   have q1:its.toArray[i]?=some y:=hy;rw[List.getElem?_toArray,hux] at q1;exact(Option.some.inj q1).symm
  subst hyx;refine⟨_,rfl,wpAny_letOwnedTupleGo_enum a1 λh'' b1 sb=>?_⟩;have sb:Heap.SameBut e h' h'':=sb;have hse:s.heap.objs.size≠e:=Nat.ne_of_gt (Heap.lt_size h1);have hsi:s.heap.objs.size≠it:=by
   obtain⟨o,g,_⟩:=id h2;exact Nat.ne_of_gt (Heap.lt_size g)
  have hn:H s.heap.objs.size=none:=I.hok.fresh (Nat.le_refl _);have kk':∀c o,c∉[e,it]->s.heap.get? c=some o->h''.get? c=some o:=λc o hc q =>
   (sb.2 c λz=>hc (by simp[z])).trans (k c o (λz=>hc (by simp[z])) (λz=>hc (by simp[z])) q)
  have tO:h''.get? s.heap.objs.size=some { cls:=.type "tuple",data:=.seq #[.int i tk,y] }:=(sb.2 _ hse).trans a3;have nt:∀c u,H c=some u->c∉[e,it]:=λc u q hc=>by
   have:=(hf c hc).1
   rw[q] at this;cases this
  have tupOk:BR X.prog X.w (AK H s.heap.objs.size (.AH [.int i,x])) h'' s.heap.objs.size (.AH [.int i,x]) :=
   ⟨by exact sz2,[.int i tk,y],.cons ⟨tk,rfl⟩ (.cons rx .nil),⟨_,tO,rfl,_,rfl⟩,_,tO,rfl⟩
  have I1:AL X pins σ (AK H s.heap.objs.size (.AH [.int i,x])) { s with heap:=h'',toks:=tk+1 }:=by
   refine I.step (g':=s.gens) (d':=s.drawn) (t':=tk+1) (ch:=[e,it]) (λc hc=>⟨(hf c hc).2.2.2.1,(hf c hc).2.1,(hf c hc).2.2.2.2.1,(hf c hc).2.2.2.2.2⟩) (λc o _ _ hc q _=>kk' c o hc q) (λc o _ _ hc q _=>⟨o.slots,kk' c o hc q⟩)
    (λc o _ q n=>by rw[An (Nat.ne_of_lt (Heap.lt_size q))]; exact n) (λc o hc q=>⟨o,kk' c o hc q⟩) (λc vs q=>by rw[An (A5 q hn)]; exact q) (λc o vs q=>by rw[An (A5 q hn)]; exact q)
    (λc ps q=>⟨#[],by rw[An (A5 q hn),q]; simp⟩) (λm hm=>?_) (λc o q=>?_) I.bare
   ·obtain⟨o,es',ep,ho,r⟩:=hm;exact⟨o,es',ep,kk' _ o (λq=>(hf _ q).2.1 rfl) ho,r⟩
   ·by_cases hcs:c=s.heap.objs.size
    ·subst hcs;rw[AX] at q;cases q;exact tupOk
    ·rw[An hcs] at q;refine(I.hok c o q).E4 (λd v hd z=>kk' d v ?_ z) (λd z=>by rw[An (A5 z hn)]; exact z) λd vs z=>by rw[An (A5 z hn)]; exact z
     rcases hd with hd | hd
     ·rw[hd]; exact nt c o q
     ·exact nt d _ hd
  have g2:h''.IsListIter it a (i+1):=by
   obtain⟨⟨o,g,r⟩,_⟩:=a2;exact⟨o,(sb.2 _ (Ne.symm hei)).trans g,r⟩
  have g1:IsEnum h'' e it (((i+1:Nat)):Int) y:=by
   have:((i+1:Nat):Int)=(i:Int)+1:=by omega
   rw[this];exact b1
  exact⟨.ref s.heap.objs.size,_,I1,rfl,⟨_,x,rfl,hn,rfl,λxs' q=>by rw[qa] at q; cases q; exact hx⟩,⟨⟨_,g1⟩,g2⟩,λc hc=>by
   have:c≠s.heap.objs.size:=by
    simp only[List.mem_cons,List.not_mem_nil,or_false] at hc;rcases hc with rfl | rfl
    ·exact Ne.symm hse
    ·exact Ne.symm hsi
   rw[An this];exact(hf c hc).1⟩
 done:=by
  intro X hP hw hK hc i pins s σ H E I hf st hg;subst hP hw hK;obtain⟨xs,qa,hl⟩:=hg;obtain⟨its,rv,pa,_⟩:=I.list (AS.of (K:=X.K) qa);obtain⟨⟨old,h1⟩,h2⟩:=st;have nia:a≠it:=λz=>by
   have:=(hf it (by simp)).1
   rw[<-z,qa] at this;cases this
  have D:Draws X.prog X.w X.A.in1 it [it,a] its.toArray.size (λi v=>its.toArray[i]?=some v) (λi h=>h.IsListIter it a i/\h.IsList a its.toArray):=Draws.list (show X.A.in1.handled=none from I.ok.hd hc) it a nia its.toArray;have hi:its.toArray.size=i:=by
   rw[List.size_toArray,<-rv.length];exact hl
  obtain⟨f0,f1,f2,f3,f4,f5⟩:=hf it (by simp);refine wpAny_pyNext_enum_endD D h1 (by rw[hi]; exact⟨h2,pa.isList⟩) λh' k=>⟨rfl,I.FN (t':=s.toks) (λb o hb q=>k b o hb q) f0 f1 f3 f4 f5⟩
 self:=λ_ _ _ _ _ st h=>by
  obtain⟨⟨old,h1⟩,_⟩:=st;exact wpAny_pyIter_enum h1 h
def Yb(ta:TA):TI:=λσ H R=>ta σ H λvs H1=>∃a xs,vs=[.ref a]/\H1 a=some (.AN xs)/\R (Jd a) H1
theorem KS{es:List PySem.Expr}{kk:Nat}{tpos:Pos}{a:PySem.Expr}{ta:TA}{p pos:Pos}(hg:Gl X "enumerate")(hm:X.mg "enumerate" = none)(ha:PA X [a] ta)(hs:starEach [a] X.env=[(false,eval a X.env)]:=by rfl):
  PI X (.Tuple es kk tpos) (.Call (.Name "enumerate" p) [a] [] pos) (Yb ta):=by
 intro pins s σ H R I h;refine Call_ (IB I hg hm PyProof.Rows.boot_enumerate (PyProof.Rows.callWith_type1 (Aa (ha pos pins s σ H _ I h) λus s1 ⟨vs,H1,I1,r1,q1⟩=>?_) hs rfl));obtain⟨la,xs,e,qa,q⟩:=q1;subst e;obtain⟨u1,rfl,ra⟩:=Eu r1;cases ra;obtain⟨its,rv,pa,_⟩:=I1.list (AS.of (K:=X.K) qa);refine call_enumerate_list pa.isList λh' z1 z2 _ zk=>wpAny_pyIter_enum z1 ?_
 have I2:AL X pins σ H1 { s1 with heap:=h' }:=I1.CK (t':=s1.toks) zk;refine⟨s1.heap.objs.size+1,_,_,_,H1,rfl,I2,UP (Nat.succ_ne_self _),⟨⟨_,z1⟩,z2⟩,λc hc=>?_,q⟩;have hge:s1.heap.objs.size<=c:=by
  simp only[List.mem_cons,List.not_mem_nil,or_false] at hc;rcases hc with rfl | rfl <;> omega
 exact I1.IP (H':=H1) hge (I1.hok.fresh hge)
theorem KH {a:Addr} {xs:List V} {g:TG} {tb:TS} {D:C5} {σ:St} {H:Hp} (Pv:Nat->St->Hp->Prop) (h0:Pv 0 σ H) (hl:∀i σ H,i<=xs.length->Pv i σ H->H a=some (.AN xs))
  (hs:∀i x σ H p,xs[i]?=some x->Pv i σ H->H p=none->g (.ref p) σ (AK H p (.AH [.int i,x])) λσ2 H2=>tb { D with nx:=Pv (i+1),ct:=Pv (i+1),bk:=D.nx } σ2 H2) (hd:∀σ H,Pv xs.length σ H->D.nx σ H) :
  ∃W:Nat->Nat->St->Hp->Prop,(∃m,W 0 m σ H)/\∀i m σ H,W i m σ H →
   ((Jd a).stop i H/\D.nx σ H)\/((Jd a).go i H/\∃N:St->Hp->Prop,(∀σ' H',N σ' H'->∃m',m' < m/\W (i+1) m' σ' H')/\∀x H',(Jd a).EC i H x H'->g x σ H' λσ2 H2=>tb { D with nx:=N,ct:=N,bk:=D.nx } σ2 H2):=by
 refine⟨λi m σ H=>m=xs.length-i/\i<=xs.length/\Pv i σ H,⟨xs.length,by simp,Nat.zero_le _,h0⟩,?_⟩;rintro i m σ H ⟨rfl,hi,p⟩;have qa:=hl i σ H hi p;rcases Nat.lt_or_ge i xs.length with hlt | hge
 ·refine .inr ⟨⟨xs,xs[i],qa,by simp[hlt]⟩,Pv (i+1),λσ' H' p'=>⟨xs.length-(i+1),by omega,rfl,hlt,p'⟩,λv H' yl=>?_⟩;obtain⟨pa,x,rfl,hp,rfl,hx⟩:=yl;exact hs i x σ H pa (hx xs qa) p hp
 ·obtain rfl:i=xs.length:=by omega
  exact .inl ⟨⟨xs,qa,rfl⟩,hd σ H p⟩
variable {a:Addr} {xs:List V} {g:TG} {tb:TS} {D:C5} {σ:St} {H:Hp}
theorem HU {X:Cx} (K:PySem.W.Frag) {o e:PySem.Expr} {es:List PySem.Expr} {to:TE} {t:TA} {name:Str} {apos cpos:Pos} {T id:String} {r:V->List V->Hp->VK->Prop} (pa:PlainAttrs T) (slot:Slot T name id) (hty:typeOf (.builtin id)=pure (.type "method_descriptor")) (hm:Sv X id r) (ho:PE X o to) (ha:PA X (e :: es) t)
  (hbase:attributeBase o name X.env (eval o X.env)=eval o X.env:=by rfl)
  (hfew:((backTo cpos (starEach (e :: es) X.env)).all (λx=>!x.1) && (backToKw cpos (keywordEach [] X.env)).all (λx=>x.1.isSome) && decide ((e :: es).length+([]:List Keyword).length+(if ([]:List Keyword).isEmpty then 0 else 1)<30))=true:=by rfl)
  (hline:(apos.endLine == cpos.line)=true:=by rfl) (hs:starEach (e :: es) X.env=(false,eval e X.env) :: starEach es X.env:=by rfl) (hplain:(backTo cpos (starEach es X.env)).any (·.1)=false:=by rfl) (hK:X.K=K:=by rfl) :
  PE X (.Call (.Attribute o name apos) (e :: es) [] cpos) (TB K T r to t):=by
 subst hK;exact Y9 pa slot hty hm ho ha hbase hfew hline hs hplain
def HC(t:Bool)(h:Heap)(c a:Addr)(k:Nat):Prop:=if t then h.IsTupleIter c a k else h.IsListIter c a k
def Ju(t:Bool)(h:Heap)(a:Addr)(vs:Array Value):Prop:=if t then h.IsTuple a vs else h.IsList a vs
theorem HC.ext{t:Bool}{h h':Heap}{c b a:Addr}{k:Nat}(x:HC t h c a k)(hs:Heap.ExtBut b h h')(n:c≠b):HC t h' c a k:=by
 cases t
 ·exact Heap.IsListIter.extBut x hs n
 ·exact Heap.IsTupleIter.extBut x hs n
theorem HC.at{t:Bool}{h h':Heap}{c a:Addr}{k:Nat}(x:HC t h c a k)(e:∀o,h.get? c=some o->h'.get? c=some o):HC t h' c a k:=by
 cases t
 ·exact Heap.IsListIter.at x e
 ·exact Heap.IsTupleIter.at x e
theorem HC.obj{t:Bool}{h:Heap}{c a:Addr}{k:Nat}(x:HC t h c a k):∃o,h.get? c=some o/\∀v,o.data≠.cell v:=by
 cases t
 ·obtain⟨o,e,_,d⟩:=x;exact⟨o,e,λv z=>by rw[d] at z; cases z⟩
 ·obtain⟨o,e,_,d⟩:=x;exact⟨o,e,λv z=>by rw[d] at z; cases z⟩
theorem Ju.ext{t:Bool}{h h':Heap}{b a:Addr}{vs:Array Value}(x:Ju t h a vs)(hs:Heap.ExtBut b h h')(n:a≠b):Ju t h' a vs:=by
 cases t
 ·exact Heap.IsList.extBut x hs n
 ·exact Heap.IsTuple.extBut x hs n
variable {prog:Program} {w:World} {A:Around} {E:Value->Shared->Prop} {s:Shared}
def Ln(t:Bool)(K:PySem.W.Frag)(H:Hp)(a:Addr)(xs:List V):Prop:=if t then AJ K H a xs else AS K H a xs
theorem Ju.lt{t:Bool}{h:Heap}{a:Addr}{vs:Array Value}(x:Ju t h a vs):a<h.objs.size:=by
 cases t
 ·obtain⟨o,e,_⟩:=x;exact Heap.lt_size e
 ·obtain⟨o,e,_⟩:=x;exact Heap.lt_size e
theorem Ln.l{K:PySem.W.Frag}{H:Hp}{a:Addr}{xs:List V}(h:H a=some (.AN xs)):Ln false K H a xs:=AS.of h
theorem Ln.t{K:PySem.W.Frag}{H:Hp}{a:Addr}{xs:List V}(h:H a=some (.AH xs)):Ln true K H a xs:=AJ.of h
end
end L2
namespace L2
open PySem PySem.Spec PyProof.Rows PySem.W
section
variable {prog:Program} {w:World} {A:Around} {E:Value->Shared->Prop} {K:Frag} {h:Heap} {g:Array GenState} {d:Drawn} {t:Nat} {os:OsState} {a C:Addr} {o:Obj}
structure F0(K:Frag)(C:Addr):Prop where
 ga:findIn K (.ref C) "__getattribute__" = some (some (.builtin "BaseException.__getattribute__"))
 gt:findIn K (.ref C) "__getattr__" = some none
 cl:findIn K (.ref C) "__class__" = some (some (.builtin "object.__class__"))
 gg:specialIn K (.builtin "object.__class__") "__get__" = some (some (.builtin "getset_descriptor.__get__"))
 tk:takesIn K (.builtin "object.__class__")=some true
 mo:mroIn K C (.type "object")=some true
 mb:mroIn K C (.type "BaseException")=some true
 cd:(clsIn K C).isSome=true
theorem YA{R:Result->Shared->Prop}(T:F0 K C)(X:K.In h)(hx:h.get? a=some o)(hc:o.cls=.ref C)(hq:R (.ok (.ret (.ref C))) ⟨h,g,d,t,os⟩):
  codeAny (model prog w) A (.call (.builtin "getset_descriptor.__get__") ⟨[.builtin "object.__class__",.ref a,.ref C],[]⟩) R ⟨h,g,d,t,os⟩:=by
 have L0:Looks (model prog w) h (typeOf (.ref a)) (.ref C):=hc ▸ (Looks.ld hx).andThen .now;have L1:=looks_mroIn (M:=model prog w) X T.mo;refine codeAny_call_builtin KF.slot_gs.plain KF.entry_gs (KF.slot_gs.check _ _ _ _ _ _ _ _ KF.type_class (KF.args_gs _ _ _) ?_);unfold Builtin.«getset_descriptor.__get__» Builtin.Getset_descriptor.descrGet; rw[dga_obj];refine wpAny_bind (wpAny_pure ?_); unfold Builtin.Getset_descriptor.descrGetter Builtin.Getset_descriptor.descrCheckInstance Builtin.Getset_descriptor.descrNameAndClass isInstance;simp only[KF.owner_class]
 repeat lk
 refine⟨Code.quiet_builtin _ (by decide +kernel),codeAny_builtin KF.entry_class ?_⟩;unfold Builtin.«object.__class__» shownTypeOf; repeat lk
 exact hq
theorem Wj{tk:Tok}{Q:Fin->Shared->Prop}(T:F0 K C)(X:K.In h)(hx:h.get? a=some o)(hc:o.cls=.ref C)(hq:Q (.done (.ret (.ref C))) ⟨h,g,d,t,os⟩):
  wpAny (model prog w) A (Builtin.«object.__getattribute__» ⟨[.ref a,.str "__class__" tk],[]⟩) Q E ⟨h,g,d,t,os⟩:=by
 have L1:=looks_findIn (M:=model prog w) X T.cl;have L2:=looks_specialIn (M:=model prog w) X T.gg;have L3:=looks_takesIn (M:=model prog w) X T.tk
 repeat (any_goals (first | assumption | (with_reducible refine wpAny_loadPart_at hx ?_; rw[hc]) | with_reducible refine L1.at ?_ | with_reducible refine L2.at ?_ | with_reducible refine L3.at ?_ | wp_step))
 refine YA T X hx hc ?_
 repeat (any_goals (first | assumption | wp_step))
theorem Vi{nameV:Value}{Q:Unit->Shared->Prop}(T:F0 K C)(X:K.In h)(hx:h.get? a=some o)(hc:o.cls=.ref C)(hq:Q () ⟨h,g,d,t,os⟩):wpAny (model prog w) A (checkBuiltinCall "BaseException.__getattribute__" ⟨[.ref a,nameV],[]⟩) Q E ⟨h,g,d,t,os⟩:=by
 have kd:builtinKind "BaseException.__getattribute__" = some .slot:=by decide +kernel
 have sp:splitId "BaseException.__getattribute__" = some ("BaseException","__getattribute__"):=by decide +kernel
 have L1:=looks_mroIn (M:=model prog w) X T.mb;have ar:=PySem.F.args_bexc_ga (.ref a) nameV;simp only[checkBuiltinCall,kd,sp];refine wpAny_bind ?_; unfold isInstance
 repeat (first | (with_reducible refine wpAny_loadPart_at hx ?_; rw[hc]) | with_reducible refine L1.at ?_ | wp_step)
 exact hq
theorem Xt{tk:Tok}{R:Result->Shared->Prop}(T:F0 K C)(X:K.In h)(hx:h.get? a=some o)(hc:o.cls=.ref C)(hq:R (.ok (.ret (.ref C))) ⟨h,g,d,t,os⟩):
  codeAny (model prog w) A (.call (.builtin "BaseException.__getattribute__") ⟨[.ref a,.str "__class__" tk],[]⟩) R ⟨h,g,d,t,os⟩ :=
 codeAny_call_builtin PySem.F.excAttr_ValueError.ga.plain PySem.F.entry_bexc_ga (Vi T X hx hc (Wj T X hx hc hq))
theorem ZE{tk:Tok}{fill expr:Bool}{Q:Value->Shared->Prop}(T:F0 K C)(X:K.In h)(hx:h.get? a=some o)(hc:o.cls=.ref C)(hq:Q (.ref C) ⟨h,g,d,t,os⟩):
  wpAny (model prog w) A (getAttrBy (.ref a) (.str "__class__" tk) fill expr) Q E ⟨h,g,d,t,os⟩:=by
 have f3:=PySem.F.excAttr_ValueError.ga.bind (.ref a);have y0:(expr && onTheHeap (Value.builtin "BaseException.__getattribute__"))=false:=by cases expr <;> rfl
 have y2:(Value.builtin "BaseException.__getattribute__" == Value.builtin "object.__getattribute__")=false:=by decide +kernel
 have y1:(onTheHeap (Value.ref C) && Value.builtin "BaseException.__getattribute__" == Value.builtin "object.__getattribute__")=false:=by rw[y2]; rfl
 have L1:=looks_findIn (M:=model prog w) X T.ga;have L2:=looks_findIn (M:=model prog w) X T.gt
 repeat (any_goals (first | assumption | (with_reducible refine wpAny_loadPart_at hx ?_; rw[hc]) | with_reducible refine L1.at ?_ | with_reducible refine L2.at ?_ | wp_step))
 refine Xt T X hx hc ?_
 repeat (any_goals (first | assumption | wp_step))
theorem Xx{Q:Option Value->Shared->Prop}(T:F0 K C)(X:K.In h)(hx:h.get? a=some o)(hc:o.cls=.ref C)(hq:Q (some (.ref C)) ⟨h,g,d,t+1,os⟩):
  wpAny (model prog w) A (getAttr? (.ref a) "__class__") Q E ⟨h,g,d,t,os⟩:=by
 unfold getAttr? getAttrBy?;refine wpAny_bind (wpAny_mkText (wpAny_bind (wpAny_attempt (ZE T X hx hc (wpAny_pure hq)))))
theorem Vu(T:F0 K C):KitX K (.ref a) (.ref C) (λh=>∃o,h.get? a=some o/\o.cls=.ref C) where
 ty:=λM h _ ⟨o,h1,h2⟩=>h2 ▸ (Looks.ld h1).andThen .now
 it:=λ_ _ X _=>by
  obtain⟨cdD,hcD⟩:=Option.isSome_iff_exists.mp T.cd;unfold clsIn at hcD;split at hcD
  ·rename_i c' d' cd' sl' ho
   intro A' Q' E' s' k q;unfold isType loadHead;exact wpAny_bind (wpAny_loadPart (k _ _ (X _ _ ho)) (wpAny_pure q))
  ·cases hcD
 ne:=λh tp dd its n sl X htp=>by
  obtain⟨cdD,hcD⟩:=Option.isSome_iff_exists.mp T.cd;refine Bool.eq_false_iff.mpr λq=>?_
  obtain rfl:C=tp:=Value.ref.inj (beq_iff_eq.mp q);unfold clsIn at hcD;split at hcD
  ·rename_i c' d' cd' sl' ho
   cases (X _ _ ho).symm.trans htp
  ·cases hcD
 ca:=λ{_ _ _ _ _ s} X p k=>by
  obtain⟨hh,g,d,t,os⟩:=s;obtain⟨o,h1,h2⟩:=p;exact Xx T X h1 h2 k
end
section
variable {X:Cx}
def ZI(K:PySem.W.Frag)(c:V)(cv:Value):List V->Hp->VK->Prop:=λxs H Q=>∃(a C:Addr) (od:Option Addr) (b:Bool),xs=[.ref a,c]/\H a=some (EZ a (.ref C) od)/\F0 K C/\PySem.W.kitOne K (.ref C) cv=some b/\Q (.bl b) H
theorem PU{c:V}{cv:Value}(hc:∀u,Av c u->u=cv):Ck X (.builtin "isinstance") (ZI X.K c cv):=by
 intro pins s σ H xs us Q I r h;obtain⟨a,C,od,b,rfl,ha,T,e,q⟩:=h;obtain⟨u,w',rfl,r1,r2⟩:=JU r;cases hc w' r2;cases r1;obtain⟨⟨o,ho,hcl,_⟩,_,_⟩:=I.hok a _ ha;exact PySem.W.kia_one (Vu T) I.BF ⟨o,ho,hcl⟩ e (λz=>nomatch z) λtk=>⟨.bl b,H,I.DR _,rfl,q⟩
end
end L2
namespace My
open PySem L2
def del(H:Hp)(a:Addr):Hp:=λb=>if b=a then none else H b
theorem Hq(H:Hp)(a:Addr):del H a a=none:=if_pos rfl
theorem HV{H:Hp}{a b:Addr}(h:b≠a):del H a b=H b:=if_neg h
theorem HL(H:Hp)(a:Addr):AQ (del H a) H:=λb o e=>by
 by_cases h:b=a
 ·subst h; rw[Hq] at e; cases e
 ·rw[HV h] at e; exact e
theorem HJ{H H':Hp}(a:Addr)(s:AQ H H'):AQ (del H a) (del H' a):=λb o e=>by
 by_cases h:b=a
 ·subst h; rw[Hq] at e; cases e
 ·rw[HV h] at e ⊢; exact s _ _ e
theorem X8(H:Hp)(a:Addr)(o:HO):AQ (del H a) (AK H a o):=λb u e=>by
 by_cases h:b=a
 ·subst h; rw[Hq] at e; cases e
 ·rw[HV h] at e; rw[An h]; exact e
theorem Kj(H:Hp)(a:Addr)(o:HO):del (AK H a o) a=del H a:=by
 funext b
 by_cases h:b=a
 ·subst h; rw[Hq,Hq]
 ·rw[HV h,HV h,An h]
theorem Ql{H:Hp}{a:Addr}(h:H a=none):del H a=H:=by
 funext b
 by_cases z:b=a
 ·subst z; rw[Hq,h]
 ·exact HV z
theorem Fp{H:Hp}{a b:Addr}{o:HO}(e:H b=some o)(h:b≠a):del H a b=some o:=by rw[HV h]; exact e
section
variable {α:Type} {R:Hp->Addr->α->Prop}
def At(R:Hp->Addr->α->Prop)(H:Hp)(bs:List Addr)(xs:List α):Prop:=bs.length=xs.length/\∀(i:Nat) (b:Addr) (x:α),bs[i]?=some b->xs[i]?=some x->R H b x
def Mo(R:Hp->Addr->α->Prop):Prop:=∀{H H':Hp} {b:Addr} {x:α},AQ H H'->R H b x->R H' b x
theorem At.nil{H:Hp}:At R H [] []:=⟨rfl,λi b x e=>by simp at e⟩
theorem At.keep{H H':Hp}{bs:List Addr}{xs:List α}(h:At R H bs xs)(m:Mo R)(s:AQ H H'):At R H' bs xs:=⟨h.1,λi b x e1 e2=>m s (h.2 i b x e1 e2)⟩
theorem At.snoc{H:Hp}{bs:List Addr}{xs:List α}{b:Addr}{x:α}(h:At R H bs xs)(r:R H b x):At R H (bs++[b]) (xs++[x]):=by
 refine⟨by simp[h.1],λi c y e1 e2=>?_⟩;have hl:=h.1;rcases Nat.lt_or_ge i bs.length with z | z
 ·rw[List.getElem?_append_left z] at e1;rw[List.getElem?_append_left (by omega)] at e2;exact h.2 i c y e1 e2
 ·rw[List.getElem?_append_right z] at e1;rw[List.getElem?_append_right (by omega)] at e2;rw[hl] at e1;cases hi:i-xs.length with
  | zero=>rw[hi] at e1 e2; cases e1; cases e2; exact r
  | succ k=>rw[hi] at e1; simp at e1
theorem At.E7{H:Hp}{bs cs:List Addr}{xs ys:List α}(h:At R H bs xs)(g:At R H cs ys):At R H (bs++cs) (xs++ys):=by
 refine⟨by simp[h.1,g.1],λi c y e1 e2=>?_⟩;have hl:=h.1;rcases Nat.lt_or_ge i bs.length with z | z
 ·rw[List.getElem?_append_left z] at e1;rw[List.getElem?_append_left (by omega)] at e2;exact h.2 i c y e1 e2
 ·rw[List.getElem?_append_right z] at e1;rw[List.getElem?_append_right (by omega)] at e2;rw[hl] at e1;exact g.2 _ c y e1 e2
theorem At.take{H:Hp}{bs:List Addr}{xs:List α}(h:At R H bs xs)(k:Nat):At R H (bs.take k) (xs.take k):=by
 refine⟨by simp[h.1],λi c y e1 e2=>?_⟩;rw[List.getElem?_take] at e1 e2;split at e1
 ·rename_i hk; rw[if_pos hk] at e2; exact h.2 i c y e1 e2
 ·cases e1
theorem At.drop{H:Hp}{bs:List Addr}{xs:List α}(h:At R H bs xs)(k:Nat):At R H (bs.drop k) (xs.drop k):=by
 refine⟨by simp[h.1],λi c y e1 e2=>?_⟩;rw[List.getElem?_drop] at e1 e2;exact h.2 _ c y e1 e2
theorem At.set{H:Hp}{bs:List Addr}{xs:List α}{b:Addr}{x:α}(h:At R H bs xs)(k:Nat)(r:R H b x):At R H (bs.set k b) (xs.set k x):=by
 refine⟨by simp[h.1],λi c y e1 e2=>?_⟩;rw[List.getElem?_set] at e1 e2;by_cases hk:k=i
 ·subst hk;have hl:=h.1;by_cases hb:k<bs.length
  ·rw[if_pos rfl,if_pos hb] at e1;rw[if_pos rfl,if_pos (by omega)] at e2;cases e1; cases e2; exact r
  ·rw[if_pos rfl,if_neg hb] at e1; cases e1
 ·rw[if_neg hk] at e1 e2;exact h.2 _ c y e1 e2
theorem At.get{H:Hp}{bs:List Addr}{xs:List α}{i:Nat}{x:α}(h:At R H bs xs)(e:xs[i]?=some x):∃b,bs[i]?=some b/\R H b x:=by
 have hi:i<bs.length:=by rw[h.1]; exact(List.getElem?_eq_some_iff.mp e).1
 exact⟨bs[i],List.getElem?_eq_getElem hi,h.2 i _ x (List.getElem?_eq_getElem hi) e⟩
theorem At.ref{H:Hp}{bs:List Addr}{xs:List α}{i:Nat}{v:V}(h:At R H bs xs)(e:(bs.map V.ref)[i]?=some v):∃b x,v=.ref b/\bs[i]?=some b/\xs[i]?=some x/\R H b x:=by
 rw[List.getElem?_map] at e;cases q:bs[i]? with
 | none=>rw[q] at e; cases e
 | some b =>
  rw[q] at e;have hi:i<xs.length:=by rw[<-h.1]; exact(List.getElem?_eq_some_iff.mp q).1
  exact⟨b,xs[i],(Option.some.inj e).symm,rfl,List.getElem?_eq_getElem hi,h.2 i b _ q (List.getElem?_eq_getElem hi)⟩
theorem BA{bs:List Addr}{i:Nat}{b:Addr}(h:bs[i]?=some b):(bs.map V.ref)[i]?=some (.ref b):=by rw[List.getElem?_map,h]; rfl
def A7(R:Hp->Addr->α->Prop)(H:Hp)(b:Addr)(xs:List α):Prop:=∃bs:List Addr,H b=some (.AH (bs.map V.ref))/\At R H bs xs
def Bi(R:Hp->Addr->α->Prop)(H:Hp)(b:Addr)(xs:List α):Prop:=∃bs:List Addr,H b=some (.AN (bs.map V.ref))/\At R H bs xs
theorem Mz(m:Mo R):Mo (A7 R):=λs ⟨bs,e,h⟩=>⟨bs,s _ _ e,h.keep m s⟩
theorem HS(m:Mo R):Mo (Bi R):=λs ⟨bs,e,h⟩=>⟨bs,s _ _ e,h.keep m s⟩
end
def Ac(H:Hp)(b:Addr)(q:Rat):Prop:=H b=some (.AH [.int q.num,.int q.den])
def FP(H:Hp)(b:Addr)(ns:List Int):Prop:=H b=some (.AN (ns.map V.int))
theorem ET:Mo Ac:=λs h=>s _ _ h
theorem Me:Mo FP:=λs h=>s _ _ h
theorem Ac.del{H:Hp}{a b:Addr}{q:Rat}{ys:List V}(h:Ac H b q)(e:H a=some (.AN ys)):Ac (del H a) b q:=Fp h λz=>by rw[z] at h; unfold Ac at h; rw[e] at h; cases h
theorem RO{H:Hp}{a:Addr}{ys:List V}(e:H a=some (.AN ys)){bs:List Addr}{qs:List Rat}(h:At Ac H bs qs):At Ac (del H a) bs qs:=⟨h.1,λi b x e1 e2=>(h.2 i b x e1 e2).del e⟩
structure J3(J:It)(H1:Hp)(n:Nat)(f:Nat->Hp->V->Hp->Prop):Prop where
 go:∀i H2,i<n->AQ H1 H2->J.go i H2
 yl:∀i H2 x H3,i<n->AQ H1 H2->J.EC i H2 x H3->f i H2 x H3
 st:∀H2,AQ H1 H2->J.stop n H2
section
variable {K:PySem.W.Frag}
theorem JC{H:Hp}{a:Addr}{xs:List V}(h:H a=some (.AH xs)):J3 (Ie K a) H xs.length (λi H2 x H3=>H3=H2/\xs[i]?=some x) :=
 ⟨λi H2 hi s=>⟨xs,xs[i],AJ.of (s _ _ h),List.getElem?_eq_getElem hi⟩,λi H2 x H3 _ s y=>⟨y.1,y.2 _ (AJ.of (s _ _ h))⟩,λH2 s=>⟨xs,AJ.of (s _ _ h),Nat.le_refl _⟩⟩
theorem KY{H:Hp}{a:Addr}{xs:List V}(h:H a=some (.AN xs)):J3 (GO K a) H xs.length (λi H2 x H3=>H3=H2/\xs[i]?=some x) :=
 ⟨λi H2 hi s=>⟨xs,xs[i],AS.of (s _ _ h),List.getElem?_eq_getElem hi⟩,λi H2 x H3 _ s y=>⟨y.1,y.2 _ (AS.of (s _ _ h))⟩,λH2 s=>⟨xs,AS.of (s _ _ h),Nat.le_refl _⟩⟩
theorem VB{H:Hp}{lo:Int}{n:Nat}:J3 (HG lo n) H n (λi H2 x H3=>H3=H2/\x=.int (lo+i)):=⟨λ_ _ hi _=>hi,λ_ _ _ _ _ _ y=>y,λ_ _=>Nat.le_refl _⟩
theorem Fj {J:It} {n:Nat} {H1:Hp} {f:Nat->Hp->V->Hp->Prop} {acc:Addr} {σ0:St} {g:TG} {te:TE} {G:Hp->Prop} (r:J3 J H1 n f) (hn:n<=1000) (hacc:H1 acc=none) (Iv:Nat->List V->St->Hp->Prop) (h0:Iv 0 [] σ0 H1)
  (hs:∀(i:Nat) (ys:List V) (σ:St) (H2:Hp) (x:V) (H3:Hp),i<n->AQ H1 H2->H2 acc=some (.AN ys)->Iv i ys σ (del H2 acc)->f i H2 x H3->∀C:St->VK,(∀(σ4:St) (v:V) (H5:Hp),AQ H2 H5->Iv (i+1) (ys++[v]) σ4 (del H5 acc)->C σ4 v H5) →
   g x σ H3 λσ4 H4=>te σ4 H4 (C σ4))
  (fin:∀(ys:List V) (σ:St) (H2:Hp),AQ H1 H2->H2 acc=some (.AN ys)->ys.length=n->Iv n ys σ (del H2 acc)->G H2) :
  ∃W:Nat->Nat->List V->St->Hp->Prop,(∃m,W 0 m [] σ0 (AK H1 acc (.AN [])))/\∀i m ys σc H2,W i m ys σc H2 →
   (J.stop i H2/\G H2)\/(J.go i H2/\∀x H3,J.EC i H2 x H3->g x σc H3 λσ4 H4=>te σ4 H4 λv H5=>H5 acc=some (.AN ys)/\ys.length<sizeLine/\∃m',m' < m/\W (i+1) m' (ys++[v]) σ4 (AK H5 acc (.AN (ys++[v])))):=by
 refine⟨λi m ys σ H2=>m=n-i/\i<=n/\AQ H1 H2/\H2 acc=some (.AN ys)/\ys.length=i/\Iv i ys σ (del H2 acc),⟨n,rfl,Nat.zero_le _,?_,AX,rfl,?_⟩,?_⟩
 ·intro b o e; rw[An (A5 e hacc)]; exact e
 ·rw[Kj,Ql hacc]; exact h0
 ·rintro i m ys σc H2 ⟨rfl,hi,sm,ha,hl,iv⟩;rcases Nat.lt_or_ge i n with hlt | hge
  ·refine .inr ⟨r.go i H2 hlt sm,λx H3 yl=>?_⟩;refine hs i ys σc H2 x H3 hlt sm ha iv (r.yl i H2 x H3 hlt sm yl) (λσ4 v H5=>H5 acc=some (.AN ys)/\ys.length<sizeLine/\∃m',m' < n-i/\(m'=n-(i+1)/\i+1<=n/\AQ H1 (AK H5 acc (.AN (ys++[v])))/\(AK H5 acc (.AN (ys++[v]))) acc=some (.AN (ys++[v]))/\(ys++[v]).length=i+1/\Iv (i+1) (ys++[v]) σ4 (del (AK H5 acc (.AN (ys++[v]))) acc))) ?_;intro σ4 v H5 s5 iv5;refine⟨s5 _ _ ha,by rw[sizeLine_eq]; omega,n-(i+1),by omega,rfl,hlt,?_,AX,by simp[hl],?_⟩
   ·intro b o e; rw[An (A5 e hacc)]; exact s5 _ _ (sm _ _ e)
   ·rw[Kj]; exact iv5
  ·obtain rfl:i=n:=by omega
   exact .inl ⟨r.st H2 sm,fin ys σc H2 sm ha hl iv⟩
end
end My
namespace My
open PySem L2 PySem.Spec PyProof.Rows
def Ff(q:Rat):PyData:=.tuple [.int q.num,.int (q.den:Int)]
section
variable {X:Cx} {pins:List (Addr×Obj)} {σ:L2.St} {H:Hp} {s:Shared}
theorem Mm(p q:Rat):PyData.eqv (Ff p) (Ff q)=decide (p=q):=by
 have e:PyData.eqv (Ff p) (Ff q)=(p.num == q.num && (p.den:Int) == (q.den:Int)):=by
  simp[Ff,PyData.eqv,PyData.eqvAll]
 rw[e,Bool.eq_iff_iff];simp only[Bool.and_eq_true,beq_iff_eq,decide_eq_true_eq];constructor
 ·rintro⟨h1,h2⟩; exact Rat.ext h1 (by omega)
 ·rintro rfl; exact⟨rfl,rfl⟩
end
end My
namespace L2
open PySem PySem.Spec PyProof.Rows
section
variable {X:Cx}
def Y1:V->List V->Hp->VK->Prop:=λx vs H Q=>∃(l:Addr) (ns:List Int) (k:Int),x=.ref l/\vs=[.int k]/\H l=some (.AN (ns.map V.int))/\k∈ns/\ns.length<=1000000/\Q (.int ((ns.idxOf k:Nat):Int)) H
theorem Ka:Jt X "list.index" Y1:=by
 intro pins s σ H x vs v us Q I rx rv h;obtain⟨l,ns,k,rfl,rfl,hH,hk,hz,q⟩:=h;cases rx;obtain⟨u,rfl,ru⟩:=rv.one;obtain⟨t,rfl⟩:=ru;obtain⟨z,its,n,r,hl,e⟩:=I.Gn hH;have hi:=ME r;have hlen:=hi.length;have hj:ns.idxOf k<ns.length:=List.idxOf_lt_length_iff.mpr hk;refine call_meets PySem.F.slot_list_index ⟨_,e,rfl⟩ PySem.F.entry_list_index (PySem.F.args_list_index_2 _ _)
  (MeetsSeq.list_index l its.toArray n (.int k t) (isInt k) (λy hy=>eq_isInt k t hi y (by simpa using hy)) (ns.idxOf k) (by simpa [hlen] using hj) (by omega) ?_ ?_) ⟨e,⟨.int ((ns.idxOf k:Nat):Int),H,I.DR _,⟨_,rfl⟩,q⟩⟩
 ·show isInt k its[ns.idxOf k]=true;rw[isInt_at k hi _ (by omega) hj];simpa using List.getElem_idxOf hj
 ·intro j hjs hlt;show isInt k its[j]=false;rw[isInt_at k hi j (by simpa using hjs) (by omega)];exact ne_of_lt_idxOf hlt _
variable {K:PySem.W.Frag}
theorem bF(h:X.K=K:=by rfl):J0 X (Ew K):=h ▸ Fq
theorem bD(h:X.K=K:=by rfl):J0 X (GA K):=h ▸ MX
theorem pT(K:PySem.W.Frag){X:Cx}{a b:PySem.Expr}{ta tb:TE}{pos:Pos}(ha:PE X a ta)(hb:PE X b tb)(hs:Md b:=by exact λ_ _=>rfl)(h:X.K=K:=by rfl):PE X (.Subscript a b pos) (BG (Ew K) ta tb):=EU (bF h) ha hb hs
theorem pL(K:PySem.W.Frag){X:Cx}{a b:PySem.Expr}{ta tb:TE}{pos:Pos}(ha:PE X a ta)(hb:PE X b tb)(hs:Md b:=by exact λ_ _=>rfl)(h:X.K=K:=by rfl):PE X (.Subscript a b pos) (BG (GA K) ta tb):=EU (bD h) ha hb hs
theorem bJ(h:X.K=K:=by rfl):J4 X (SV K):=h ▸ RA
theorem FY(h:X.K=K:=by rfl):J4 X (Si K):=h ▸ Xv
theorem Ci(h:X.K=K:=by rfl):Ck X (.builtin "len") (N3 K):=h ▸ TZ
theorem Qd(h:X.K=K:=by rfl):Ck X (.type "tuple") (λxs H Q=>∃p ys,xs=[.ref p]/\((AS K H p ys/\∀l,H l=none->Q (.ref l) (AK H l (.AH ys)))\/(AJ K H p ys/\Q (.ref p) H))):=h ▸ Ik
theorem FQ {es:List PySem.Expr} {k:Nat} {t:Fd} {n:Nat} {pos:Pos} (hc:X.By=true) (g:Jz X es t) (h:X.K=K:=by rfl)
  (hn:(assignEach es X.env).length=n:=by rfl) (hst:(assignEach es X.env).findIdx? (·.1)=none:=by rfl):PG X (.Tuple es k pos) (Nb K n t):=h ▸ YH hc g hn hst
theorem NI{tg l:PySem.Expr}{tl:TE}(hl:PE X l tl)(h:X.K=K:=by rfl):PI X tg l (Nk K tl):=h ▸ JR hl
theorem JW{tg l:PySem.Expr}{tl:TE}(hl:PE X l tl)(h:X.K=K:=by rfl):PI X tg l (RW K tl):=h ▸ MY hl
end
section
variable {prog:Program} {w:World} {A:Around} {E:Value->Shared->Prop} {s:Shared}
end
section
variable {X:Cx}
theorem XS{ns:List Int}:∀{us:List Value},IntsAre us ns->Ah (ns.map V.int) us:=by
 induction ns with
 | nil=>intro us r; cases r; exact .nil
 | cons n ns ih =>
  intro us r;cases r with
  | cons=>exact .cons ⟨_,rfl⟩ (ih (by assumption))
end
end L2
namespace L2
open PySem PySem.Spec PyProof.Rows PySem.SeqAt
section
variable {prog:Program} {w:World} {A:Around} {E:Value->Shared->Prop}
abbrev bW(items:Array Value)(x:Value):Nat->Option PySem.Fin×PUnit->Sem (ForInStep (Option PySem.Fin×PUnit)):=λi _=>match items[i]? with
 | some y=>do let b <-eqBool y x; if b=true then (do let r <-retInt (i:Int); pure (ForInStep.done (some r,()))) else pure (ForInStep.yield (none,()))
 | _=>pure (ForInStep.yield (none,()))
end
section
variable {X:Cx}
def bS:V->List V->Hp->VK->Prop:=λx vs H Q=>∃(l:Addr) (ns:List Int) (k:Int),x=.ref l/\vs=[.int k]/\H l=some (.AH (ns.map V.int))/\k∈ns/\Q (.int ((ns.idxOf k:Nat):Int)) H
end
end L2
namespace HT
open PySem PySem.Spec PyProof.Rows L2
section
variable {prog:Program} {w:World} {A:Around} {E:Value->Shared->Prop} {s:Shared}
end
end HT
namespace L2
open PySem PySem.Spec PyProof.Rows
section
variable {X:Cx} {K:PySem.W.Frag}
variable {o e:Expr} {es:List Expr} {to:TE} {t:TA} {name:Str} {apos cpos:Pos} {id:String} {r:V->List V->Hp->VK->Prop}
inductive BX(H:Hp):V->PyData->Prop
 | int (i:Int):BX H (.int i) (.int i)
 | bl (b:Bool):BX H (.bl b) (.bool b)
 | str (z:Str):BX H (.str z) (.str z)
 | AH {p:Addr} {xs:List V} {ds:List PyData} (h:H p=some (.AH xs)) (hl:xs.length=ds.length) (hd:∀(i:Nat) (x:V) (d:PyData),xs[i]?=some x->ds[i]?=some d->BX H x d):BX H (.ref p) (.tuple ds)
theorem BX.keep{H H':Hp}(s:AQ H H'){v:V}{d:PyData}(h:BX H v d):BX H' v d:=by
 induction h with
 | int i=>exact .int i
 | bl b=>exact .bl b
 | str z=>exact .str z
 | AH h hl hd ih=>exact .AH (s _ _ h) hl ih
variable {pins:List (Addr×Obj)} {σ:L2.St} {H:Hp} {s:Shared}
theorem MM(h:Heap):∀{xs:List V} {its:List Value} {ds:List PyData},Ah xs its->xs.length=ds.length->(∀(i:Nat) (x:V) (d:PyData),xs[i]?=some x->ds[i]?=some d->∀u,Av x u->Reads h u d [])->ReadsAll h its ds []
 | [],_,ds,.nil,hl,_=>by
  have:ds=[]:=List.length_eq_zero_iff.mp hl.symm
  subst this;exact .nil
 | x :: xs,_,[],_,hl,_=>by simp at hl
 | x :: xs,_,d :: ds,.cons r rs,hl,hd =>
  .cons (as:=[]) (bs:=[]) (hd 0 x d rfl rfl _ r) (MM h rs (by simpa using hl) λi x' d' e1 e2=>hd (i+1) x' d' (by simpa using e1) (by simpa using e2))
theorem HQ(I:AL X pins σ H s){v:V}{d:PyData}(h:BX H v d):∀u,Av v u->Reads s.heap u d []:=by
 induction h with
 | int i =>
  intro u r;obtain⟨t,rfl⟩:=r;exact .int _ _
 | bl b =>
  intro u r;cases r;exact .bool _
 | str z =>
  intro u r;obtain⟨t,rfl⟩:=r;exact .str _ _
 | AH h hl hd ih =>
  intro u r;cases r;obtain⟨its,rv,tp,_⟩:=I.tuple (AJ.of (K:=X.K) h);obtain⟨o,ho,hc,n,hd'⟩:=tp;exact .tuple ho hc hd' (by simpa using MM s.heap rv hl ih)
inductive FA:Nat->PyData->Prop
 | int {n:Nat} (i:Int):FA n (.int i)
 | bl {n:Nat} (b:Bool):FA n (.bool b)
 | AH {n:Nat} {ds:List PyData} (h:∀d∈ds,FA n d):FA (n+1) (.tuple ds)
theorem El:∀{ds:List PyData},(∀d∈ds,d.canLay0=true)->PyData.canLayAll0 ds=true
 | [],_=>rfl
 | d :: ds,h=>by
  simp only[PyData.canLayAll0,Bool.and_eq_true];exact⟨h d (by simp),El λx hx=>h x (by simp[hx])⟩
theorem FF{n:Nat}:∀{ds:List PyData},(∀d∈ds,d.depth<=n)->PyData.depthAll ds<=n
 | [],_=>Nat.zero_le _
 | d :: ds,h=>by
  have:=FF (ds:=ds) λx hx=>h x (by simp[hx])
  have:=h d (by simp)
  simp only[PyData.depthAll];omega
theorem FA.ok{n:Nat}{d:PyData}(h:FA n d):d.canLay0=true/\d.depth<=n+1:=by
 induction h with
 | int i=>exact⟨rfl,by simp[PyData.depth]⟩
 | bl b=>exact⟨rfl,by simp[PyData.depth]⟩
 | @AH n ds h ih =>
  refine⟨by simp only[PyData.canLay0]; exact El λd hd=>(ih d hd).1,?_⟩
  have:=FF λd hd=>(ih d hd).2
  simp only[PyData.depth];omega
theorem FA.shaped{n:Nat}{d:PyData}(h:FA n d)(hn:n<=60):SeqAt.shaped d=true:=by
 unfold SeqAt.shaped;rw[Bool.and_eq_true];exact⟨h.ok.1,decide_eq_true (by have:=h.ok.2; omega)⟩
def Zj:R2:=λx y H Q=>∃(d e:PyData),BX H x d/\BX H y e/\(d.canLay0=true/\d.depth<=64)/\(e.canLay0=true/\e.depth<=64)/\Q (.bl (PyData.eqv d e)) H
def aa:R2:=λx y H Q=>∃(d e:PyData),BX H x d/\BX H y e/\(d.canLay0=true/\d.depth<=64)/\(e.canLay0=true/\e.depth<=64)/\Q (.bl (!PyData.eqv d e)) H
theorem shp{d:PyData}(h:d.canLay0=true/\d.depth<=64):SeqAt.shaped d=true:=by
 unfold SeqAt.shaped;rw[Bool.and_eq_true];exact⟨h.1,decide_eq_true h.2⟩
theorem JL(hu:X.A.units+64<cLine):BZ X (compareOp .Eq) Zj:=by
 intro pins s σ H x y v u Q I rx ry h;obtain⟨d,e,hx,hy,sd,se,k⟩:=h;exact eq_dataH (HQ I hx v rx) (HQ I hy u ry) (shp sd) (shp se) hu ⟨.bl _,H,I,rfl,k⟩
theorem Ge(hu:X.A.units+64<cLine):BZ X (compareOp .NotEq) aa:=by
 intro pins s σ H x y v u Q I rx ry h;obtain⟨d,e,hx,hy,sd,se,k⟩:=h;exact ne_dataH (HQ I hx v rx) (HQ I hy u ry) (shp sd) (shp se) hu ⟨.bl _,H,I,rfl,k⟩
end
section
variable {X:Cx}
end
section
variable {prog:Program} {w:World} {A:Around} {E:Value->Shared->Prop} {s:Shared}
end
section
variable {X:Cx}
end
theorem Kt:bootBuiltins "list" = some (.type "list"):=by decide +kernel
section
variable {X:Cx}
def Zv(neg:Bool):R2:=λx y H Q=>∃(n:Nat) (d:PyData) (ds:List PyData),n<=40/\BX H x d/\BX H y (.tuple ds)/\FA n d/\FA (n+1) (.tuple ds)/\Q (.bl (if neg then !(ds.any λy=>PyData.eqv y d) else ds.any λy=>PyData.eqv y d)) H
theorem YV:∀{ds:List PyData},(PyData.tuple ds).canLay0=true->PyData.canLayAll0 ds=true:=λ{ds} h=>h
theorem YI(hu:X.A.units+64<cLine):BZ X (compareOp .In) (Zv false):=by
 intro pins s σ H x y v u Q I rx ry h;obtain⟨n,d,ds,hn,hx,hy,s1,s2,k⟩:=h;refine SeqAt.in_tuple_reads (HQ I hy u ry) (HQ I hx v rx) (YV s2.ok.1) s1.ok.1 ?_ ⟨.bl _,H,I,rfl,k⟩
 have:=s1.ok.2
 omega
def RL:R2:=λx y H Q=>∃(n:Nat) (p q:Addr) (xs ys:List V) (ds:List PyData),n<=50/\x=.ref p/\y=.ref q/\H p=some (.AN xs)/\H q=some (.AN ys)/\xs.length=ds.length/\ys.length=ds.length /\
 (∀(i:Nat) (x:V) (d:PyData),xs[i]?=some x->ds[i]?=some d->BX H x d)/\(∀(i:Nat) (x:V) (d:PyData),ys[i]?=some x->ds[i]?=some d->BX H x d)/\(∀d∈ds,FA n d)/\Q (.bl true) H
theorem Yq(hu:X.A.units+64<cLine):BZ X (compareOp .Eq) RL:=by
 intro pins s σ H x y v u Q I rx ry h;obtain⟨n,p,q,xs,ys,ds,hn,rfl,rfl,hp,hq,l1,l2,d1,d2,sh,k⟩:=h;have lay:(PyData.list ds).canLay0=true:=by simp only[PyData.canLay0]; exact El λd hd=>(sh d hd).ok.1
 have shp:SeqAt.shaped (PyData.list ds)=true:=by
  unfold SeqAt.shaped;rw[Bool.and_eq_true];refine⟨lay,decide_eq_true ?_⟩
  have:=FF (n:=n+1) λd hd=>(sh d hd).ok.2
  simp only[PyData.depth];omega
 have rd:∀{p:Addr} {xs:List V},H p=some (.AN xs)->xs.length=ds.length->(∀(i:Nat) (x:V) (d:PyData),xs[i]?=some x->ds[i]?=some d->BX H x d)->Reads s.heap (.ref p) (.list ds) [p]:=by
  intro p xs hp l1 d1;obtain⟨its,rv,pl,_⟩:=I.list (AS.of (K:=X.K) hp);obtain⟨o,ho,hc,m,hd'⟩:=pl.isList;exact .list ho hc hd' (by simpa using MM s.heap rv l1 λi x d e1 e2=>HQ I (d1 i x d e1 e2))
 cases rx;cases ry;refine eq_dataH (rd hp l1 d1) (rd hq l2 d2) shp shp hu ?_;rw[SeqAt.eqv_refl _ lay];exact⟨.bl true,H,I,rfl,k⟩
open My
end
theorem WQ{xs:Array Nat}{j:Nat}(hs:xs.toList.Pairwise (· < ·)):∀(fuel lo hi:Nat),lo<=hi->hi<=xs.size->hi-lo<=fuel->(∀(i x:Nat),i<lo->xs[i]?=some x->x<j)->(∀(i x:Nat),hi<=i->xs[i]?=some x->j<=x) →
  SetTable.below.go xs j fuel lo hi<=xs.size/\(∀(i x:Nat),i<SetTable.below.go xs j fuel lo hi->xs[i]?=some x->x<j)/\(∀(i x:Nat),SetTable.below.go xs j fuel lo hi<=i->xs[i]?=some x->j<=x):=by
 have mono:∀(a b x y:Nat),a<b->xs[a]?=some x->xs[b]?=some y->x<y:=λa b x y hab ha hb=>by
  rw[<-Array.getElem?_toList] at ha hb;obtain⟨h1,rfl⟩:=List.getElem?_eq_some_iff.mp ha;obtain⟨h2,rfl⟩:=List.getElem?_eq_some_iff.mp hb;exact List.pairwise_iff_getElem.mp hs a b h1 h2 hab
 intro fuel
 induction fuel with
 | zero =>
  intro lo hi h1 h2 h3 h4 h5;obtain rfl:lo=hi:=by omega
  exact⟨h2,h4,h5⟩
 | succ f ih =>
  intro lo hi h1 h2 h3 h4 h5;unfold SetTable.below.go;by_cases c:lo<hi
  ·rw[if_pos c];have hm:(lo+hi) / 2<xs.size:=by omega
   have em:xs[(lo+hi) / 2]?=some xs[(lo+hi) / 2]:=Array.getElem?_eq_getElem hm;have eg:xs.getD ((lo+hi) / 2) j=xs[(lo+hi) / 2]:=by rw[Array.getD_eq_getD_getElem?,em]; rfl
   dsimp only;rw[eg];by_cases d:xs[(lo+hi) / 2]<j
   ·rw[if_pos d];refine ih _ _ (by omega) h2 (by omega) (λi x hi' e=>?_) h5;rcases Nat.lt_or_ge i ((lo+hi) / 2) with z | z
    ·exact Nat.lt_trans (mono i _ x _ z e em) d
    ·obtain rfl:i=(lo+hi) / 2:=by omega
     rw[em] at e; cases e; exact d
   ·rw[if_neg d];refine ih _ _ (by omega) (by omega) (by omega) h4 (λi x hi' e=>?_);rcases Nat.lt_or_ge ((lo+hi) / 2) i with z | z
    ·have:=mono _ i _ x z em e; omega
    ·obtain rfl:i=(lo+hi) / 2:=by omega
     rw[em] at e; cases e; omega
  ·rw[if_neg c];obtain rfl:lo=hi:=by omega
   exact⟨h2,h4,h5⟩
theorem Pu{xs:Array Nat}(hs:xs.toList.Pairwise (· < ·))(j:Nat):SetTable.below xs j<=xs.size/\(∀(i x:Nat),i<SetTable.below xs j->xs[i]?=some x->x<j)/\(∀(i x:Nat),SetTable.below xs j<=i->xs[i]?=some x->j<=x):=by
 unfold SetTable.below;exact WQ hs _ 0 xs.size (Nat.zero_le _) (Nat.le_refl _) (by omega) (λi _ h=>by omega) λi x h e=>by
  rw[Array.getElem?_eq_none h] at e; cases e
theorem T8{xs:Array Nat}(hs:xs.toList.Pairwise (· < ·)){j:Nat}(hn:xs[SetTable.below xs j]?≠some j):(SetTable.insertAt xs (SetTable.below xs j) j).toList.Pairwise (· < ·):=by
 obtain⟨b1,b2,b3⟩:=Pu hs j;rw[SetTable.toList_insertAt,List.pairwise_append];have hd:∀y∈xs.toList.drop (SetTable.below xs j),j<y:=λy hy=>by
  obtain⟨k,hk,rfl⟩:=List.getElem_of_mem hy;rw[List.getElem_drop];have hl:SetTable.below xs j+k<xs.toList.length:=by rw[List.length_drop] at hk; omega
  have e:xs[SetTable.below xs j+k]?=some xs.toList[SetTable.below xs j+k]:=by rw[<-Array.getElem?_toList]; exact List.getElem?_eq_getElem hl
  have:=b3 _ _ (Nat.le_add_right _ _) e
  rcases Nat.lt_or_ge j xs.toList[SetTable.below xs j+k] with z | z
  ·exact z
  ·have ej:xs.toList[SetTable.below xs j+k]=j:=by omega
   cases k with
   | zero=>rw[ej] at e; exact absurd e hn
   | succ k =>
    have hl0:SetTable.below xs j<xs.toList.length:=by omega
    have e0:xs[SetTable.below xs j]?=some xs.toList[SetTable.below xs j]:=by rw[<-Array.getElem?_toList]; exact List.getElem?_eq_getElem hl0
    have g0:=b3 _ _ (Nat.le_refl _) e0
    have:=List.pairwise_iff_getElem.mp hs (SetTable.below xs j) (SetTable.below xs j+(k+1)) hl0 hl (by omega)
    omega
 refine⟨hs.sublist (List.take_sublist _ _),List.pairwise_cons.mpr ⟨hd,hs.sublist (List.drop_sublist _ _)⟩,λa ha b hb=>?_⟩;have haj:a<j:=by
  obtain⟨k,hk,rfl⟩:=List.getElem_of_mem ha;rw[List.getElem_take];rw[List.length_take] at hk;have hl:k<xs.toList.length:=by omega
  exact b2 k _ (by omega) (by rw[<-Array.getElem?_toList]; exact List.getElem?_eq_getElem hl)
 rcases List.mem_cons.mp hb with z | z
 ·rw[z]; exact haj
 ·exact Nat.lt_trans haj (hd b z)
structure Dd(b:Bool)(t:SetTable):Prop where
 led:t.led=b
 OI:t.dummies = #[]
 ord:t.plain=true->t.place.toList.Pairwise (· < ·)
theorem Dd.LL{b:Bool}{t:SetTable}(x:Dd b t)(n:Nat):Dd b (t.standIn n):=⟨x.led,rfl,λz=>by cases z⟩
theorem UW{t:SetTable}(hd:t.dummies = #[]){h:Int}:∀(fuel:Nat) (p:SetTable.Probe) (j:Nat) (d:Option Nat),p.dummy=none->SetTable.probe.go t (λ_=>h+1) h fuel p=some (.empty j d)->d=none/\t.slot j=.empty:=by
 intro fuel
 induction fuel with
 | zero=>intro p j d _ e; cases e
 | succ f ih =>
  intro p j d hp e;have ad:∀q:SetTable.Probe,q.dummy=none->(t.advance q).dummy=none:=λq hq=>by
   unfold SetTable.advance;split
   ·exact hq
   ·exact hq
  unfold SetTable.probe.go at e;split at e
  ·rename_i hs
   simp only[Option.some.injEq,SetTable.Met.empty.injEq] at e;exact⟨by rw[<-e.2]; exact hp,by rw[<-e.1]; exact hs⟩
  ·rename_i hs
   unfold SetTable.slot at hs;dsimp only at hs;split at hs
   ·cases hs
   ·rw[hd] at hs
    have:SetTable.has #[] p.j=false:=by unfold SetTable.has; simp
    rw[this] at hs;cases hs
  ·rename_i i hs
   have ne:((h+1:Int) == h)=false:=by rw[beq_eq_false_iff_ne]; omega
   rw[ne] at e;exact ih _ j d (ad p hp) e
theorem Dd.lay{b:Bool}{t:SetTable}(x:Dd b t)(es:Array (Int×Value))(h:Int)(v:Value):Dd b (layNew t es h v).2.1:=by
 unfold layNew;cases e:t.freeSlot h with
 | none=>exact x.LL _
 | some q =>
  obtain⟨slot,wd⟩:=q;have hs:t.place[SetTable.below t.place slot]?≠some slot:=by
   unfold SetTable.freeSlot at e;split at e
   ·rename_i j d hp
    obtain⟨rfl,hsl⟩:=UW x.OI _ _ j d rfl hp;simp only[Option.getD_none,Option.some.injEq,Prod.mk.injEq] at e;rw[<-e.1];intro z;unfold SetTable.slot at hsl;dsimp only at hsl;rw[z] at hsl;simp at hsl
   ·cases e
  have put:Dd b (t.put slot).1:=by
   refine⟨x.led,?_,λz=>T8 (x.ord z) hs⟩;show(if _ then _ else t.dummies) = #[];rw[x.OI]
   have:SetTable.has #[] slot=false:=by unfold SetTable.has; simp
   rw[this]; rfl
  show Dd b ((t.put slot).1.orStandIn _);unfold SetTable.orStandIn;split
  ·exact put
  ·exact put.LL _
theorem Tj(owner:Array (Option Nat))(n:Nat):(((List.range n).filterMap λj=>(owner.getD j none).map (j,·)).map (·.1)).Pairwise (· < ·):=by
 have e:∀l:List Nat,((l.filterMap λj=>(owner.getD j none).map (j,·)).map (·.1))=l.filter λj=>(owner.getD j none).isSome:=by
  intro l
  induction l with
  | nil=>rfl
  | cons j l ih =>
   rw[List.filterMap_cons,List.filter_cons];cases h:owner.getD j none with
   | none=>simpa using ih
   | some q=>simpa using ih
 rw[e];exact List.pairwise_lt_range.sublist List.filter_sublist
theorem Dd.Y6{b:Bool}{t:SetTable}(x:Dd b t)(es:Array (Int×Value))(n:Nat):Dd b (relayAll t es n).2.1:=by
 unfold relayAll;cases e:t.relaid (es.map (·.1)) n with
 | none=>exact x.LL _
 | some q =>
  obtain⟨t',order⟩:=q;dsimp only;split
  ·unfold SetTable.relaid SetTable.laid at e;cases o:SetTable.layClean (SetTable.sizeAbove n-1) (es.map (·.1)) with
   | none=>rw[o] at e; cases e
   | some owner =>
    rw[o] at e;simp only[Option.bind_eq_bind,Option.bind_some,Option.pure_def,Option.some.injEq,Prod.mk.injEq] at e;rw[<-e.1];exact⟨x.led,rfl,λ_=>by simpa using Tj owner _⟩
  ·exact x.LL _
def Gu(e:Int×Value):Int:=match e.2 with
 | .int k _=>k
 | _=>0
def EI(prog:Program)(w:World)(l:List (Int×Value)):Prop:=∀e∈l,∃k t,e=((intKind prog w).hash k,.int k t)
def Bz(prog:Program)(w:World)(b:Bool)(h:Heap)(a:Addr)(ks:List Int):Prop :=
 ∃o es ep t,h.get? a=some o/\o.ExactSet/\o.data=.set es ep t/\EI prog w es.toList/\(es.toList.map Gu).Perm ks/\es.size<scanBound/\t.fits es.size=true/\Dd b t
section
variable {prog:Program} {w:World}
theorem EI.el{l:List (Int×Value)}(h:EI prog w l):ElemsOf (intKind prog w) l:=λe he=>by
 obtain⟨k,t,rfl⟩:=h e he;exact⟨⟨k,intKind_is prog w k t,rfl⟩,rfl⟩
theorem EI.Gm{l m:List (Int×Value)}(h:EI prog w l)(p:List.Perm m l):EI prog w m:=λe he=>h e (p.mem_iff.mp he)
theorem Ym(k k':Int)(t:Tok):(intKind prog w).is k (.int k' t)=decide (k=k'):=KeyKind.is_eq_decide (intKind_is prog w k' t) k
theorem OU{h:Heap}{a:Addr}{o:Obj}{es:Array (Int×Value)}{ep:Nat}{t:SetTable}(ho:h.get? a=some o)(hd:o.data=.set es ep t)(es':Array (Int×Value))(t':SetTable):
  (h.update a (Obj.putSet es' t')).get? a=some { o with data:=.set es' (ep+1) t' }:=by
 have g:=Heap.get?_update_self (Obj.putSet es' t') ho (by rw[putSet_of es' t' hd]; rfl)
 rwa [putSet_of es' t' hd] at g
variable {A:Around} {E:Value->Shared->Prop} {s:Shared}
theorem QW{b:Bool}{s₁:Shared}{Q:Unit->Shared->Prop}(h:Q () s₁):wpAny (model prog w) A (match b with | true=>rule "set.scan.the-table-gave-way" | false=>pure ()) Q E s₁:=by
 cases b
 ·exact wpAny_pure h
 ·exact wpAny_rule h
theorem Ww {b:Bool} {a:Addr} {ks:List Int} {k:Int} {tk:Tok} {Q:Bool->Shared->Prop} (hS:Bz prog w b s.heap a ks) (hr:ks.length+1<scanBound)
  (h:∀h',Heap.SameBut a s.heap h'->Bz prog w b h' a (if k∈ks then ks else ks++[k])->Q (!decide (k∈ks)) { s with heap:=h' }) :
  wpAny (model prog w) A (setAddHashed a (.int k tk) ((intKind prog w).hash k)) Q E s:=by
 obtain⟨o,es,ep,t,ho,hex,hd,hel,hp,hb,hf,ti⟩:=hS;have isk:=intKind_is prog w k tk; have scn:(Value.int k tk).scannable=true:=rfl;have sz:es.size=ks.length:=by rw[<-Array.length_toList,<-hp.length_eq,List.length_map]
 have mem:k∈ks↔∃e∈es.toList,(intKind prog w).is k e.2=true:=by
  rw[<-hp.mem_iff,List.mem_map];constructor
  ·rintro⟨e,he,rfl⟩;obtain⟨k',t',rfl⟩:=hel e he;exact⟨_,he,intKind_is prog w k' t'⟩
  ·rintro⟨e,he,q⟩;obtain⟨k',t',rfl⟩:=hel e he;rw[Ym,decide_eq_true_eq] at q;exact⟨_,he,q.symm⟩
 unfold setAddHashed setAddHashedIn; refine wpAny_holding ?_;refine wpAny_bind (wpAny_setState_of ho hd hf ?_); dsimp only; rw[byScan_of scn hb hel.el];simp only[↓reduceIte]; unfold setAddByScan;refine wpAny_bind (wpAny_bind (wpAny_rule (wpAny_bind (wpAny_setScan_of isk ho hd hf hel.el ?_))));cases fi:List.findIdx? (λe=>(intKind prog w).is k e.2) es.toList with
 | some j =>
  obtain⟨hj,hpj,_⟩:=List.findIdx?_eq_some_iff_getElem.mp fi;have hk:k∈ks:=mem.mpr ⟨_,List.getElem_mem hj,hpj⟩;have fin:=h s.heap (Heap.SameBut.refl a s.heap) (by rw[if_pos hk]; exact⟨o,es,ep,t,ho,hex,hd,hel,hp,hb,hf,ti⟩);rw[decide_eq_true hk] at fin;exact wpAny_pure (wpAny_pure fin)
 | none =>
  have hk:¬k∈ks:=λz=>by
   obtain⟨e,he,q⟩:=mem.mp z;rw[List.findIdx?_eq_none_iff.mp fi e he] at q; cases q
  rw[if_neg hk,decide_eq_false hk] at h;have lp:=layNew_perm t es ((intKind prog w).hash k) (.int k tk); have lf:=layNew_fits t es ((intKind prog w).hash k) (.int k tk); have lt:=ti.lay es ((intKind prog w).hash k) (.int k tk);generalize layNew t es ((intKind prog w).hash k) (.int k tk)=L at lp lf lt ⊢;obtain⟨e1,t1,wd,gv⟩:=L;dsimp only at lp lf lt ⊢;rw[Array.toList_push] at lp;have el1:EI prog w e1.toList:=EI.Gm (λe he=>by
   rcases List.mem_append.mp he with z | z
   ·exact hel e z
   ·exact⟨k,tk,List.mem_singleton.mp z⟩) lp
  have pk1:(e1.toList.map Gu).Perm (ks++[k]):=by
   refine(lp.map Gu).trans ?_;rw[List.map_append];exact hp.append_right _
  have sz1:e1.size=ks.length+1:=by rw[<-Array.length_toList,lp.length_eq,List.length_append,Array.length_toList,sz]; rfl
  have tail:∀t2:SetTable,t2.fits e1.size=true->Dd b t2->wpAny (model prog w) A (do
    storeSet a e1 t2
    if (!wd && t2.tooFull)=true then do
      (match (relayAll t2 e1 (SetTable.grown e1.size)).2.2 with | true=>rule "set.scan.the-table-gave-way" | false=>pure ())
      storeSet a (relayAll t2 e1 (SetTable.grown e1.size)).1 (relayAll t2 e1 (SetTable.grown e1.size)).2.1
      pure (some true)
     else pure (some true)) (λr s'=>r=some true/\∃h',s'={ s with heap:=h' }/\Heap.SameBut a s.heap h'/\Bz prog w b h' a (ks++[k])) E s:=λt2 f2 i2=>by
   have b1:e1.size<scanBound:=by omega
   refine wpAny_bind (wpAny_storeSet_of ho hd ?_ (fits_of_scanBound b1));have g1:=OU ho hd e1 t2; have sb:=Heap.SameBut.update s.heap a (Obj.putSet e1 t2);split
   ·have rp:=relayAll_perm t2 e1 (SetTable.grown e1.size); have rf:=relayAll_fits t2 e1 (SetTable.grown e1.size); have ri:=i2.Y6 e1 (SetTable.grown e1.size);generalize relayAll t2 e1 (SetTable.grown e1.size)=R at rp rf ri ⊢;obtain⟨e2,t3,gv2⟩:=R;dsimp only at rp rf ri ⊢;have sz2:e2.size=e1.size:=by rw[<-Array.length_toList,rp.length_eq,Array.length_toList]
    refine wpAny_bind (QW (wpAny_bind (wpAny_storeSet_of g1 rfl ?_ (fits_of_scanBound (by omega)))));have g2:=OU g1 rfl e2 t3;exact wpAny_pure ⟨rfl,_,rfl,sb.trans (Heap.SameBut.update _ a _),_,e2,_,t3,g2,hex,rfl,el1.Gm rp,(rp.map Gu).trans pk1,by omega,rf,ri⟩
   ·exact wpAny_pure ⟨rfl,_,rfl,sb,_,e1,_,t2,g1,hex,rfl,el1,pk1,b1,f2,i2⟩
  refine wpAny_bind (QW ?_);split
  ·refine wpAny_bind ?_;rw[hashByValue_scannable 8 scn];refine wpAny_pure (wpAny_mono (tail _ lf lt) (λr s' x=>?_) λ_ _ z=>z);obtain⟨rfl,h',rfl,x1,x2⟩:=x;exact wpAny_pure (h h' x1 x2)
  ·refine wpAny_bind (wpAny_pure ?_);simp only[↓reduceIte];refine wpAny_mono (tail _ lf lt) (λr s' x=>?_) λ_ _ z=>z
   obtain⟨rfl,h',rfl,x1,x2⟩:=x;exact wpAny_pure (h h' x1 x2)
def Gv(acc:List Int)(k:Int):List Int:=if k∈acc then acc else acc++[k]
def Bm(ns:List Int):List Int:=ns.foldl Gv []
theorem UA(ns:List Int)(k:Int):Bm (ns++[k])=Gv (Bm ns) k:=by unfold Bm; rw[List.foldl_append]; rfl
theorem Of(ns:List Int):(Bm ns).length<=ns.length:=by
 have go:∀(l acc:List Int),(l.foldl Gv acc).length<=acc.length+l.length:=by
  intro l
  induction l with
  | nil=>intro acc; exact Nat.le_refl _
  | cons k l ih =>
   intro acc;rw[List.foldl_cons];refine Nat.le_trans (ih _) ?_;unfold Gv;split
   ·rw[List.length_cons]; omega
   ·rw[List.length_append,List.length_cons,List.length_cons,List.length_nil]; omega
 have:=go ns []
 rw[List.length_nil] at this;unfold Bm; omega
theorem U6(ns:List Int)(k:Int):k∈Bm ns↔k∈ns:=by
 have go:∀(l acc:List Int),k∈l.foldl Gv acc↔k∈acc\/k∈l:=by
  intro l
  induction l with
  | nil=>intro acc; simp
  | cons x l ih =>
   intro acc;rw[List.foldl_cons,ih,List.mem_cons];unfold Gv;split
   ·rename_i h
    constructor
    ·rintro(z | z)
     ·exact .inl z
     ·exact .inr (.inr z)
    ·rintro(z | rfl | z)
     ·exact .inl z
     ·exact .inl h
     ·exact .inr z
   ·rw[List.mem_append,List.mem_singleton];constructor
    ·rintro((z | z) | z)
     ·exact .inl z
     ·exact .inr (.inl z)
     ·exact .inr (.inr z)
    ·rintro(z | z | z)
     ·exact .inl (.inl z)
     ·exact .inl (.inr z)
     ·exact .inr z
 have:=go ns []
 unfold Bm;simpa using this
theorem Tg(ns:List Int):(Bm ns).Nodup:=by
 have go:∀(l acc:List Int),acc.Nodup->(l.foldl Gv acc).Nodup:=by
  intro l
  induction l with
  | nil=>intro acc h; exact h
  | cons x l ih =>
   intro acc h;rw[List.foldl_cons];refine ih _ ?_;unfold Gv;split
   ·exact h
   ·rename_i hx
    rw[List.nodup_append];exact⟨h,by simp,λa ha b hb=>by rw[List.mem_singleton.mp hb]; exact λz=>hx (z ▸ ha)⟩
 exact go ns [] List.nodup_nil
abbrev EA(w:World):Bool:=!w.params.followText "set-order"
theorem Vy{R:Result->Shared->Prop}{St:Nat->Heap->Prop}{I ax S:Addr}{items:Array Value}{ns:List Int}(W:Walks prog w A.in1 I [I,ax] [I] items.size (λi v=>items[i]?=some v) St)(hSI:S≠I)(hSa:S≠ax)(hv:IntsAre items.toList ns)(hb:items.size+1<scanBound){b:Bool}:
  ∀(k i:Nat) (s:Shared),items.size-i=k->i<=items.size->St i s.heap->Bz prog w b s.heap S (Bm (ns.take i)) →
   (∀h' tk,(∀c o,c≠S->c≠I->s.heap.get? c=some o->h'.get? c=some o)->Bz prog w b h' S (Bm ns)->R (.ok (.ret .none)) { s with heap:=h',toks:=tk }) →
   codeAny (model prog w) A (.builtin "set.update.loop" ⟨[.ref S,.ref I],[]⟩) R s:=by
 have ln:ns.length=items.size:=by rw[<-Array.length_toList]; exact hv.length.symm
 have keepX:∀{h h':Heap} {ks:List Int},Bz prog w b h S ks->(∀o,h.get? S=some o->h'.get? S=some o)->Bz prog w b h' S ks:=λx k=>by
  obtain⟨o,es,ep,t,ho,rest⟩:=x;exact⟨o,es,ep,t,k o ho,rest⟩
 intro k
 induction k with
 | zero =>
  intro i s hk hi hst hS hR; obtain rfl:i=items.size:=by omega
  refine codeAny_builtin F.entry_set_update_loop ?_; rw[Around.under_plainId F.plain_set_update_loop _]; show wpAny _ A.in1 (pyNext (.ref I) >>= _) _ _ s;refine wpAny_bind (W.done s _ _ hst λh' tk hk'=>wpAny_pure (hR h' tk (λc o _ c2 e=>hk' c o (by simpa using c2) e) ?_));rw[List.take_of_length_le (by omega)] at hS;exact keepX hS λo e=>hk' S o (by simpa using hSI) e
 | succ k ih =>
  intro i s hk hi hst hS hR; have hlt:i<items.size:=by omega
  refine codeAny_builtin F.entry_set_update_loop ?_; rw[Around.under_plainId F.plain_set_update_loop _]; show wpAny _ A.in1 (pyNext (.ref I) >>= _) _ _ s;refine wpAny_bind (W.item i s _ _ hlt hst λv h' tk hP hst' hk'=>?_);obtain⟨t,rfl⟩:=IntsAre.int_at hv i v (by rw[Array.getElem?_toList]; exact hP);have hS':Bz prog w b h' S (Bm (ns.take i)):=keepX hS λo e=>hk' S o (by simpa using hSI) e
  show wpAny _ A.in1 (holding [Value.int (ns.getD i 0) t] (setAdd S (.int (ns.getD i 0) t)) >>= _) _ _ _;refine wpAny_bind (wpAny_holding ?_); unfold setAdd; refine wpAny_holding (wpAny_bind ((intKind prog w).pyHash (intKind_is prog w (ns.getD i 0) t) ?_));have room:(Bm (ns.take i)).length+1<scanBound:=by
   have:=Of (ns.take i)
   rw[List.length_take] at this; omega
  refine Ww (s:={ s with heap:=h',toks:=tk+1 }) hS' room λh2 sb x2=>?_
  have eN:Bm (ns.take (i+1))=if ns.getD i 0∈Bm (ns.take i) then Bm (ns.take i) else Bm (ns.take i)++[ns.getD i 0]:=by
   have e:ns[i]?=some (ns.getD i 0):=by rw[List.getD_eq_getElem?_getD,List.getElem?_eq_getElem (by omega)]; rfl
   rw[List.take_add_one,e];exact UA _ _
  rw[<-eN] at x2;have fr:∀c o,c≠S->h'.get? c=some o->h2.get? c=some o:=λc o hc e=>by rw[sb.2 c hc]; exact e
  refine wpAny_pure ⟨plainId_quiet F.plain_set_update_loop _,ih (i+1) _ (by omega) hlt (W.frame _ _ _ hst' λc hc o e=>fr c o (λz=>?_) e) x2 λh3 tk3 k3 x3=>?_⟩
  ·rcases List.mem_cons.mp hc with y | y
   ·exact hSI (z.symm.trans y)
   ·exact hSa (z.symm.trans (List.mem_singleton.mp y))
  ·exact hR h3 tk3 (λc o c1 c2 e=>k3 c o c1 c2 (fr c o c1 (hk' c o (by simpa using c2) e))) x3
theorem Wa(a:Value){Q₁:Value->Shared->Prop}(h:Q₁ (.ref s.heap.objs.size) { s with heap:=s.heap.push { cls:=.type "set",dict:=none,data:=.set #[] 0 (.fresh 0 0 (EA w)) } }):
  codeAny (model prog w) A (.call (.builtin "set.__new__") ⟨[.type "set",a],[]⟩) (wants Q₁ E) s:=by
 refine codeAny_of_tree ?_; show wpAny _ A.in1 (do checkBuiltinCall "set.__new__" ⟨[.type "set",a],[]⟩; again (.builtin "set.__new__" ⟨[.type "set",a],[]⟩)) _ _ s;refine wpAny_bind (wpAny_of_eq (PySem.F.newCall_set_1 a) (wpAny_pure ⟨plainId_quiet PySem.F.plain_set_new _,codeAny_builtin PySem.F.entry_set_new ?_⟩)); rw[Around.under_plainId PySem.F.plain_set_new _];unfold Builtin.«set.__new__» Builtin.Frozenset.newClass; have hsub:=sub_set_self; obtain⟨hp,g,d,tk,os⟩:=s; dsimp only
 wp_walk
 refine wpAny_askSetting (wpAny_pure ?_); dsimp only; simp only[newObj];refine wpAny_bind (wpAny_alloc (wpAny_pure ?_)); exact wpAny_pure h
abbrev FV(w:World):Obj:={ cls:=.type "set",dict:=none,data:=.set #[] 0 (.fresh 0 0 (EA w)) }
theorem Vo(h:Heap):Bz prog w (EA w) (h.push (FV w)) h.objs.size [] :=
 ⟨FV w,#[],0,_,Heap.get?_push_size h rfl,⟨rfl,rfl,rfl⟩,rfl,λe he=>by simp at he,List.Perm.refl _,by decide,rfl,⟨rfl,rfl,λ_=>List.Pairwise.nil⟩⟩
set_option maxRecDepth 100000 in
set_option maxHeartbeats 3200000 in
theorem VZ {l:Addr} {items:Array Value} {ns:List Int} {Q:Value->Shared->Prop} (hh:A.handled=none) (hl:s.heap.IsList l items) (hv:IntsAre items.toList ns) (hb:items.size+1<scanBound)
  (h:∀(h':Heap) (tk:Nat),Bz prog w (EA w) h' s.heap.objs.size (Bm ns)->(∀b o,s.heap.get? b=some o->h'.get? b=some o)->Q (.ref s.heap.objs.size) { s with heap:=h',toks:=tk }) :
  wpAny (model prog w) A (call (.type "set") [.ref l]) Q E s:=by
 obtain⟨c,tl,hmro⟩:=PySem.F.called_set.mro; have hmade:=PySem.F.called_set.made; have hsub:=PySem.F.called_set.sub;refine wpAny_call (codeAny_of_tree ?_); show wpAny _ _ (callAny (.type "set") _) _ _ _;refine wpAny_pure ⟨Code.quiet_builtin _ (by decide +kernel),codeAny_builtin PySem.F.entry_type_call ?_⟩; rw[Around.under_plain (weight_type_call_type "set" [.ref l] []) rfl];have h1:=PySem.F.called_set.notType; have h2:=PySem.F.called_set.canCreate; have hct:=PySem.F.typeCall_set_1 (.ref l)
 repeat (any_goals (first | assumption | wp_step))
 refine codeAny_mono (Wa (.ref l) (E:=E) (Q₁:=λob s₁=>ob=.ref s.heap.objs.size/\s₁={ s with heap:=s.heap.push (FV w) }) ⟨rfl,rfl⟩) λr s₁ hr=>?_
 cases r with
 | error e=>exact hr
 | ok fl =>
  cases fl with
  | ret ob =>
   obtain⟨rfl,rfl⟩:=hr;have oS:(s.heap.push (FV w)).get? s.heap.objs.size=some (FV w):=Heap.get?_push_size _ rfl;have hT:Shared.TypeIs { s with heap:=s.heap.push (FV w) } (.ref s.heap.objs.size) "set":=⟨_,oS,rfl⟩;have hli:=PySem.F.called_set.init.lookup; have hbi:=PySem.F.called_set.init.bind (.ref s.heap.objs.size)
   repeat (any_goals (first | assumption | wp_step))
   refine codeAny_mono (codeAny_call_builtin (R:=wants (λr s₂=>r=.none/\∃h' tk,s₂={ s with heap:=h',toks:=tk }/\Bz prog w (EA w) h' s.heap.objs.size (Bm ns)/\(∀b o,s.heap.get? b=some o->h'.get? b=some o)) E)
    PySem.F.called_set.init.plain PySem.F.entry_set_init (check_set_init_1 hT ?_)) λr₂ s₂ hr₂=>?_
   ·obtain⟨ol,hol,hcl,nl,hdl⟩:=hl; obtain⟨oc,od,oda,osl⟩:=ol; simp only at hcl hdl;subst hcl; subst hdl;have hol':(s.heap.push (FV w)).get? l=some { cls:=.type "list",dict:=od,data:=.seq items nl,slots:=osl }:=Heap.get?_push_of_some _ hol;have hsls:=PySem.F.sub_list_set; have hslf:=PySem.F.sub_list_frozenset; have hne:(Value.type "list" == Value.type "dict")=false:=by decide
    have hl1:(s.heap.push (FV w)).IsList l items:=⟨_,hol',rfl,nl,rfl⟩;unfold Builtin.«set.__init__» noKeywords Builtin.Frozenset.updateFrom; generalize hPI:pyIter=PI
    wp_walk
    subst hPI;refine wpAny_pyIter_list hl1 (wpAny_bind (wpAny_runValue ?_));have hlS:l<s.heap.objs.size:=Heap.lt_size hol; have hh3:A.in1.in1.in1.handled=none:=by simp[hh]
    have lI:l≠(s.heap.push (FV w)).objs.size:=by rw[Heap.size_push]; exact Nat.ne_of_lt (Nat.lt_succ_of_lt hlS)
    have sI:s.heap.objs.size≠(s.heap.push (FV w)).objs.size:=by rw[Heap.size_push]; exact Nat.ne_of_lt (Nat.lt_succ_self _)
    refine Vy (Walks.list hh3 _ l lI items) sI (Nat.ne_of_gt hlS) hv hb (b:=EA w) (items.size-0) 0 _ (by omega) (Nat.zero_le _) ⟨⟨_,Heap.get?_push_size _ rfl,rfl,rfl⟩,hl1.push _⟩ ?s0 ?fin
    case s0 =>
     obtain⟨o,es,ep,t,ho,rest⟩:=Vo (prog:=prog) (w:=w) s.heap;exact⟨o,es,ep,t,Heap.get?_push_of_some _ ho,rest⟩
    case fin =>
     intro h' tk k3 x3;show wpAny _ _ _ _ _ _;refine wpAny_pure ?_;show wpAny _ _ (ret Value.none) _ _ _;refine wpAny_pure ⟨rfl,h',tk,rfl,x3,λb o e=>?_⟩;have lb:=Heap.lt_size e;exact k3 b o (Nat.ne_of_lt lb) (by rw[Heap.size_push]; exact Nat.ne_of_lt (Nat.lt_succ_of_lt lb)) (Heap.get?_push_of_some _ (Heap.get?_push_of_some _ e))
   ·cases r₂ with
    | error e=>exact hr₂
    | ok fl₂ =>
     cases fl₂ with
     | ret r =>
      obtain⟨rfl,h',tk,rfl,x3,k3⟩:=hr₂
      repeat (any_goals (first | assumption | wp_step))
      exact h _ _ x3 k3
     | _=>exact hr₂.elim
  | _=>exact hr.elim
theorem Oh:Manifest.owners.lookup (String.ofList ['r','o','t','a','r','e','t','i','_','t','e','s'].reverse)=some Manifest.sig_set_iterator:=by kernel_rfl
theorem Ij:Slot "set_iterator" "__next__" "set_iterator.__next__":=.of (owner:="set_iterator") (n:="__next__") (by rw[typeLookup_type,builtinLookup_eq_fast]; kernel_rfl) (by decide +kernel) (by decide +kernel) (by decide +kernel)
 (by first | exact .inl (by decide +kernel) | exact .inr (by decide +kernel)) (by rw[isSubtype_type]; kernel_rfl)
theorem TJ:entryFor table "set_iterator.__next__" = some Builtin.«set_iterator.__next__»:=entryFor_of_tree (by kernel_rfl)
theorem TN(a:Value):argsOk "set_iterator.__next__" ⟨[a],[]⟩:=by
 unfold argsOk; rw[signature?_of (id:="set_iterator.__next__") (n:=['_','_','t','x','e','n','_','_']) (o:=['r','o','t','a','r','e','t','i','_','t','e','s']) (by kernel_rfl) Oh]; kernel_rfl
theorem OK:Slot "set_iterator" "__iter__" "set_iterator.__iter__":=.of (owner:="set_iterator") (n:="__iter__") (by rw[typeLookup_type,builtinLookup_eq_fast]; kernel_rfl) (by decide +kernel) (by decide +kernel) (by decide +kernel)
 (by first | exact .inl (by decide +kernel) | exact .inr (by decide +kernel)) (by rw[isSubtype_type]; kernel_rfl)
theorem TH:entryFor table "set_iterator.__iter__" = some Builtin.«dict_keyiterator.__iter__»:=entryFor_alias (id':="dict_keyiterator.__iter__") (by kernel_rfl) rfl (by decide +kernel) (by kernel_rfl)
theorem TK(a:Value):argsOk "set_iterator.__iter__" ⟨[a],[]⟩:=by
 unfold argsOk; rw[signature?_of (id:="set_iterator.__iter__") (n:=['_','_','r','e','t','i','_','_']) (o:=['r','o','t','a','r','e','t','i','_','t','e','s']) (by kernel_rfl) Oh]; kernel_rfl
theorem TQ:entryFor table "set.__iter__" = some Builtin.«frozenset.__iter__»:=entryFor_alias (id':="frozenset.__iter__") (by kernel_rfl) rfl (by decide +kernel) (by kernel_rfl)
theorem OY{α:Type}{l:List α}{i:Nat}(h:i<l.length):(l[i] :: l.eraseIdx i).Perm l:=by
 rw[List.eraseIdx_eq_take_drop_succ];have e:l=l.take i++l[i] :: l.drop (i+1):=by rw[List.getElem_cons_drop,List.take_append_drop]
 conv=>rhs; rw[e]
 exact List.perm_middle.symm
theorem T7{src:Source}{n:Nat}{Q:Nat->Shared->Prop}(hn:n≠0)(h:Q (w.draws src (s.drawn.get src) % n) { s with drawn:=s.drawn.bump src }):wpAny (model prog w) A (choose src n) Q E s:=λ_ _ _=>⟨hn,h⟩
theorem Ue{α:Type}(next:Nat->Nat)(xs:Array α):(pickOrder next xs).toList.Perm xs.toList:=by
 have go:∀(fuel k:Nat) (left:List α) (out:Array α),left.length<=fuel->(pickOrder.go next fuel k left out).toList.Perm (out.toList++left):=by
  intro fuel
  induction fuel with
  | zero =>
   intro k left out hl;obtain rfl:left=[]:=List.length_eq_zero_iff.mp (by omega);unfold pickOrder.go;simp
  | succ f ih =>
   intro k left out hl;unfold pickOrder.go;cases e:left[next k % left.length]? with
   | none =>
    dsimp only
    have:left=[]:=by
     cases left with
     | nil=>rfl
     | cons x l =>
      have:=Nat.mod_lt (next k) (show 0<(x :: l).length by simp)
      rw[List.getElem?_eq_getElem this] at e; cases e
    rw[this]; simp
   | some x =>
    dsimp only;obtain⟨hk,ex⟩:=List.getElem?_eq_some_iff.mp e;refine(ih _ _ _ (by rw[List.length_eraseIdx_of_lt hk]; omega)).trans ?_;rw[Array.toList_push,List.append_assoc];refine List.Perm.append_left _ ?_;rw[<-ex];exact OY hk
 have:=go xs.size 0 xs.toList #[] (by simp)
 simpa [pickOrder] using this
theorem Pm{α:Type}{R:List α->Shared->Prop}:∀(n:Nat) (xs:List α) (s:Shared),n=xs.length->(∀ys d',ys.Perm xs->R ys { s with drawn:=d' })->wpAny (model prog w) A (drawOrder n xs) R E s
 | 0,xs,s,hn,h=>by
  obtain rfl:xs=[]:=List.length_eq_zero_iff.mp hn.symm;unfold drawOrder;exact wpAny_pure (h [] s.drawn (List.Perm.refl _))
 | n+1,[],s,hn,h=>by cases hn
 | n+1,x :: xs,s,hn,h=>by
  unfold drawOrder;refine wpAny_bind (T7 (by simp) ?_);have hk:=Nat.mod_lt (w.draws .order (s.drawn.get .order)) (show 0<(x :: xs).length by simp);generalize w.draws .order (s.drawn.get .order) % (x :: xs).length=i at hk ⊢;rw[List.getElem?_eq_getElem hk];dsimp only;refine wpAny_bind (Pm n ((x :: xs).eraseIdx i) _ (by rw[List.length_eraseIdx_of_lt hk]; simp at hn ⊢; omega) λys d' p=>wpAny_pure (h _ d' ?_));exact(List.Perm.cons _ p).trans (OY hk)
end
section
variable {prog:Program} {w:World} {A:Around} {E:Value->Shared->Prop} {s:Shared}
abbrev C7(first:Value)(i:Nat)(a:Addr)(n ep:Nat):Obj:={ cls:=.type "set_iterator",data:=.fields #[first,.int i 0,.ref a,.int n 0,.int ep 0] }
theorem KC {I:Addr} {first:Value} {i:Nat} {a:Addr} {n ep:Nat} {Q:Option Value->Shared->Prop} (hI:s.heap.get? I=some (C7 first i a n ep))
  (hc:wpAny (model prog w) A.in1 (Builtin.«set_iterator.__next__» ⟨[.ref I],[]⟩) (λfin s'=>∃r,fin=.done (.ret r)/\Q (some r) s') (λe s'=>∃ob o,s'.heap.get? ob=some o/\o.cls=.type "StopIteration"/\e=.ref ob/\Q none s') s) :
  wpAny (model prog w) A (pyNext (.ref I)) Q E s:=by
 have hT:s.TypeIs (.ref I) "set_iterator":=⟨_,hI,rfl⟩;unfold pyNext;refine wpAny_bind (wpAny_attempt (wpAny_callSpecial?_slot (name:=Str.ofString "__next__") hT Ij (wpAny_call_entry Ij hT TJ ?_ (TN _))));refine wpAny_mono hc (λfin s' x=>?_) (λe s' x=>?_)
 ·obtain⟨r,rfl,q⟩:=x;exact⟨r,rfl,wpAny_pure q⟩
 ·obtain⟨ob,o,ho,hcl,rfl,q⟩:=x;refine wpAny_bind (wpAny_isInstance (T:="StopIteration") (b:=true) ⟨_,ho,hcl⟩ isSubtype_stop ?_);exact wpAny_pure q
theorem Im{h:Heap}{I:Addr}{f0 f1 f2 f3 f4:Value}{cl:Value}(hI:h.get? I=some { cls:=cl,data:=.fields #[f0,f1,f2,f3,f4] })(k:Nat)(v:Value):
  (h.update I (Obj.mapFields (·.setIfInBounds k v))).get? I=some { cls:=cl,data:=.fields (#[f0,f1,f2,f3,f4].setIfInBounds k v) }:=Heap.get?_update_self _ hI rfl
theorem Pr {h:Heap} {I:Addr} {R:Fin->Shared->Prop} {X:Value->Shared->Prop} (hh:A.handled=none) (s₁:Shared) (he:Heap.ExtBut I h s₁.heap)
  (hX:∀ob o h',h'.get? ob=some o->o.cls=.type "StopIteration"->Heap.ExtBut I h h'->X (.ref ob) { s₁ with heap:=h' }):wpAny (model prog w) A (newExc (.type "StopIteration") [] >>= λe=>raiseNew e) R X s₁:=by
 refine wpAny_bind ?_; simp only[newExc,newTuple];refine wpAny_bind (wpAny_newObj_type ?_ (by size_fits)); refine wpAny_bind (m:=firstArgMember _ _) (wpAny_of_eq (a:=Value.none) (by first | rfl | (simp only[firstArgMember]; rfl)) ?_);refine wpAny_newObj_type ?_ (by size_fits); simp only[raiseNew];refine wpAny_bind (wpAny_handled ?_); rw[hh];refine wpAny_bind (wpAny_pure (wpAny_throw ?_));exact hX _ _ _ (Heap.get?_push_size _ rfl) rfl ((he.push _).push _)
section
variable {I a:Addr} {o:Obj} {es:Array (Int×Value)} {i n ep sl:Nat} {t:SetTable} {Q:Option Value->Shared->Prop}
theorem XG {v:Value} {nx:Nat} (hI:s.heap.get? I=some (C7 (.int sl 0) i a n ep)) (ho:s.heap.get? a=some o) (hd:o.data=.set es ep t) (hf:t.fits es.size=true) (hn:es.size=n)
  (hN:∀(A':Around) (E':Value->Shared->Prop) (Q':Option (Value×Nat)->Shared->Prop),Q' (some (v,nx)) s->wpAny (model prog w) A' (setNext a sl i ep) Q' E' s)
  (hQ:∀h',h'.get? I=some (C7 (.int nx 0) (i+1) a n ep)->Heap.SameBut I s.heap h'->Q (some v) { s with heap:=h' }):wpAny (model prog w) A (pyNext (.ref I)) Q E s:=by
 refine KC hI ?_;unfold Builtin.«set_iterator.__next__»;refine wpAny_bind (wpAny_pure ?_);refine wpAny_bind (wpAny_fieldsOf hI rfl ?_);show wpAny _ _ (setEntries a >>= _) _ _ s;refine wpAny_bind (wpAny_setEntries_of ho hd hf ?_);rw[if_neg (by simp[hn])];show wpAny _ _ (setNext a ((sl:Int).toNat) ((i:Int).toNat) ((ep:Int).toNat) >>= _) _ _ s;simp only[Int.toNat_natCast];refine wpAny_bind (hN _ _ _ ?_);show wpAny _ _ (setField (.ref I) 0 (rawInt nx) >>= _) _ _ s;refine wpAny_bind (wpAny_setField hI rfl (by simp) ?_);have g1:=Im hI 0 (rawInt nx);show wpAny _ _ (setField (.ref I) 1 (rawInt ((i:Int)+1)) >>= _) _ _ _;refine wpAny_bind (wpAny_setField g1 rfl (by simp) (wpAny_pure ⟨v,rfl,hQ _ ?_ ?_⟩))
 ·have g2:=Im (f0:=rawInt nx) (by simpa using g1) 1 (rawInt ((i:Int)+1));rw[g2]; simp[rawInt]
 ·exact(Heap.SameBut.update ..).trans (Heap.SameBut.update ..)
theorem Yt (hh:A.handled=none) (hI:s.heap.get? I=some (C7 (.int sl 0) i a n ep)) (ho:s.heap.get? a=some o) (hd:o.data=.set es ep t) (hf:t.fits es.size=true) (hn:es.size=n)
  (hN:∀(A':Around) (E':Value->Shared->Prop) (Q':Option (Value×Nat)->Shared->Prop),Q' none s->wpAny (model prog w) A' (setNext a sl i ep) Q' E' s)
  (hQ:∀h',Heap.ExtBut I s.heap h'->Q none { s with heap:=h' }):wpAny (model prog w) A (pyNext (.ref I)) Q E s:=by
 refine KC hI ?_;unfold Builtin.«set_iterator.__next__»;refine wpAny_bind (wpAny_pure ?_);refine wpAny_bind (wpAny_fieldsOf hI rfl ?_);show wpAny _ _ (setEntries a >>= _) _ _ s;refine wpAny_bind (wpAny_setEntries_of ho hd hf ?_);rw[if_neg (by simp[hn])];show wpAny _ _ (setNext a ((sl:Int).toNat) ((i:Int).toNat) ((ep:Int).toNat) >>= _) _ _ s;simp only[Int.toNat_natCast];refine wpAny_bind (hN _ _ _ ?_);show wpAny _ _ (setField (.ref I) 2 .none >>= _) _ _ s;refine wpAny_bind (wpAny_setField hI rfl (by simp) ?_);exact Pr (A:=A.in1) (h:=s.heap) (I:=I) hh { s with heap:=s.heap.update I (Obj.mapFields (·.setIfInBounds 2 Value.none)) } (Heap.SameBut.update ..).extBut (λob o' h' e1 e2 e3=>⟨ob,o',e1,e2,rfl,hQ h' e3⟩)
end
end
section
variable {prog:Program} {w:World} {A:Around} {E:Value->Shared->Prop} {s:Shared} {a I:Addr} {o:Obj} {es:Array (Int×Value)} {i n ep:Nat} {t:SetTable}
theorem Ko{Q:Bool->Shared->Prop}(h:Q (w.params.followText "set-order") s):wpAny (model prog w) A setsByText Q E s:=by
 unfold setsByText; exact wpAny_bind (wpAny_askSetting (wpAny_pure h))
def Dz(t:SetTable):Nat->Nat
 | 0=>0
 | i+1=>t.place.getD i 0+1
theorem Ve{t:SetTable}(hs:t.place.toList.Pairwise (· < ·)):∀i,i<=t.place.size->SetTable.below t.place (Dz t i)=i:=by
 have mono:∀(a b x y:Nat),a<b->t.place[a]?=some x->t.place[b]?=some y->x<y:=λa b x y hab ha hb=>by
  rw[<-Array.getElem?_toList] at ha hb;obtain⟨h1,rfl⟩:=List.getElem?_eq_some_iff.mp ha;obtain⟨h2,rfl⟩:=List.getElem?_eq_some_iff.mp hb;exact List.pairwise_iff_getElem.mp hs a b h1 h2 hab
 intro i hi;obtain⟨b1,b2,b3⟩:=Pu hs (Dz t i);rcases Nat.lt_trichotomy (SetTable.below t.place (Dz t i)) i with z | z | z
 ·have e:t.place[SetTable.below t.place (Dz t i)]?=some t.place[SetTable.below t.place (Dz t i)]:=Array.getElem?_eq_getElem (by omega);have g:=b3 _ _ (Nat.le_refl _) e;generalize t.place[SetTable.below t.place (Dz t i)]=x at e g;cases i with
  | zero=>omega
  | succ i =>
   have ei:t.place[i]?=some t.place[i]:=Array.getElem?_eq_getElem (by omega);have gi:Dz t (i+1)=t.place[i]+1:=by show t.place.getD i 0+1=_; rw[Array.getD_eq_getD_getElem?,ei]; rfl
   rcases Nat.lt_or_ge (SetTable.below t.place (Dz t (i+1))) i with y | y
   ·have:=mono _ _ _ _ y e ei; omega
   ·have eb:SetTable.below t.place (Dz t (i+1))=i:=by omega
    rw[eb,ei] at e;cases e; omega
 ·exact z
 ·have ei:t.place[i]?=some t.place[i]:=Array.getElem?_eq_getElem (by omega);have g:=b2 i _ z ei;generalize t.place[i]=x at ei g;cases i with
  | zero=>simp[Dz] at g
  | succ i =>
   have e0:t.place[i]?=some t.place[i]:=Array.getElem?_eq_getElem (by omega);have gi:Dz t (i+1)=t.place[i]+1:=by show t.place.getD i 0+1=_; rw[Array.getD_eq_getD_getElem?,e0]; rfl
   have:=mono i (i+1) _ _ (by omega) e0 ei
   omega
theorem WY (hb:w.params.followText "set-order" = false) (ho:s.heap.get? a=some o) (hd:o.data=.set es ep t) (hf:t.fits es.size=true) (ti:Dd true t) (hp:(!t.plain && decide (es.size > 1))=false) (hi:i<=es.size)
  {Q:Option (Value×Nat)->Shared->Prop} (h:Q (if i<es.size then some ((es.getD i (0,.none)).2,Dz t (i+1)) else none) s):wpAny (model prog w) A (setNext a (Dz t i) i ep) Q E s:=by
 have sz:t.place.size=es.size:=by
  unfold SetTable.fits at hf;simp only[Bool.and_eq_true,beq_iff_eq] at hf;exact hf.1
 have ord:t.place.toList.Pairwise (· < ·):=by
  cases hpl:t.plain with
  | true=>exact ti.ord hpl
  | false =>
   rw[hpl] at hp
   have:t.place.toList.length<=1:=by simp at hp; rw[Array.length_toList]; omega
   match hl:t.place.toList,this with
   | [],_=>exact List.Pairwise.nil
   | [x],_=>exact List.pairwise_singleton _ _
 unfold setNext;refine wpAny_bind (wpAny_setState_of ho hd hf ?_);refine wpAny_bind (Ko ?_);rw[hb];refine wpAny_ite_split (λz=>by cases z) (λ_=>?_);refine wpAny_ite_split (λz=>absurd z (show ¬((!t.plain && decide (es.size > 1))=true) by rw[hp]; decide)) (λ_=>?_);refine wpAny_bind ?_;refine wpAny_ite_split (λz=>absurd z (show ¬((!t.led && !es.isEmpty)=true) by rw[ti.led]; simp)) (λ_=>wpAny_pure ?_);rw[Ve ord i (by omega)];refine wpAny_pure ?_;rcases Nat.lt_or_ge i es.size with z | z
 ·rw[if_pos z] at h;have e1:es[i]?=some (es.getD i (0,.none)):=by rw[Array.getD_eq_getD_getElem?,Array.getElem?_eq_getElem z]; rfl
  have e2:t.place[i]?=some (t.place.getD i 0):=by rw[Array.getD_eq_getD_getElem?,Array.getElem?_eq_getElem (by omega)]; rfl
  rw[e1,e2];exact h
 ·rw[if_neg (by omega)] at h;rw[Array.getElem?_eq_none z];exact h
theorem VF (hb:w.params.followText "set-order" = true) (ho:s.heap.get? a=some o) (hd:o.data=.set es ep t) (hf:t.fits es.size=true)
  {Q:Option (Value×Nat)->Shared->Prop} (h:Q ((pickOrder (w.params.setOrder a ep) es)[i]?.map λe=>(e.2,0)) s):wpAny (model prog w) A (setNext a 0 i ep) Q E s:=by
 unfold setNext;refine wpAny_bind (wpAny_setState_of ho hd hf ?_);refine wpAny_bind (Ko ?_);rw[hb];refine wpAny_ite_split (λ_=>?_) (λz=>absurd rfl z);dsimp only;refine wpAny_ite_split (λz=>absurd z (by simp)) (λ_=>?_);unfold setWalk;refine wpAny_bind (wpAny_bind (wpAny_setState_of ho hd hf ?_));refine wpAny_bind (Ko ?_);rw[hb];refine wpAny_ite_split (λ_=>?_) (λz=>absurd rfl z);refine wpAny_bind (wpAny_askSetting (wpAny_pure ?_));exact wpAny_pure h
theorem Vz{Q:Bool->Shared->Prop}(hT:s.TypeIs (.ref a) "set")(h:Q false s):wpAny (model prog w) A (Builtin.List.listLengthHint (.ref a)) Q E s:=by
 unfold Builtin.List.listLengthHint; refine wpAny_bind (wpAny_specialOf hT PySem.F.slot_set_len.lookup ?_);generalize hid:("set.__len__":String)=id0
 wp_delta
 rw[show splitId id0=some ("set","__len__") from by subst hid; decide +kernel]; subst hid;refine wpAny_bind (wpAny_isInstance (T:="set") (b:=true) hT (by rw[isSubtype_type]; kernel_rfl) ?_);refine wpAny_ite_split (λz=>absurd z (by decide)) (λ_=>wpAny_ite_split (λ_=>?_) (λz=>absurd (by decide +kernel) z));exact wpAny_bind (wpAny_typeOf hT (wpAny_pure h))
abbrev GF(ys:List Nat):Obj:={ cls:=.type "tuple",data:=.seq (ys.map λy:Nat=>rawInt (y:Int)).toArray }
theorem WB {Q:Value->Shared->Prop} (ho:s.heap.get? a=some o) (hx:o.ExactSet) (hd:o.data=.set es ep t) (hf:t.fits es.size=true) (hz:es.size<=sizeLine)
  (h1:(!w.params.followText "set-order" && (!t.plain && decide (es.size > 1)))=false->Q (.ref s.heap.objs.size) { s with heap:=s.heap.push (C7 (.int 0 0) 0 a es.size ep) })
  (h2:(!w.params.followText "set-order" && (!t.plain && decide (es.size > 1)))=true->∀ys d',ys.Perm (List.range es.size)->Q (.ref (s.heap.objs.size+1)) { s with heap:=(s.heap.push (GF ys)).push (C7 (.ref s.heap.objs.size) 0 a es.size ep),drawn:=d' }) :
  wpAny (model prog w) A (pyIter (.ref a)) Q E s:=by
 have hT:s.TypeIs (.ref a) "set":=⟨o,ho,hx.1⟩;refine wpAny_pyIter_slot hT PySem.F.slot_set_iter (wpAny_call_entry PySem.F.slot_set_iter hT TQ ?_ (PySem.F.args_set_iter_1 _));unfold Builtin.«frozenset.__iter__»;refine wpAny_bind (wpAny_pure ?_);unfold Builtin.Frozenset.sizeOf;refine wpAny_bind (wpAny_bind (wpAny_setEntries_of ho hd hf (wpAny_pure ?_)));unfold setDrawn;refine wpAny_bind (wpAny_bind (wpAny_setState_of ho hd hf (wpAny_bind (Ko (wpAny_pure ?_)))));refine wpAny_ite_split (λz=>?_) (λz=>?_)
 ·have z':(!w.params.followText "set-order" && (!t.plain && decide (es.size > 1)))=true:=z;refine wpAny_bind (Pm es.size (List.range es.size) s (by simp) λys d' p=>?_);have ly:ys.length=es.size:=by rw[p.length_eq,List.length_range]
  unfold newTuple;refine wpAny_bind (wpAny_newObj_type ?_ (by simp only[sizeOk,List.size_toArray,List.length_map,ly]; exact hz));have ho':=Heap.get?_push_of_some (GF ys) ho;refine wpAny_bind (wpAny_setEpoch_of (s:={ s with heap:=s.heap.push (GF ys),drawn:=d' }) ho' hd hf ?_);unfold newFields;refine wpAny_bind (wpAny_newObj_type (wpAny_pure ⟨_,rfl,"set_iterator",_,⟨_,Heap.get?_push_size _ rfl,rfl⟩,Ij.lookup,?_⟩));have fin:=h2 z' ys d' p;have e:(s.heap.push (GF ys)).objs.size=s.heap.objs.size+1:=Heap.size_push ..;simp only[e];exact fin
 ·refine wpAny_bind (wpAny_pure ?_);refine wpAny_bind (wpAny_setEpoch_of ho hd hf ?_);unfold newFields;refine wpAny_bind (wpAny_newObj_type (wpAny_pure ⟨_,rfl,"set_iterator",_,⟨_,Heap.get?_push_size _ rfl,rfl⟩,Ij.lookup,?_⟩));have z':(!w.params.followText "set-order" && (!t.plain && decide (es.size > 1)))=false:=by
   have:¬(!w.params.followText "set-order" && (!t.plain && decide (es.size > 1)))=true:=z
   rwa [Bool.not_eq_true] at this
  exact h1 z'
variable {tp:Addr} {Q:Option Value->Shared->Prop}
theorem UM {ys:List Nat} {y:Nat} {e:Int×Value} (hI:s.heap.get? I=some (C7 (.ref tp) i a n ep)) (hT:s.heap.get? tp=some (GF ys)) (ho:s.heap.get? a=some o) (hd:o.data=.set es ep t) (hf:t.fits es.size=true) (hn:es.size=n) (hy:ys[i]?=some y) (he:es[y]?=some e)
  (hQ:∀h',h'.get? I=some (C7 (.ref tp) (i+1) a n ep)->Heap.SameBut I s.heap h'->Q (some e.2) { s with heap:=h' }):wpAny (model prog w) A (pyNext (.ref I)) Q E s:=by
 refine KC hI ?_;unfold Builtin.«set_iterator.__next__»;refine wpAny_bind (wpAny_pure (wpAny_bind (wpAny_fieldsOf hI rfl ?_)));show wpAny _ _ (setEntries a >>= _) _ _ s;refine wpAny_bind (wpAny_setEntries_of ho hd hf ?_); rw[if_neg (by simp[hn])];show wpAny _ _ (seqItems? (.ref tp) >>= _) _ _ s;refine wpAny_bind (wpAny_seqItems hT rfl ?_);have e1:(ys.map λy:Nat=>rawInt (y:Int)).toArray[((i:Int)).toNat]?=some (rawInt (y:Int)):=by
  rw[Int.toNat_natCast,List.getElem?_toArray,List.getElem?_map,hy]; rfl
 dsimp only;rw[e1];show wpAny _ _ (setNextDrawn a ((y:Int).toNat) ((ep:Int).toNat) >>= _) _ _ s;rw[Int.toNat_natCast,Int.toNat_natCast];unfold setNextDrawn;refine wpAny_bind (wpAny_bind (wpAny_setState_of ho hd hf ?_));refine wpAny_ite_split (λz=>absurd z (by simp)) (λ_=>?_);rw[he];refine wpAny_pure ?_;show wpAny _ _ (setField (.ref I) 1 (rawInt ((i:Int)+1)) >>= _) _ _ s;refine wpAny_bind (wpAny_setField hI rfl (by simp) (wpAny_pure ⟨e.2,rfl,hQ _ ?_ (Heap.SameBut.update ..)⟩));rw[Im hI 1 (rawInt ((i:Int)+1))]; simp[rawInt]
theorem Ur {ys:List Nat} (hh:A.handled=none) (hI:s.heap.get? I=some (C7 (.ref tp) i a n ep)) (hT:s.heap.get? tp=some (GF ys)) (ho:s.heap.get? a=some o) (hd:o.data=.set es ep t) (hf:t.fits es.size=true) (hn:es.size=n) (hy:ys[i]?=none)
  (hQ:∀h',Heap.ExtBut I s.heap h'->Q none { s with heap:=h' }):wpAny (model prog w) A (pyNext (.ref I)) Q E s:=by
 refine KC hI ?_;unfold Builtin.«set_iterator.__next__»;refine wpAny_bind (wpAny_pure (wpAny_bind (wpAny_fieldsOf hI rfl ?_)));show wpAny _ _ (setEntries a >>= _) _ _ s;refine wpAny_bind (wpAny_setEntries_of ho hd hf ?_); rw[if_neg (by simp[hn])];show wpAny _ _ (seqItems? (.ref tp) >>= _) _ _ s;refine wpAny_bind (wpAny_seqItems hT rfl ?_);have e1:(ys.map λy:Nat=>rawInt (y:Int)).toArray[((i:Int)).toNat]?=none:=by
  rw[Int.toNat_natCast,List.getElem?_toArray,List.getElem?_map,hy]; rfl
 dsimp only;rw[e1];show wpAny _ _ (setField (.ref I) 0 (rawInt 0) >>= _) _ _ s;refine wpAny_bind (wpAny_setField hI rfl (by simp) ?_);have g1:=Im hI 0 (rawInt 0);show wpAny _ _ (setField (.ref I) 2 .none >>= _) _ _ _;refine wpAny_bind (wpAny_setField g1 rfl (by simp) ?_);exact Pr (A:=A.in1) (h:=s.heap) (I:=I) hh { s with heap:=(s.heap.update I (Obj.mapFields (·.setIfInBounds 0 (rawInt 0)))).update I (Obj.mapFields (·.setIfInBounds 2 Value.none)) } ((Heap.SameBut.update ..).trans (Heap.SameBut.update ..)).extBut (λob o' h' e1 e2 e3=>⟨ob,o',e1,e2,rfl,hQ h' e3⟩)
theorem PN{first:Value}{Q:Value->Shared->Prop}(hI:s.heap.get? I=some (C7 first i a n ep))(h:Q (.ref I) s):wpAny (model prog w) A (pyIter (.ref I)) Q E s:=by
 have hT:s.TypeIs (.ref I) "set_iterator":=⟨_,hI,rfl⟩;refine wpAny_pyIter_slot hT OK (wpAny_call_entry OK hT TH ?_ (TK _));show wpAny _ _ (ret (.ref I)) _ _ s;exact wpAny_pure ⟨_,rfl,"set_iterator",_,hT,Ij.lookup,h⟩
theorem PV (hh:A.handled=none) (hne:a≠I) (hd:o.data=.set es ep t) (hf:t.fits es.size=true) (hn:es.size=n) (sl:Nat->Nat) (val:Nat->Value)
  (hN:∀(s:Shared),s.heap.get? a=some o->∀i,i<=n->∀(A':Around) (E':Value->Shared->Prop) (Q':Option (Value×Nat)->Shared->Prop),Q' (if i<n then some (val i,sl (i+1)) else none) s->wpAny (model prog w) A' (setNext a (sl i) i ep) Q' E' s) :
  Walks prog w A I [I,a] [I] n (λi v=>v=val i) (λi h=>h.get? I=some (C7 (.int (sl i) 0) i a n ep)/\h.get? a=some o) where
 sub:=λb hb=>by simp at hb; simp[hb]
 frame:=λi h h' st hk=>⟨hk I (by simp) _ st.1,hk a (by simp) _ st.2⟩
 item:=λi s Q E hi st hQ=>by
  refine XG (v:=val i) (nx:=sl (i+1)) st.1 st.2 hd hf hn (λA' E' Q' q=>hN s st.2 i (by omega) A' E' Q' (by rw[if_pos hi]; exact q)) λh' e1 e2=>?_
  exact hQ _ h' s.toks rfl ⟨e1,by rw[e2.2 a hne]; exact st.2⟩ λb ob hb e=>by rw[e2.2 b (by simpa using hb)]; exact e
 done:=λs Q E st hQ=>by
  refine Yt hh st.1 st.2 hd hf hn (λA' E' Q' q=>hN s st.2 n (Nat.le_refl _) A' E' Q' (by rw[if_neg (Nat.lt_irrefl _)]; exact q)) λh' e1=>?_
  exact hQ h' s.toks λb ob hb e=>e1 b ob (by simpa using hb) e
 self:=λi s Q E st hQ=>PN st.1 hQ
theorem UN(hh:A.handled=none)(hne:a≠I)(hnt:tp≠I)(hd:o.data=.set es ep t)(hf:t.fits es.size=true)(hn:es.size=n){ys:List Nat}(hp:ys.Perm (List.range n)):
  Walks prog w A I [I,a,tp] [I] n (λi v=>∃y e,ys[i]?=some y/\es[y]?=some e/\v=e.2) (λi h=>h.get? I=some (C7 (.ref tp) i a n ep)/\h.get? a=some o/\h.get? tp=some (GF ys)) where
 sub:=λb hb=>by simp at hb; simp[hb]
 frame:=λi h h' st hk=>⟨hk I (by simp) _ st.1,hk a (by simp) _ st.2.1,hk tp (by simp) _ st.2.2⟩
 item:=λi s Q E hi st hQ=>by
  have ly:ys.length=n:=by rw[hp.length_eq,List.length_range]
  have ey:ys[i]?=some ys[i]:=List.getElem?_eq_getElem (by omega);have hy:ys[i]<es.size:=by rw[hn]; exact List.mem_range.mp (hp.mem_iff.mp (List.getElem_mem _))
  have ee:es[ys[i]]?=some es[ys[i]]:=Array.getElem?_eq_getElem hy;refine UM st.1 st.2.2 st.2.1 hd hf hn ey ee λh' e1 e2=>?_
  exact hQ _ h' s.toks ⟨_,_,ey,ee,rfl⟩ ⟨e1,by rw[e2.2 a hne]; exact st.2.1,by rw[e2.2 tp hnt]; exact st.2.2⟩ λb ob hb e=>by rw[e2.2 b (by simpa using hb)]; exact e
 done:=λs Q E st hQ=>by
  have ly:ys.length=n:=by rw[hp.length_eq,List.length_range]
  refine Ur hh st.1 st.2.2 st.2.1 hd hf hn (List.getElem?_eq_none (by omega)) λh' e1=>?_
  exact hQ h' s.toks λb ob hb e=>e1 b ob (by simpa using hb) e
 self:=λi s Q E st hQ=>PN st.1 hQ
open PySem.W
variable {S:Addr}
theorem XU {R:Result->Shared->Prop} {Good:List Value->Prop} {res:Value} {c₀:Nat} (hT:s.TypeIs (.ref a) "set") (hSa:S≠a) (hS:s.heap.get? S=some { cls:=.type "list",data:=.seq #[] c₀ }) (hn:n<=sizeLine)
  (hit:∀E':Value->Shared->Prop,wpAny (model prog w) A.in1 (pyIter (.ref a)) (λit s1=>∃(I:Addr) (h1:Heap) (d1:Drawn) (fp:List Addr) (P:Nat->Value->Prop) (St:Nat->Heap->Prop),it=.ref I/\s1={ s with heap:=h1,drawn:=d1 }/\Walks prog w A.in1 I fp [I] n P St/\S∉fp/\St 0 h1/\(∀b o,s.heap.get? b=some o->h1.get? b=some o)/\s.heap.get? I=none/\∀acc,ItemsOf P acc n->Good acc.toList) E' s)
  (hR:∀h' tk d' acc c,(∀b o,b≠S->s.heap.get? b=some o->h'.get? b=some o)->h'.get? S=some { cls:=.type "list",dict:=none,data:=.seq acc c,slots:=#[] }->Good acc.toList->R (.ok (.ret res)) { s with heap:=h',toks:=tk,drawn:=d' }) :
  wpAny (model prog w) A.in1 (Builtin.List.listExtendWith (.ref S) (.ref a) res) (λfin s'=>match fin with | .done f=>R (.ok f) s' | .again c'=>c'.quiet=true/\codeAny (model prog w) A c' R s') (λe s'=>R (.error e) s') s:=by
 unfold Builtin.List.listExtendWith; refine wpAny_bind (wpAny_typeOf (T:="set") hT ?_);have r1:Builtin.List.listSameRef (.ref S) (.ref a)=false:=by simp[Builtin.List.listSameRef,hSa]
 have r2:(Value.type "set" == Value.type "list")=false:=by decide
 have r3:(Value.type "set" == Value.type "tuple")=false:=by decide
 simp only[r1,r2,r3,Bool.or_false,Bool.false_eq_true,if_false];refine wpAny_bind (wpAny_mono (hit _) (λit s1 x=>?_) λ_ _ z=>z);obtain⟨I,h1,d1,fp,P,St,rfl,rfl,W,hSf,st,k1,nI,good⟩:=x;have S1:=k1 _ _ hS;have key:∀(h:Heap) (c₁ tk:Nat),St 0 h->(∀b o,b≠S->s.heap.get? b=some o->h.get? b=some o)->h.get? S=some { cls:=.type "list",data:=.seq #[] c₁ }->codeAny (model prog w) A (.builtin "list.extend.loop" ⟨[.ref S,.ref I,res],[]⟩) R { s with heap:=h,toks:=tk,drawn:=d1 }:=λh c₁ tk hst hk hS₁=>by
  refine codeAny_extend_loopS W.toS hn S hSf res n 0 _ #[] c₁ rfl (Nat.zero_le _) hst hS₁ (ItemsOf.nil _) λs' acc' c' hm hS' hacc=>?_
  have es:=Moved.eq_with hm;rw[es];refine hR s'.heap s'.toks d1 acc' c' (λb o hb e=>hm.heap b o (λhmem=>?_) (hk b o hb e)) hS' (good _ hacc);rcases List.mem_cons.mp hmem with z | z
  ·exact hb z
  ·rw[List.mem_singleton.mp z,nI] at e; cases e
 have hT1:Shared.TypeIs { s with heap:=h1,drawn:=d1 } (.ref a) "set":=by
  obtain⟨oT,e1,e2⟩:=hT;exact⟨oT,k1 _ _ e1,e2⟩
 refine wpAny_bind (wpAny_holding (Vz hT1 ?_));refine wpAny_ite_split (λ_=>?_) (λ_=>wpAny_pure ⟨plainId_quiet PySem.F.plain_extend_loop _,key _ c₀ _ st (λb o _ e=>k1 b o e) S1⟩);refine wpAny_bind (wpAny_rule (wpAny_bind ?_));show wpAny _ _ (updateSeq S (·.push .none) >>= λ_=>updateSeq S (·.pop)) _ _ _;refine wpAny_bind (wpAny_updateSeq S1 rfl ?_);have S2:=Heap.get?_update_self (Obj.mapSeq (·.push Value.none)) S1 rfl;refine wpAny_updateSeq (hz:=by seq_fits) S2 rfl ?_;have S3:=Heap.get?_update_self (Obj.mapSeq (·.pop)) S2 rfl;refine wpAny_pure ⟨plainId_quiet PySem.F.plain_extend_loop _,key _ _ _ ?_ (λb o hb e=>?_) S3⟩
 ·refine W.frame 0 _ _ st λb hb o e=>?_
  have hbS:b≠S:=λz=>hSf (z ▸ hb)
  rw[Heap.get?_update_other _ _ (Ne.symm hbS),Heap.get?_update_other _ _ (Ne.symm hbS)]; exact e
 ·rw[Heap.get?_update_other _ _ (Ne.symm hb),Heap.get?_update_other _ _ (Ne.symm hb)]; exact k1 b o e
theorem QA:∀{l:List (Int×Value)},EI prog w l->IntsAre (l.map (·.2)) (l.map Gu)
 | [],_=>.nil
 | e :: l,h=>by
  obtain⟨k,t,rfl⟩:=h e (by simp);exact .cons k t (QA λx hx=>h x (by simp[hx]))
def JZ(ks:List Int)(vs:List Value):Prop:=∃ms,IntsAre vs ms/\ms.Perm ks
theorem MZ{l m:List (Int×Value)}{ks:List Int}(h:EI prog w l)(p:m.Perm l)(q:(l.map Gu).Perm ks):JZ ks (m.map (·.2)):=⟨m.map Gu,QA (h.Gm p),(p.map Gu).trans q⟩
theorem MK{P:Nat->Value->Prop}{acc:Array Value}{vs:List Value}(h:ItemsOf P acc vs.length)(hv:∀i v,i<vs.length->P i v->vs[i]?=some v):acc.toList=vs:=by
 refine List.ext_getElem? λi=>?_
 rcases Nat.lt_or_ge i vs.length with z | z
 ·have hi:i<acc.size:=by rw[h.1]; exact z
  rw[Array.getElem?_toList,Array.getElem?_eq_getElem hi];exact(hv i _ z (h.2 i _ (Array.getElem?_eq_getElem hi))).symm
 ·rw[List.getElem?_eq_none z,List.getElem?_eq_none (by rw[Array.length_toList,h.1]; exact z)]
theorem Vc{ks:List Int}(hh:A.handled=none)(x:Bz prog w (EA w) s.heap a ks)(hSs:S<s.heap.objs.size)(hSa:S≠a):
  wpAny (model prog w) A (pyIter (.ref a)) (λit s1=>∃(I:Addr) (h1:Heap) (d1:Drawn) (fp:List Addr) (P:Nat->Value->Prop) (St:Nat->Heap->Prop),it=.ref I/\s1={ s with heap:=h1,drawn:=d1 }/\Walks prog w A I fp [I] ks.length P St/\S∉fp/\St 0 h1/\(∀b o,s.heap.get? b=some o->h1.get? b=some o)/\s.heap.get? I=none/\∀acc,ItemsOf P acc ks.length->JZ ks acc.toList) E s:=by
 obtain⟨o,es,ep,t,ho,hex,hd,hel,hp,hb,hf,ti⟩:=x;have sz:es.size=ks.length:=by rw[<-Array.length_toList,<-hp.length_eq,List.length_map]
 have la:=Heap.lt_size ho;refine WB ho hex hd hf (fits_of_scanBound hb) (λz=>?_) (λz ys d' yp=>?_)
 ·have aI:a≠s.heap.objs.size:=Nat.ne_of_lt la;have hSf:S∉[s.heap.objs.size,a]:=by simp only[List.mem_cons,List.not_mem_nil,or_false,not_or]; exact⟨Nat.ne_of_lt hSs,hSa⟩
  have gI:(s.heap.push (C7 (.int 0 0) 0 a es.size ep)).get? s.heap.objs.size=some (C7 (.int 0 0) 0 a es.size ep):=Heap.get?_push_size _ rfl;have ga:=Heap.get?_push_of_some (C7 (.int 0 0) 0 a es.size ep) ho;cases hbt:w.params.followText "set-order" with
  | true =>
   have pp:=Ue (w.params.setOrder a ep) es;have ps:(pickOrder (w.params.setOrder a ep) es).size=es.size:=by rw[<-Array.length_toList,pp.length_eq,Array.length_toList]
   refine⟨_,_,s.drawn,_,_,_,rfl,rfl,PV hh aI hd hf sz (λ_=>0) (λi=>((pickOrder (w.params.setOrder a ep) es).getD i (0,.none)).2) (λs' ho' i hi A' E' Q' q=>VF hbt ho' hd hf ?_),hSf,⟨by rw[<-sz]; exact gI,ga⟩,λb ob e=>Heap.get?_push_of_some _ e,Heap.get?_none_of_le (Nat.le_refl _),λacc ha=>?_⟩
   ·rcases Nat.lt_or_ge i ks.length with y | y
    ·rw[if_pos y] at q;have e1:(pickOrder (w.params.setOrder a ep) es)[i]?=some ((pickOrder (w.params.setOrder a ep) es).getD i (0,.none)):=by rw[Array.getD_eq_getD_getElem?,Array.getElem?_eq_getElem (by omega)]; rfl
     rw[e1]; exact q
    ·rw[if_neg (by omega)] at q;rw[Array.getElem?_eq_none (by omega)]; exact q
   ·have lv:((pickOrder (w.params.setOrder a ep) es).toList.map (·.2)).length=ks.length:=by rw[List.length_map,Array.length_toList,ps,sz]
    rw[MK (vs:=(pickOrder (w.params.setOrder a ep) es).toList.map (·.2)) (by rw[lv]; exact ha) (λi v hi e=>by
     rw[lv] at hi;rw[e,List.getElem?_map,Array.getElem?_toList,Array.getD_eq_getD_getElem?,Array.getElem?_eq_getElem (by omega)]; rfl)]
    exact MZ hel pp hp
  | false =>
   rw[hbt] at z;have z':(!t.plain && decide (es.size > 1))=false:=by simpa using z
   have ti':Dd true t:=⟨by rw[ti.led]; show(!w.params.followText "set-order")=true; rw[hbt]; rfl,ti.OI,ti.ord⟩;refine⟨_,_,s.drawn,_,_,_,rfl,rfl,PV hh aI hd hf sz (Dz t) (λi=>(es.getD i (0,.none)).2) (λs' ho' i hi A' E' Q' q=>WY hbt ho' hd hf ti' z' (by omega) (by rw[sz]; exact q)),hSf,⟨by rw[<-sz]; exact gI,ga⟩,λb ob e=>Heap.get?_push_of_some _ e,Heap.get?_none_of_le (Nat.le_refl _),λacc ha=>?_⟩;have lv:(es.toList.map (·.2)).length=ks.length:=by rw[List.length_map,Array.length_toList,sz]
   rw[MK (vs:=es.toList.map (·.2)) (by rw[lv]; exact ha) (λi v hi e=>by
    rw[lv] at hi;rw[e,List.getElem?_map,Array.getElem?_toList,Array.getD_eq_getD_getElem?,Array.getElem?_eq_getElem (by omega)]; rfl)]
   exact MZ hel (List.Perm.refl _) hp
 ·have e1:(s.heap.push (GF ys)).objs.size=s.heap.objs.size+1:=Heap.size_push ..;have aI:a≠s.heap.objs.size+1:=Nat.ne_of_lt (Nat.lt_succ_of_lt la);have tI:s.heap.objs.size≠s.heap.objs.size+1:=Nat.ne_of_lt (Nat.lt_succ_self _);have hSf:S∉[s.heap.objs.size+1,a,s.heap.objs.size]:=by simp only[List.mem_cons,List.not_mem_nil,or_false,not_or]; exact⟨Nat.ne_of_lt (Nat.lt_succ_of_lt hSs),hSa,Nat.ne_of_lt hSs⟩
  have yp':ys.Perm (List.range ks.length):=by rw[<-sz]; exact yp
  have gI:((s.heap.push (GF ys)).push (C7 (.ref s.heap.objs.size) 0 a es.size ep)).get? (s.heap.objs.size+1)=some (C7 (.ref s.heap.objs.size) 0 a es.size ep):=by rw[<-e1]; exact Heap.get?_push_size _ rfl
  refine⟨_,_,d',_,_,_,rfl,rfl,UN (tp:=s.heap.objs.size) hh aI tI hd hf sz yp',hSf,⟨by rw[<-sz]; exact gI,Heap.get?_push_of_some _ (Heap.get?_push_of_some _ ho),Heap.get?_push_of_some _ (Heap.get?_push_size _ rfl)⟩,λb ob e=>Heap.get?_push_of_some _ (Heap.get?_push_of_some _ e),Heap.get?_none_of_le (Nat.le_succ _),λacc ha=>?_⟩;have ly:ys.length=ks.length:=by rw[yp'.length_eq,List.length_range]
  have pm:(ys.filterMap λy=>es[y]?).Perm es.toList:=(yp.filterMap _).trans (by rw[filterMap_getElem?_range]);have em:∀l:List Nat,(∀y∈l,y<es.size)->l.filterMap (λy=>es[y]?)=l.map λy=>es.getD y (0,.none):=by
   intro l
   induction l with
   | nil=>intro _; rfl
   | cons y l ih =>
    intro hl;have e0:es[y]?=some (es.getD y (0,.none)):=by rw[Array.getD_eq_getD_getElem?,Array.getElem?_eq_getElem (hl y (by simp))]; rfl
    rw[List.filterMap_cons,e0,List.map_cons];exact congrArg _ (ih λx hx=>hl x (by simp[hx]))
  rw[em ys λy hy=>List.mem_range.mp (yp.mem_iff.mp hy)] at pm;have lv:((ys.map λy=>es.getD y (0,.none)).map (·.2)).length=ks.length:=by rw[List.length_map,List.length_map,ly]
  rw[MK (vs:=(ys.map λy=>es.getD y (0,.none)).map (·.2)) (by rw[lv]; exact ha) (λi v hi e=>by
   obtain⟨y,q,e1,e2,rfl⟩:=e;rw[List.getElem?_map,List.getElem?_map,e1];show some (es.getD y (0,.none)).2=_;rw[Array.getD_eq_getD_getElem?,e2]; rfl)]
  exact MZ hel pm hp
end
end L2
namespace L2
open PySem PySem.Spec PyProof.Rows PySem.W
section
variable {prog:Program} {w:World} {A:Around} {E:Value->Shared->Prop} {s:Shared} {a:Addr}
theorem Bz.keep{b:Bool}{h h':Heap}{ks:List Int}(x:Bz prog w b h a ks)(k:∀o,h.get? a=some o->h'.get? a=some o):Bz prog w b h' a ks:=by
 obtain⟨o,es,ep,t,ho,rest⟩:=x;exact⟨o,es,ep,t,k o ho,rest⟩
theorem Bz.type{b:Bool}{ks:List Int}(x:Bz prog w b s.heap a ks):s.TypeIs (.ref a) "set":=by
 obtain⟨o,es,ep,t,ho,hex,_⟩:=x;exact⟨o,ho,hex.1⟩
theorem Tp {R:List Value->Shared->Prop} {ks:List Int} (hh:A.handled=none) (x:Bz prog w (EA w) s.heap a ks) (hn:ks.length<=sizeLine)
  (h:∀(h':Heap) (tk:Nat) (d':Drawn) (vs:List Value),(∀b o,s.heap.get? b=some o->h'.get? b=some o)->s.heap.objs.size<h'.objs.size->JZ ks vs->R vs { s with heap:=h',toks:=tk,drawn:=d' }):wpAny (model prog w) A (collect (.ref a)) R E s:=by
 have la:a<s.heap.objs.size:=by
  obtain⟨o,_,_,_,ho,_⟩:=x;exact Heap.lt_size ho
 unfold collect; refine wpAny_bind (wpAny_runValue (codeAny_builtin entry_proto_collect' ?_)); rw[Around.under_plainId PySem.F.plain_proto_collect _];show wpAny _ A.in1 (newList [] >>= λl=>again (.builtin "list.__iadd__" ⟨[l,.ref a],[]⟩)) _ _ s;refine wpAny_bind (wpAny_newObj_type (wpAny_pure ⟨plainId_quiet PySem.F.plain_list_iadd _,codeAny_builtin entry_list_iadd' ?_⟩)); rw[Around.under_plainId PySem.F.plain_list_iadd _];have gS:(s.heap.push { cls:=.type "list",data:=.seq ([]:List Value).toArray }).get? s.heap.objs.size=some { cls:=.type "list",data:=.seq #[] }:=Heap.get?_push_size _ rfl;show wpAny _ A.in1 (Builtin.List.listExtendWith (.ref s.heap.objs.size) (.ref a) (.ref s.heap.objs.size)) _ _ _;have x1:Bz prog w (EA w) (s.heap.push { cls:=.type "list",data:=.seq ([]:List Value).toArray }) a ks:=x.keep λo e=>Heap.get?_push_of_some _ e
 have ls:s.heap.objs.size<(s.heap.push { cls:=.type "list",data:=.seq ([]:List Value).toArray }).objs.size:=by rw[Heap.size_push]; exact Nat.lt_succ_self _
 have go:=XU (A:=A) (s:={ s with heap:=s.heap.push { cls:=.type "list",data:=.seq ([]:List Value).toArray } }) (a:=a) (S:=s.heap.objs.size) (n:=ks.length) (Good:=JZ ks) (res:=.ref s.heap.objs.size) (c₀:=0)
  (R:=λ(q:Result) (s':Shared)=>∃(h':Heap) (tk:Nat) (d':Drawn) (acc:Array Value) (c:Nat),q=.ok (.ret (.ref s.heap.objs.size))/\s'={ s with heap:=h',toks:=tk,drawn:=d' }/\(∀b o,s.heap.get? b=some o->h'.get? b=some o)/\h'.get? s.heap.objs.size=some { cls:=.type "list",dict:=none,data:=.seq acc c,slots:=#[] }/\JZ ks acc.toList)
  (Bz.type (s:={ s with heap:=s.heap.push { cls:=.type "list",data:=.seq ([]:List Value).toArray } }) x1) (Nat.ne_of_gt la) gS hn (λE'=>Vc (A:=A.in1) (s:={ s with heap:=s.heap.push { cls:=.type "list",data:=.seq ([]:List Value).toArray } }) hh x1 ls (Nat.ne_of_gt la))
  (λh' tk d' acc c k1 k2 k3=>⟨h',tk,d',acc,c,rfl,rfl,λb o e=>k1 b o (Nat.ne_of_lt (Heap.lt_size e)) (Heap.get?_push_of_some _ e),k2,k3⟩)
 refine wpAny_mono go (λfin s' y=>?_) λe s' y=>?_
 ·cases fin with
  | done f =>
   obtain⟨h',tk,d',acc,c,e,rfl,k1,k2,k3⟩:=y;cases e;show wpAny _ A (load s.heap.objs.size >>= _) _ _ _;exact wpAny_bind (wpAny_load k2 (wpAny_pure (h h' tk d' acc.toList k1 (Heap.lt_size k2) k3)))
  | again c₁ =>
   refine⟨y.1,codeAny_mono y.2 λq s₂ y=>?_⟩;obtain⟨h',tk,d',acc,c,rfl,rfl,k1,k2,k3⟩:=y;show wpAny _ A (load s.heap.objs.size >>= _) _ _ _;exact wpAny_bind (wpAny_load k2 (wpAny_pure (h h' tk d' acc.toList k1 (Heap.lt_size k2) k3)))
 ·obtain⟨_,_,_,_,_,e',_⟩:=y;cases e'
theorem UU {ks:List Int} {Q:Value->Shared->Prop} (hh:A.handled=none) (x:Bz prog w (EA w) s.heap a ks) (h64:ks.length<64)
  (h:∀(D:Addr) (h':Heap) (tk:Nat) (d':Drawn) (out:Array Value) (e:Nat) (ms:List Int),(∀b o,s.heap.get? b=some o->h'.get? b=some o)->s.heap.objs.size<=D->h'.get? D=some (seqObj "list" out e)->IntsAre out.toList ms->ms.Perm ks->ms.Pairwise (·<=·)->Q (.ref D) { s with heap:=h',toks:=tk,drawn:=d' }) :
  wpAny (model prog w) A (call (.builtin "sorted") [.ref a]) Q E s:=by
 refine Calls.call_function_entry kind_sorted plain_sorted entry_sorted (args_sorted1 _) ?_; unfold Builtin.«sorted»;refine wpAny_bind (m:=checkCount "sorted" 1 1 _) (wpAny_pure (wpAny_bind (Tp (A:=A.in1) hh x (by rw[sizeLine_eq]; omega) λh1 tk d1 vs k1 lh gd=>?_)));obtain⟨ns,hI,hP⟩:=gd;have lv:vs.length<64:=by rw[hI.length,hP.length_eq]; exact h64
 refine wpAny_bind (wpAny_newList ?_ (by rw[sizeLine_eq]; omega));have hL:(h1.push (seqObj "list" vs.toArray 0)).get? h1.objs.size=some (seqObj "list" vs.toArray 0):=Heap.get?_push_size _ rfl;refine wpAny_bind (wpAny_holding (wpAny_call_entry slot_list_sort ⟨_,hL,rfl⟩ entry_list_sort (list_sort_tree hL hI lv λout ns' a1 a2 a3=>⟨_,rfl,wpAny_pure ⟨_,rfl,?_⟩⟩) (args_list_sort _)));obtain⟨e,he⟩:=sortedHeap_at (out:=out) hL;refine h _ _ _ d1 out e ns' (λb o eb=>?_) (Nat.le_of_lt lh) he a1 (a2.trans hP) a3;have g1:=k1 b o eb;rw[sortedHeap_old (Nat.ne_of_lt (Heap.lt_size g1)) (by rw[Heap.size_push]; exact Nat.lt_succ_of_lt (Heap.lt_size g1))];exact Heap.get?_push_of_some _ g1
end
section
variable {X:Cx}
theorem Vb{pins:List (Addr×Obj)}{σ:St}{H:Hp}{s:Shared}(I:AL X pins σ H s)(d:Drawn):AL X pins σ H { s with drawn:=d }:=⟨I.ok,I.os,I.bare,I.base,I.Cv,I.cell,I.free,I.Dr,I.Ct,I.hok,I.len⟩
def GB(P:Program)(w:World)(a:Addr)(ks:List Int):HO:=.ext λh=>Bz P w (EA w) h a ks
theorem Xy{P:Program}{w:World}{H:Hp}{h:Heap}{a:Addr}{ks:List Int}(x:Bz P w (EA w) h a ks):BR P w H h a (GB P w a ks) :=
 ⟨x,let ⟨o,_,_,_,ho,_⟩:=x; ⟨o,ho⟩,λ_ _ y k=>y.keep λo e=>k o e⟩
theorem VR(hc:X.By=true):Ck X (.type "set") (λxs H Q=>∃(p:Addr) (ns:List Int),xs=[.ref p]/\AS X.K H p (ns.map V.int)/\ns.length<=1000/\∀a,H a=none->Q (.ref a) (AK H a (GB X.prog X.w a (Bm ns)))):=by
 intro pins s σ H xs us Q I r h;obtain⟨p,ns,rfl,hp,hl,q⟩:=h;obtain⟨u,rfl,r1⟩:=Eu r;cases r1;obtain⟨its,rv,pl,_⟩:=I.list hp;have hlen:its.length=ns.length:=by rw[<-rv.length,List.length_map]
 refine VZ (I.ok.hd hc) pl.isList (ns:=ns) (by simpa using ME rv) (by rw[List.size_toArray,hlen]; unfold scanBound; omega) λh' tk x k=>?_
 have hn:H s.heap.objs.size=none:=I.hok.fresh (Nat.le_refl _);exact⟨.ref s.heap.objs.size,_,I.laid (t':=tk) (λb u e=>k b u e) (Nat.le_refl _) (Xy x),rfl,q _ hn⟩
theorem UT(hc:X.By=true):Ck X (.builtin "sorted") (λxs H Q=>∃(a:Addr) (ks:List Int),xs=[.ref a]/\H a=some (GB X.prog X.w a ks)/\ks.length<64/\∀(l:Addr) (ms:List Int),H l=none->ms.Perm ks->ms.Pairwise (·<=·)->Q (.ref l) (AK H l (.AN (ms.map V.int)))):=by
 intro pins s σ H xs us Q I r h;obtain⟨a,ks,rfl,ha,h64,q⟩:=h;obtain⟨u,rfl,r1⟩:=Eu r;cases r1;have x:Bz X.prog X.w (EA X.w) s.heap a ks:=(I.hok a _ ha).1;refine UU (I.ok.hd hc) x h64 λD h' tk d' out e ms k hD he a1 a2 a3=>?_
 have hz:(ms.map V.int).length<=sizeLine:=by rw[List.length_map,a2.length_eq,sizeLine_eq]; omega
 have hn:H D=none:=I.hok.fresh hD;exact⟨.ref D,_,Vb (I.laid (t':=tk) (λb u e=>k b u e) hD (show BR X.prog X.w _ _ _ (.AN (ms.map V.int)) from ⟨hz,out.toList,e,XS a1,he⟩)) d',rfl,q _ ms hn a2 a3⟩
end
section
variable {prog:Program} {w:World} {A:Around} {E:Value->Shared->Prop} {s:Shared}
theorem We{a:Addr}{n:Nat}{P:PySem.Fin->Shared->Prop}{vs:List Value}(ho:s.heap.get? a=some (seqObj "list" vs.toArray n))(hl:vs.length<2)(h:P (.done (.ret .none)) { s with heap:=sortedHeap s.heap a vs vs.toArray }):
  wpAny (model prog w) A (Builtin.«list.sort» ⟨[.ref a],[]⟩) P E s:=by
 rw[list_sort_plain];have ha:a<s.heap.objs.size:=Heap.lt_size ho;refine wpAny_bind (listItems_at ho rfl ?_);refine wpAny_bind (listUpdate_at ho rfl ?_ (by rw[sizeLine_eq,List.size_toArray]; omega) (Nat.zero_le _));obtain⟨e1,ho1⟩:∃e1,(s.heap.update a (Obj.mapSeq λ_=>#[])).get? a=some (seqObj "list" #[] e1):=⟨_,get?_update_seq ho (λ_=>#[])⟩;refine wpAny_bind (seqEpoch_at ho1 rfl ?_);refine wpAny_bind (wpAny_newTuple ?_ (by rw[sizeLine_eq]; simp; omega));refine wpAny_bind (wpAny_newList ?_ (Nat.zero_le _));refine wpAny_holding ?_;have ho6:(((s.heap.update a (Obj.mapSeq λ_=>#[])).push (seqObj "tuple" vs.toArray 0)).push (seqObj "list" #[] 0)).get? a=some (seqObj "list" #[] e1):=Heap.get?_push_of_some _ (Heap.get?_push_of_some _ ho1);show wpAny (model prog w) A _ P E { s with heap:=((s.heap.update a (Obj.mapSeq λ_=>#[])).push (seqObj "tuple" vs.toArray 0)).push (seqObj "list" #[] 0) };dsimp only;have h2:vs.toArray.size<2:=by simpa using hl
 rw[if_pos h2,if_pos h2];refine wpAny_bind (wpAny_pure ?_);rw[StateT.run_pure];refine wpAny_bind (wpAny_pure ?_);dsimp only;have em:(arrOf (SortSt.mk' general' (vs.toArray.zip vs.toArray) #[] 7 none)).map (·.2)=vs.toArray:=by
  show(vs.toArray.zip vs.toArray).map (·.2)=vs.toArray
  match vs,hl with
  | [],_=>simp
  | [v],_=>simp
 rw[em];refine wpAny_bind (seqEpoch_at ho6 rfl ?_);refine wpAny_bind (listUpdate_at ho6 rfl ?_ (Nat.zero_le _) (by rw[List.size_toArray,sizeLine_eq]; omega));simp only[bne_self_eq_false,Bool.false_eq_true,if_false];exact wpAny_pure h
theorem Uv {l:Addr} {vs:List Value} {Q:Value->Shared->Prop} (hl:s.heap.IsList l vs.toArray) (h64:vs.length<64)
  (h:∀s':Shared,(∀b o,s.heap.get? b=some o->s'.heap.get? b=some o)->s'.heap.objs.size=s.heap.objs.size+2->s'.heap.get? (s.heap.objs.size+1)=some (seqObj "list" vs.toArray 0)->s'={ s with heap:=s'.heap } →
   wpAny (model prog w) A.in1.in1 (Builtin.«list.sort» ⟨[.ref (s.heap.objs.size+1)],[]⟩) (λf s''=>f=.done (.ret .none)/\Q (.ref (s.heap.objs.size+1)) s'') E s'):wpAny (model prog w) A (call (.builtin "sorted") [.ref l]) Q E s:=by
 refine Calls.call_function_entry kind_sorted plain_sorted entry_sorted (args_sorted1 _) ?_;unfold Builtin.«sorted»;refine wpAny_bind (m:=checkCount "sorted" 1 1 _) (wpAny_pure ?_);refine wpAny_bind (collect_list hl ?_ (by rw[sizeLine_eq]; omega));refine wpAny_bind (wpAny_newList ?_ (by rw[sizeLine_eq]; omega));have sz:((s.heap.push (seqObj "list" #[] 0)).update s.heap.objs.size (Obj.mapSeq (·++vs.toArray))).objs.size=s.heap.objs.size+1:=by rw[Heap.size_update,size_push']
 have hL:(((s.heap.push (seqObj "list" #[] 0)).update s.heap.objs.size (Obj.mapSeq (·++vs.toArray))).push (seqObj "list" vs.toArray 0)).get? (s.heap.objs.size+1)=some (seqObj "list" vs.toArray 0):=by rw[<-sz]; exact Heap.get?_push_size _ rfl
 show wpAny _ _ _ _ _ { s with heap:=((s.heap.push (seqObj "list" #[] 0)).update s.heap.objs.size (Obj.mapSeq (·++vs.toArray))).push (seqObj "list" vs.toArray 0) };rw[sz];have keep:∀b o,s.heap.get? b=some o->(((s.heap.push (seqObj "list" #[] 0)).update s.heap.objs.size (Obj.mapSeq (·++vs.toArray))).push (seqObj "list" vs.toArray 0)).get? b=some o:=λb o q=>by
  have hlt:b<s.heap.objs.size:=Heap.lt_size q;rw[Heap.get?_push_ne _ _ _ (by rw[sz]; exact Nat.ne_of_lt (Nat.lt_succ_of_lt hlt)),Heap.get?_update_ne _ _ _ _ (Nat.ne_of_lt hlt),Heap.get?_push_ne _ _ _ (Nat.ne_of_lt hlt)];exact q
 refine wpAny_bind (wpAny_holding (wpAny_call_entry slot_list_sort ⟨_,hL,rfl⟩ entry_list_sort (wpAny_mono (h _ keep (by rw[size_push',sz]) hL rfl) ?_ λ_ _ e=>e) (args_list_sort _)));rintro f s'' ⟨rfl,hq⟩;exact⟨_,rfl,wpAny_pure ⟨_,rfl,hq⟩⟩
theorem sortedHeap_old{h:Heap}{a:Addr}{vs:List Value}{out:Array Value}{b:Addr}{o:Obj}(hb:b≠a)(e:h.get? b=some o):(sortedHeap h a vs out).get? b=some o:=by
 unfold sortedHeap;rw[Heap.get?_update_ne _ _ _ _ hb];refine Heap.get?_push_of_some _ (Heap.get?_push_of_some _ ?_);rw[Heap.get?_update_ne _ _ _ _ hb]; exact e
theorem sortedHeap_at{h:Heap}{a:Addr}{vs:List Value}{out:Array Value}{n:Nat}(ho:h.get? a=some (seqObj "list" vs.toArray n)):∃e,(sortedHeap h a vs out).get? a=some (seqObj "list" out e):=by
 obtain⟨e1,ho1⟩:∃e1,(h.update a (Obj.mapSeq λ_=>#[])).get? a=some (seqObj "list" #[] e1):=⟨_,get?_update_seq ho (λ_=>#[])⟩;exact⟨_,get?_update_seq (Heap.get?_push_of_some _ (Heap.get?_push_of_some _ ho1)) (λ_=>out)⟩
end
section
variable {X:Cx}
theorem PY:∀{bs:List Addr} {us:List Value},Ah (bs.map V.ref) us->us=bs.map Value.ref
 | [],_,.nil=>rfl
 | b :: r,_,.cons (b:=u) h t=>by
  have h':u=Value.ref b:=h;rw[h',PY t];rfl
theorem Oy:∀(bs:List Addr),Ah (bs.map V.ref) (bs.map Value.ref)
 | []=>.nil
 | b :: r=>.cons rfl (Oy r)
end
structure Hc(n:Nat)(lt:Nat->Nat->Bool):Prop where
 bV:∀i j,lt i j=true->lt j i=false
 trans:∀i j k,lt i j=true->lt j k=true->lt i k=true
 N9:∀i j,i<n->j<n->i≠j->lt i j=true\/lt j i=true
section
variable {n:Nat} {lt:Nat->Nat->Bool} {cmp:Nat->Nat->(Bool->Shared->Prop)->Shared->Prop} {s:Shared} {p:Array Nat}
structure B9(n:Nat)(p:Array Nat):Prop where
 pm:p.toList.Perm (List.range n)
 sz:p.size=n
 below:∀k,k<n->p.getD k 0<n
 inj:∀i j,i<n->j<n->p.getD i 0=p.getD j 0->i=j
def Eb(lt:Nat->Nat->Bool)(p:Array Nat)(m:Nat):Prop:=∀i j,i<j->j<m->lt (p.getD i 0) (p.getD j 0)=true
def OJ(lt:Nat->Nat->Bool)(p:Array Nat)(m:Nat):Prop:=∀i j,i<j->j<m->lt (p.getD j 0) (p.getD i 0)=true
theorem Xc{k:Nat}(h:k<p.size):p[k]?=some (p.getD k 0):=by
 rw[Array.getElem?_eq_getElem h]; simp[h]
theorem Fo{q:Array Nat}{k j:Nat}(hj:j<p.size)(e:q[k]?=p[j]?):q.getD k 0=p.getD j 0:=by
 rw[Xc hj] at e;simp only[Array.getD_eq_getD_getElem?,e];rfl
theorem OL{q:Array Nat}(g:B9 n p)(hq:q.Perm p)(hs:q.size=p.size)(f:Nat->Nat)(ff:∀k,k<n->f k<n)(fi:∀i j,i<n->j<n->f i=f j->i=j)(e:∀k,k<n->q.getD k 0=p.getD (f k) 0):B9 n q :=
 ⟨(Array.perm_iff_toList_perm.mp hq).trans g.pm,by rw[hs,g.sz],λk hk=>by rw[e k hk]; exact g.below _ (ff k hk),λi j hi hj h=>by
  rw[e i hi,e j hj] at h;exact fi i j hi hj (g.inj _ _ (ff i hi) (ff j hj) h)⟩
theorem Mt(g:B9 n p){m:Nat}(hm:m<=n){k:Nat}(hk:k<n):(kas_rev p 0 m).getD k 0=p.getD (if k<m then m-1-k else k) 0:=by
 have e:=getElem?_mirror_all (xs:=p) (i:=0) (j:=m) (by rw[g.sz]; exact hm) k;unfold kas_rev;split
 ·rename_i h
  rw[if_pos ⟨Nat.zero_le _,h⟩,Nat.zero_add] at e;exact Fo (by rw[g.sz]; omega) e
 ·rename_i h
  rw[if_neg (λz=>h z.2)] at e;exact Fo (by rw[g.sz]; omega) e
theorem Wi(g:B9 n p){m:Nat}(hm:m<=n):B9 n (kas_rev p 0 m) :=
 OL g (mirror_perm _ _ _ _) (mirror_size _ _ _ _) (λk=>if k<m then m-1-k else k) (λk hk=>by (try dsimp only); split <;> omega) (λi j hi hj h=>by
  try dsimp only at h
  split at h <;> split at h <;> omega) λk hk=>Mt g hm hk
theorem X9(g:B9 n p){m:Nat}(hm:m<=n)(d:OJ lt p m):Eb lt (kas_rev p 0 m) m:=λi j hij hj=>by
 rw[Mt g hm (by omega),Mt g hm (by omega),if_pos (by omega),if_pos hj];exact d _ _ (by omega) (by omega)
theorem Mq(g:B9 n p){k l:Nat}(hk:k<n)(hl:l<=k){i:Nat}(hi:i<n):(bubble p k (k-l)).getD i 0=p.getD (if i=l then k else if l<i/\i<=k then i-1 else i) 0:=by
 have e:=getElem?_bubble (xs:=p) (src:=k) (by rw[g.sz]; exact hk) (k-l) (by omega) i;rw[show k-(k-l)=l by omega] at e;split
 ·rename_i h
  rw[if_pos h] at e;exact Fo (by rw[g.sz]; omega) e
 ·rename_i h
  rw[if_neg h] at e;split
  ·rename_i h2
   rw[if_pos h2] at e;exact Fo (by rw[g.sz]; omega) e
  ·rename_i h2
   rw[if_neg h2] at e;exact Fo (by rw[g.sz]; omega) e
theorem Vk(g:B9 n p){k l:Nat}(hk:k<n)(hl:l<=k):B9 n (bubble p k (k-l)) :=
 OL g (bubble_perm _ _ _) (bubble_size _ _ _) (λi=>if i=l then k else if l<i/\i<=k then i-1 else i) (λi hi=>by (try dsimp only); split <;> (try split) <;> omega) (λi j hi hj h=>by
  try dsimp only at h
  split at h <;> split at h <;> (try split at h) <;> (try split at h) <;> omega) λi hi=>Mq g hk hl hi
theorem Mh(hc:∀i j C,i<n->j<n->C (lt i j) s->cmp i j C s)(g:B9 n p)(L:Hc n lt):∀(f a:Nat) {Q:Nat->Shared->Prop},1<=a->a+f<=n->Eb lt p a →
  (∀m,a<=m->m<=a+f->Eb lt p m->(m=a+f\/lt (p.getD m 0) (p.getD (m-1) 0)=true)->Q m s)->(kas_asc p f a).kasWp cmp Q s
 | 0,a,Q,_,_,u,q=>q a (Nat.le_refl _) (Nat.le_refl _) u (.inl rfl)
 | f+1,a,Q,a1,af,u,q=>by
  show cmp _ _ _ s;refine hc _ _ _ (g.below _ (by omega)) (g.below _ (by omega)) ?_;cases e:lt (p.getD a 0) (p.getD (a-1) 0) with
  | true=>exact q a (Nat.le_refl _) (by omega) u (.inr e)
  | false =>
   refine Mh hc g L f (a+1) (by omega) (by omega) (λi j hij hj=>?_) (λm h1 h2 h3 h4=>q m (by omega) (by omega) h3 (by rcases h4 with z | z; exact .inl (by omega); exact .inr z));have st:lt (p.getD (a-1) 0) (p.getD a 0)=true:=by
    rcases L.N9 _ _ (g.below a (by omega)) (g.below (a-1) (by omega)) (λz=>by have:=g.inj _ _ (by omega) (by omega) z; omega) with z | z
    ·rw[z] at e; cases e
    ·exact z
   rcases Nat.lt_or_ge j a with z | z
   ·exact u i j hij z
   ·obtain rfl:j=a:=by omega
    rcases Nat.lt_or_ge i (j-1) with y | y
    ·exact L.trans _ _ _ (u i (j-1) y (by omega)) st
    ·obtain rfl:i=j-1:=by omega
     exact st
theorem QX(hc:∀i j C,i<n->j<n->C (lt i j) s->cmp i j C s)(g:B9 n p)(L:Hc n lt):∀(f a:Nat) {Q:Array Nat×Nat×Nat->Shared->Prop},1<=a->a+f<=n->OJ lt p a →
  (∀m,a<=m->m<=a+f->OJ lt p m->Q (p,m,0) s)->(kas_desc f p a 0).kasWp cmp Q s
 | 0,a,Q,_,_,u,q=>q a (Nat.le_refl _) (Nat.le_refl _) u
 | f+1,a,Q,a1,af,u,q=>by
  show cmp _ _ _ s;refine hc _ _ _ (g.below _ (by omega)) (g.below _ (by omega)) ?_;cases e:lt (p.getD a 0) (p.getD (a-1) 0) with
  | true =>
   show(kas_desc f p (a+1) 0).kasWp cmp Q s;refine QX hc g L f (a+1) (by omega) (by omega) (λi j hij hj=>?_) (λm h1 h2 h3=>q m (by omega) (by omega) h3);rcases Nat.lt_or_ge j a with z | z
   ·exact u i j hij z
   ·obtain rfl:j=a:=by omega
    rcases Nat.lt_or_ge i (j-1) with y | y
    ·exact L.trans _ _ _ e (u i (j-1) y (by omega))
    ·obtain rfl:i=j-1:=by omega
     exact e
  | false =>
   have st:lt (p.getD (a-1) 0) (p.getD a 0)=true:=by
    rcases L.N9 _ _ (g.below a (by omega)) (g.below (a-1) (by omega)) (λz=>by have:=g.inj _ _ (by omega) (by omega) z; omega) with z | z
    ·rw[z] at e; cases e
    ·exact z
   show cmp _ _ _ s;refine hc _ _ _ (g.below _ (by omega)) (g.below _ (by omega)) ?_;rw[st];exact q a (Nat.le_refl _) (by omega) u
theorem WS(hc:∀i j C,i<n->j<n->C (lt i j) s->cmp i j C s)(g:B9 n p)(L:Hc n lt)(h2:2<=n){Q:Nat×Array Nat->Shared->Prop}(q:∀m p',1<=m->m<=n->B9 n p'->Eb lt p' m->Q (m,p') s):(kas_count n p).kasWp cmp Q s:=by
 unfold kas_count;rw[KasT.kasWp_bind];refine Mh hc g L (n-1) 1 (Nat.le_refl _) (by omega) (λi j h1 h2=>by omega) λm m1 mn u st=>?_
 try dsimp only
 by_cases e:m=n
 ·rw[if_pos (by rw[e]; exact beq_self_eq_true n)];exact q m p m1 (by omega) g u
 rw[if_neg (by intro z; exact e (by simpa using z))];by_cases e1:m > 1
 ·rw[if_pos e1];show cmp _ _ _ s;refine hc _ _ _ (g.below _ (by omega)) (g.below _ (by omega)) ?_;rw[u 0 (m-1) (by omega) (by omega)];exact q m p m1 (by omega) g u
 rw[if_neg e1];obtain rfl:m=1:=by omega
 have fall:lt (p.getD 1 0) (p.getD 0 0)=true:=by
  rcases st with z | z
  ·omega
  ·exact z
 unfold kas_descPart;rw[KasT.kasWp_bind];refine QX hc g L (n-(1+1)) (1+1) (by omega) (by omega) (λi j h1 h2=>?_) λm m1 mn d=>?_
 ·obtain rfl:j=1:=by omega
  obtain rfl:i=0:=by omega
  exact fall
 try dsimp only
 rw[if_neg (Nat.lt_irrefl 0)];unfold kas_tail3;rw[KasT.kasWp_bind];have gr:=Wi g (m:=m) (by omega);refine Mh hc gr L (n-m) m (by omega) (by omega) (X9 g (by omega) d) λm' h1 h2 u' _=>?_
 exact q m' _ (by omega) (by omega) gr u'
theorem MR(hc:∀i j C,i<n->j<n->C (lt i j) s->cmp i j C s)(g:B9 n p)(L:Hc n lt){k:Nat}(hk:k<n)(u:Eb lt p k):∀(f l r:Nat) {Q:Nat->Shared->Prop},l<=r->r<=k->r-l<=f->(∀i,i<l->lt (p.getD i 0) (p.getD k 0)=true)->(∀i,r<=i->i<k->lt (p.getD k 0) (p.getD i 0)=true) →
  (∀m,m<=k->(∀i,i<m->lt (p.getD i 0) (p.getD k 0)=true)->(∀i,m<=i->i<k->lt (p.getD k 0) (p.getD i 0)=true)->Q m s)->(kas_place p k f l r).kasWp cmp Q s
 | 0,l,r,Q,lr,rk,hf,a,b,q=>by
  obtain rfl:l=r:=by omega
  exact q l rk a b
 | f+1,l,r,Q,lr,rk,hf,a,b,q=>by
  unfold kas_place;by_cases h:l ≥ r
  ·rw[if_pos h];obtain rfl:l=r:=by omega
   exact q l rk a b
  rw[if_neg h];show cmp _ _ _ s;refine hc _ _ _ (g.below _ (by omega)) (g.below _ (by omega)) ?_;cases e:lt (p.getD k 0) (p.getD ((l+r) / 2) 0) with
  | true =>
   refine MR hc g L hk u f l ((l+r) / 2) (by omega) (by omega) (by omega) a (λi h1 h2=>?_) q;rcases Nat.lt_or_ge ((l+r) / 2) i with z | z
   ·exact L.trans _ _ _ e (u _ _ z h2)
   ·obtain rfl:i=(l+r) / 2:=by omega
    exact e
  | false =>
   have st:lt (p.getD ((l+r) / 2) 0) (p.getD k 0)=true:=by
    rcases L.N9 _ _ (g.below k hk) (g.below ((l+r) / 2) (by omega)) (λz=>by have:=g.inj _ _ hk (by omega) z; omega) with z | z
    ·rw[z] at e; cases e
    ·exact z
   refine MR hc g L hk u f ((l+r) / 2+1) r (by omega) rk (by omega) (λi hi=>?_) b q;rcases Nat.lt_or_ge i ((l+r) / 2) with z | z
   ·exact L.trans _ _ _ (u _ _ z (by omega)) st
   ·obtain rfl:i=(l+r) / 2:=by omega
    exact st
theorem Qz(hc:∀i j C,i<n->j<n->C (lt i j) s->cmp i j C s)(L:Hc n lt):∀(f k:Nat) (p:Array Nat) {Q:Array Nat->Shared->Prop},B9 n p->k+f=n->Eb lt p k->(∀p',B9 n p'->Eb lt p' n->Q p' s)->(kas_bin f p k).kasWp cmp Q s
 | 0,k,p,Q,g,e,u,q=>by
  obtain rfl:k=n:=by omega
  exact q p g u
 | f+1,k,p,Q,g,e,u,q=>by
  unfold kas_bin;rw[KasT.kasWp_bind];refine MR hc g L (show k<n by omega) u k 0 k (Nat.zero_le _) (Nat.le_refl _) (by omega) (λi hi=>by omega) (λi h1 h2=>by omega) λl lk ha hb=>?_
  refine Qz hc L f (k+1) _ (Vk g (by omega) lk) (by omega) (λi j hij hj=>?_) q;rw[Mq g (by omega) lk (by omega),Mq g (by omega) lk (by omega)];by_cases ei:i=l
  ·rw[if_pos ei,if_neg (by omega),if_pos (by omega)];exact hb _ (by omega) (by omega)
  ·rw[if_neg ei];by_cases ej:j=l
   ·rw[if_neg (by omega),if_pos ej];exact ha _ (by omega)
   ·rw[if_neg ej];by_cases z1:l<i/\i<=k
    ·rw[if_pos z1,if_pos (by omega)];exact u _ _ (by omega) (by omega)
    ·rw[if_neg z1];by_cases z2:l<j/\j<=k
     ·rw[if_pos z2];exact u _ _ (by omega) (by omega)
     ·rw[if_neg z2];exact u _ _ hij (by omega)
theorem Wr(hc:∀i j C,i<n->j<n->C (lt i j) s->cmp i j C s)(L:Hc n lt)(h2:2<=n){Q:Array Nat->Shared->Prop}(q:∀p,B9 n p->Eb lt p n->Q p s):(kas_sort n).kasWp cmp Q s:=by
 unfold kas_sort;rw[KasT.kasWp_bind];have g0:B9 n (List.toArray (List.range n)):=by
  have e:∀k,k<n->(List.toArray (List.range n)).getD k 0=k:=λk hk=>by
   simp[Array.getD_eq_getD_getElem?,hk]
  exact⟨List.Perm.refl _,by simp,λk hk=>by rw[e k hk]; exact hk,λi j hi hj z=>by rwa [e i hi,e j hj] at z⟩
 refine WS hc g0 L h2 λm p' m1 mn g u=>?_
 try dsimp only
 by_cases h:m<n
 ·rw[if_pos h,show max m 1=m by omega];exact Qz hc L (n-m) m p' g (by omega) u q
 ·rw[if_neg h];obtain rfl:m=n:=by omega
  exact q p' g u
def Bt:List Int->List Int->Bool
 | [],[]=>false
 | [],_ :: _=>true
 | _ :: _,[]=>false
 | x :: xs,y :: ys=>if x=y then Bt xs ys else decide (x<y)
theorem PK:∀{a b:List Int},Bt a b=true->Bt b a=false
 | [],[],h=>by cases h
 | [],_ :: _,_=>rfl
 | _ :: _,[],h=>by cases h
 | x :: xs,y :: ys,h=>by
  unfold Bt at h ⊢;by_cases e:x=y
  ·rw[if_pos e] at h; rw[if_pos e.symm]; exact PK h
  ·rw[if_neg e] at h; rw[if_neg (λz=>e z.symm)]
   have:=decide_eq_true_iff.mp h
   exact decide_eq_false (by omega)
theorem OX:∀{a b c:List Int},Bt a b=true->Bt b c=true->Bt a c=true
 | [],[],_,h,_=>by cases h
 | [],_ :: _,[],_,h=>by cases h
 | [],_ :: _,_ :: _,_,_=>rfl
 | _ :: _,[],_,h,_=>by cases h
 | _ :: _,_ :: _,[],_,h=>by cases h
 | x :: xs,y :: ys,z :: zs,h,g=>by
  unfold Bt at h g ⊢;by_cases e:x=y
  ·rw[if_pos e] at h;by_cases e2:y=z
   ·rw[if_pos e2] at g; rw[if_pos (e.trans e2)]; exact OX h g
   ·rw[if_neg e2] at g; rw[if_neg (λq=>e2 (e.symm.trans q)),e]; exact g
  ·rw[if_neg e] at h;have h':=decide_eq_true_iff.mp h;by_cases e2:y=z
   ·rw[if_neg (λq=>e (q.trans e2.symm)),<-e2]; exact h
   ·rw[if_neg e2] at g;have g':=decide_eq_true_iff.mp g;rw[if_neg (by omega)]; exact decide_eq_true (by omega)
theorem Pj:∀{a b:List Int},a≠b->Bt a b=true\/Bt b a=true
 | [],[],h=>absurd rfl h
 | [],_ :: _,_=>.inl rfl
 | _ :: _,[],_=>.inr rfl
 | x :: xs,y :: ys,h=>by
  unfold Bt;by_cases e:x=y
  ·rw[if_pos e,if_pos e.symm]; exact Pj λz=>h (by rw[e,z])
  ·rw[if_neg e,if_neg (λz=>e z.symm)];rcases Int.lt_trichotomy x y with z | z | z
   ·exact .inl (decide_eq_true z)
   ·exact absurd z e
   ·exact .inr (decide_eq_true z)
theorem ZZ{rows:List (List Int)}(nd:rows.Nodup):Hc rows.length λi j=>Bt (rows.getD i []) (rows.getD j []):=by
 have g:∀i (h:i<rows.length),rows.getD i []=rows[i]:=λi h=>by simp[h]
 refine⟨λi j h=>PK h,λi j k h1 h2=>OX h1 h2,λi j hi hj ne=>Pj ?_⟩;rw[g i hi,g j hj];intro z;exact ne ((List.getElem_inj nd).mp z)
variable {prog:Program} {w:World} {A:Around} {E:Value->Shared->Prop}
theorem Pz{b:Bool}{Q:Bool->Shared->Prop}:∀{xs ys:List Value} {ns ms:List Int} (i:Nat),IntsAre xs ns->IntsAre ys ms->Q (Bt ns ms) s->KatLex prog w A b (decide (xs.length<ys.length)) Q (xs.zip ys) i s
 | [],[],_,_,i,hx,hy,h=>by
  cases hx; cases hy;exact kat_nil h
 | [],_ :: _,_,_,i,hx,hy,h=>by
  cases hx;cases hy with
  | cons=>exact kat_nil h
 | _ :: _,[],_,_,i,hx,hy,h=>by
  cases hy;cases hx with
  | cons=>exact kat_nil h
 | x :: xs,y :: ys,_,_,i,hx,hy,h=>by
  cases hx with
  | @cons m t _ ns' hx' =>
  cases hy with
  | @cons m' t' _ ms' hy' =>
  refine kat_cons (wpAny_eqBool_int ?_);have el:decide ((Value.int m t :: xs).length<(Value.int m' t' :: ys).length)=decide (xs.length<ys.length):=by
   rw[decide_eq_decide]; simp
  rw[el];unfold Bt at h;refine kat_go (λe=>kat_yes (Pz (i+1) hx' hy' ?_)) (λe=>kat_no ?_)
  ·rw[if_pos (by simpa using e)] at h; exact h
  ·rw[if_neg (by simpa using e)] at h;cases e2:(b && i == 0) with
   | true=>exact oneLt_int h
   | false=>exact kat_one _ _ (lt_int h)
def Mv(h:Heap)(bs:List Addr)(rows:List (List Int)):Prop:=bs.length=rows.length/\∀(i:Nat) (b:Addr) (r:List Int),bs[i]?=some b->rows[i]?=some r->r≠[]/\∃xs:List Value,IsTup h b xs.toArray/\IntsAre xs r
theorem Mv.Kx{h:Heap}:∀{bs:List Addr} {rows:List (List Int)},Mv h bs rows->∃fs:List Value,KatTups h (bs.map Value.ref) fs/\fs.length=bs.length/\∀v∈fs,∃i t,v=Value.int i t
 | [],rows,x=>⟨[],.nil,rfl,λv hv=>by cases hv⟩
 | b :: bs,[],x=>by have:=x.1; cases this
 | b :: bs,r :: rows,x=>by
  obtain⟨ne,xs,⟨o,e1,e2,n,e3⟩,hi⟩:=x.2 0 b r rfl rfl;obtain⟨fs,k,l,t⟩:=Mv.Kx (bs:=bs) (rows:=rows) ⟨by have:=x.1; simpa using this,λi b' r' h1 h2=>x.2 (i+1) b' r' (by simpa using h1) (by simpa using h2)⟩;cases hi with
  | nil=>exact absurd rfl ne
  | @cons m tk vs' ns' hr =>
   refine⟨.int m tk :: fs,.cons e1 e2 e3 (by simp) k,by simp[l],λv hv=>?_⟩;rcases List.mem_cons.mp hv with rfl | hv
   ·exact⟨_,_,rfl⟩
   ·exact t v hv
end
structure Lb(wd:Int->Str)(S:Int->Prop):Prop where
 inj:∀x y,S x->S y->wd x=wd y->x=y
 lt:∀x y,S x->S y->x≠y->decide ((wd x).cps.toList<(wd y).cps.toList)=decide (x<y)
def Kg(wd:Int->Str)(S:Int->Prop)(xs:List Value)(r:List Int):Prop:=∃c t ys rest,xs=Value.str (wd c) t :: ys/\r=c :: rest/\S c/\IntsAre ys rest
section
variable {prog:Program} {w:World} {A:Around} {E:Value->Shared->Prop} {s:Shared} {wd:Int->Str} {S:Int->Prop}
theorem WC(W:Lb wd S){Q:Bool->Shared->Prop}{xs ys:List Value}{ns ms:List Int}(hx:Kg wd S xs ns)(hy:Kg wd S ys ms)(h:Q (Bt ns ms) s):KatLex prog w A true (decide (xs.length<ys.length)) Q (xs.zip ys) 0 s:=by
 obtain⟨c,t,xs,ns,rfl,rfl,sc,ix⟩:=hx;obtain⟨d,u,ys,ms,rfl,rfl,sd,iy⟩:=hy;refine kat_cons (wpAny_eqBool_str ?_);have el:decide ((Value.str (wd c) t :: xs).length<(Value.str (wd d) u :: ys).length)=decide (xs.length<ys.length):=by
  rw[decide_eq_decide]; simp
 rw[el];unfold Bt at h;refine kat_go (λe=>kat_yes (Pz 1 ix iy ?_)) (λe=>kat_no ?_)
 ·rw[if_pos (W.inj _ _ sc sd (by simpa using e))] at h; exact h
 ·have ne:c≠d:=λz=>by rw[z] at e; simp at e
  rw[if_neg ne,<-W.lt _ _ sc sd ne] at h;exact oneLt_str h
def I0(wd:Int->Str)(S:Int->Prop)(h:Heap)(bs:List Addr)(rows:List (List Int)):Prop:=bs.length=rows.length/\∀(i:Nat) (b:Addr) (r:List Int),bs[i]?=some b->rows[i]?=some r->∃xs:List Value,IsTup h b xs.toArray/\Kg wd S xs r
theorem I0.Kx{h:Heap}:∀{bs:List Addr} {rows:List (List Int)},I0 wd S h bs rows->∃fs:List Value,KatTups h (bs.map Value.ref) fs/\fs.length=bs.length/\∀v∈fs,∃i t,v=Value.str i t
 | [],rows,x=>⟨[],.nil,rfl,λv hv=>by cases hv⟩
 | b :: bs,[],x=>by have:=x.1; cases this
 | b :: bs,r :: rows,x=>by
  obtain⟨xs,⟨o,e1,e2,n,e3⟩,c,t,ys,rest,rfl,_⟩:=x.2 0 b r rfl rfl;obtain⟨fs,k,l,tt⟩:=I0.Kx (bs:=bs) (rows:=rows) ⟨by have:=x.1; simpa using this,λi b' r' h1 h2=>x.2 (i+1) b' r' (by simpa using h1) (by simpa using h2)⟩;refine⟨.str (wd c) t :: fs,.cons e1 e2 e3 (by simp) k,by simp[l],λv hv=>?_⟩;rcases List.mem_cons.mp hv with rfl | hv
  ·exact⟨_,_,rfl⟩
  ·exact tt v hv
theorem T4 (W:Lb wd S) {a:Addr} {n:Nat} {P:PySem.Fin->Shared->Prop} {bs:List Addr} {rows:List (List Int)} (ho:s.heap.get? a=some (seqObj "list" (bs.map Value.ref).toArray n)) (hR:I0 wd S s.heap bs rows) (na:∀b∈bs,b≠a) (nd:rows.Nodup) (h2:2<=bs.length) (h64:bs.length<64)
  (h:∀p:Array Nat,B9 rows.length p->Eb (λi j=>Bt (rows.getD i []) (rows.getD j [])) p rows.length->P (.done (.ret .none)) { s with heap:=sortedHeap s.heap a (bs.map Value.ref) (p.toList.map λi=>(bs.map Value.ref).getD i Value.none).toArray }) :
  wpAny (model prog w) A (Builtin.«list.sort» ⟨[.ref a],[]⟩) P E s:=by
 rw[list_sort_plain];have ha:a<s.heap.objs.size:=Heap.lt_size ho;have lb:(bs.map Value.ref).length=bs.length:=List.length_map ..;refine wpAny_bind (listItems_at ho rfl ?_);refine wpAny_bind (listUpdate_at ho rfl ?_ (by rw[sizeLine_eq,List.size_toArray]; omega) (Nat.zero_le _));obtain⟨e1,ho1⟩:∃e1,(s.heap.update a (Obj.mapSeq λ_=>#[])).get? a=some (seqObj "list" #[] e1):=⟨_,get?_update_seq ho (λ_=>#[])⟩;refine wpAny_bind (seqEpoch_at ho1 rfl ?_);refine wpAny_bind (wpAny_newTuple ?_ (by rw[sizeLine_eq]; simp; omega));refine wpAny_bind (wpAny_newList ?_ (Nat.zero_le _));refine wpAny_holding ?_;have keepT:∀{c:Addr} {o:Obj},c≠a->s.heap.get? c=some o->(((s.heap.update a (Obj.mapSeq λ_=>#[])).push (seqObj "tuple" (bs.map Value.ref).toArray 0)).push (seqObj "list" #[] 0)).get? c=some o:=λ{c o} hc e=>by
  refine Heap.get?_push_of_some _ (Heap.get?_push_of_some _ ?_);rw[Heap.get?_update_ne _ _ _ _ hc]; exact e
 have ho6:(((s.heap.update a (Obj.mapSeq λ_=>#[])).push (seqObj "tuple" (bs.map Value.ref).toArray 0)).push (seqObj "list" #[] 0)).get? a=some (seqObj "list" #[] e1):=Heap.get?_push_of_some _ (Heap.get?_push_of_some _ ho1);show wpAny (model prog w) A _ P E { s with heap:=((s.heap.update a (Obj.mapSeq λ_=>#[])).push (seqObj "tuple" (bs.map Value.ref).toArray 0)).push (seqObj "list" #[] 0) };have eS:sortedHeap s.heap a (bs.map Value.ref)=λout=>(((s.heap.update a (Obj.mapSeq λ_=>#[])).push (seqObj "tuple" (bs.map Value.ref).toArray 0)).push (seqObj "list" #[] 0)).update a (Obj.mapSeq λ_=>out):=rfl
 rw[eS] at h;have hR1:I0 wd S (((s.heap.update a (Obj.mapSeq λ_=>#[])).push (seqObj "tuple" (bs.map Value.ref).toArray 0)).push (seqObj "list" #[] 0)) bs rows:=⟨hR.1,λi b r h1 h2=>by
  obtain⟨xs,⟨o,e1,e2⟩,hi⟩:=hR.2 i b r h1 h2;exact⟨xs,⟨o,keepT (na b (List.mem_of_getElem? h1)) e1,e2⟩,hi⟩⟩
 generalize ((s.heap.update a (Obj.mapSeq λ_=>#[])).push (seqObj "tuple" (bs.map Value.ref).toArray 0)).push (seqObj "list" #[] 0)=h1 at ho6 h hR1;dsimp only;have hn2:¬(bs.map Value.ref).toArray.size<2:=by rw[List.size_toArray]; omega
 rw[if_neg hn2,if_neg hn2];obtain⟨fs,kt,lf,tf⟩:=hR1.Kx;refine wpAny_bind (kat_kind (T:=.type "str") kt (by omega) (λv hv=>?_) (by rfl) ?_)
 ·obtain⟨i,t,rfl⟩:=tf v hv;exact .now
 have lr:rows.length=bs.length:=hR.1.symm;refine wpAny_bind (wpAny_mono (kat_run (ks:=bs.map Value.ref) (vs:=bs.map Value.ref) (Q:=λst' s'=>s'={ s with heap:=h1 }/\∃p:Array Nat,B9 rows.length p/\Eb (λi j=>Bt (rows.getD i []) (rows.getD j [])) p rows.length/\arrOf st'=p.map (kas_item ((bs.map Value.ref).toArray.zip (bs.map Value.ref).toArray))/\failedOf st'=none)
  (G:=λp s'=>s'={ s with heap:=h1 }/\B9 rows.length p/\Eb (λi j=>Bt (rows.getD i []) (rows.getD j [])) p rows.length)
  rfl (by omega) (by omega) (λp' st' s' a1 a2 a3 a4=>⟨a4.1,p',a4.2.1,a4.2.2,a2,a3⟩) ?_) ?_ λ_ _ e=>e)
 ·rw[lb,<-lr];refine Wr (s:={ s with heap:=h1 }) (lt:=λi j=>Bt (rows.getD i []) (rows.getD j [])) (λi j C hi hj hC=>?_) (ZZ nd) (by omega) λp g u=>⟨rfl,g,u⟩
  have gb:∀i,i<rows.length->∃b,bs[i]?=some b/\(bs.map Value.ref).getD i Value.none=Value.ref b:=λi hi=>⟨bs[i]'(by omega),List.getElem?_eq_getElem (by omega),by simp[show i<bs.length by omega]⟩
  obtain⟨bi,ebi,gbi⟩:=gb i hi;obtain⟨bj,ebj,gbj⟩:=gb j hj;obtain⟨xs,⟨ox,x1,x2,nx,x3⟩,hxs⟩:=hR1.2 i bi rows[i] ebi (List.getElem?_eq_getElem hi);obtain⟨ys,⟨oy,y1,y2,ny,y3⟩,hys⟩:=hR1.2 j bj rows[j] ebj (List.getElem?_eq_getElem hj);unfold kas_ask;rw[gbi,gbj];refine kat_lt (s:={ s with heap:=h1 }) x1 x3 y1 y3 ?_
  have:=WC (prog:=prog) (w:=w) (A:=A) (s:={ s with heap:=h1 }) (Q:=C) W hxs hys (by simpa [hi,hj] using hC)
  rw[show(Value.type "str" != Value.type "tuple")=true by decide];simpa using this
 rintro⟨⟨⟩,st'⟩ s' ⟨rfl,p,hp,hu,har,hf⟩;dsimp only;have hout:=kat_snds (ks:=bs.map Value.ref) (vs:=bs.map Value.ref) rfl har;rw[hout];refine wpAny_bind (seqEpoch_at ho6 rfl ?_);refine wpAny_bind (listUpdate_at ho6 rfl ?_ (Nat.zero_le _) (by rw[List.size_toArray,List.length_map,Array.length_toList,hp.sz,sizeLine_eq]; omega));rw[hf];simp only[bne_self_eq_false,Bool.false_eq_true,if_false];exact wpAny_pure (h p hp hu)
end
theorem Uy{α:Type}(l:List α)(d:α):(List.range l.length).map (λi=>l.getD i d)=l:=by
 refine List.ext_getElem (by simp) λi h1 h2=>?_
 simp at h1;simp[h1]
theorem Wg{rows:List (List Int)}(h:rows.length<2):rows.Pairwise (λa b=>Bt a b=true):=by
 match rows,h with
 | [],_=>exact .nil
 | [x],_=>exact List.pairwise_singleton _ _
def GH(wd:Int->Str)(S:Int->Prop)(H:Hp)(b:Addr)(r:List Int):Prop:=∃c rest,r=c :: rest/\S c/\H b=some (.AH (.str (wd c) :: rest.map V.int))
theorem Hu{wd:Int->Str}{S:Int->Prop}:My.Mo (GH wd S):=λs ⟨c,rest,e,sc,h⟩=>⟨c,rest,e,sc,s _ _ h⟩
section
variable {X:Cx} {pins:List (Addr×Obj)} {σ:St} {H:Hp} {s:Shared} {wd:Int->Str} {S:Int->Prop}
theorem PD{b:Addr}{r:List Int}(I:AL X pins σ H s)(h:GH wd S H b r):∃xs:List Value,IsTup s.heap b xs.toArray/\Kg wd S xs r:=by
 obtain⟨c,rest,rfl,sc,h⟩:=h;obtain⟨its,rv,tp,_⟩:=I.tuple (AJ.of (K:=X.K) h);cases rv with
 | @cons _ u _ us r1 r2 =>
  obtain⟨t,rfl⟩:=(show ∃t,u=Value.str (wd c) t from r1);exact⟨_,tp,c,t,us,rest,rfl,rfl,sc,ME r2⟩
theorem VA{R:Hp->Addr->List Int->Prop}{H:Hp}{bs:List Addr}{rows:List (List Int)}(hA:My.At R H bs rows){p:Array Nat}(g:B9 rows.length p)(u:Eb (λi j=>Bt (rows.getD i []) (rows.getD j [])) p rows.length):
  My.At R H (p.toList.map λi=>bs.getD i 0) (p.toList.map λi=>rows.getD i [])/\(p.toList.map λi=>rows.getD i []).Perm rows/\(p.toList.map λi=>rows.getD i []).Pairwise (λa b=>Bt a b=true)/\(p.toList.map λi=>(bs.map Value.ref).getD i Value.none)=(p.toList.map λi=>bs.getD i 0).map Value.ref:=by
 have lr:bs.length=rows.length:=hA.1;have lt:∀i∈p.toList,i<rows.length:=λi hi=>List.mem_range.mp (g.pm.mem_iff.mp hi)
 refine⟨⟨by simp,λi b x e1 e2=>?_⟩,?_,?_,?_⟩
 ·rw[List.getElem?_map] at e1 e2;obtain⟨k,ek,rfl⟩:=Option.map_eq_some_iff.mp e1;rw[ek] at e2;obtain rfl:=Option.some.inj e2;have hk:=lt k (List.mem_of_getElem? ek);refine hA.2 k _ _ ?_ ?_
  ·rw[List.getD_eq_getElem?_getD,List.getElem?_eq_getElem (by omega)]; rfl
  ·show rows[k]?=some (rows.getD k []);rw[List.getD_eq_getElem?_getD,List.getElem?_eq_getElem hk]; rfl
 ·refine(g.pm.map _).trans ?_;rw[Uy]
 ·rw[List.pairwise_map,List.pairwise_iff_getElem];intro i j hi hj hij;have sz:p.toList.length=rows.length:=by rw[Array.length_toList,g.sz]
  have:=u i j hij (by omega)
  have e:∀k (hk:k<p.toList.length),p.getD k 0=p.toList[k]:=λk hk=>by
   have hk':k<p.size:=by rwa [Array.length_toList] at hk
   simp[hk']
  dsimp only at this
  rwa [e i hi,e j hj] at this
 ·rw[List.map_map];refine List.map_congr_left λi hi=>?_
  have:=lt i hi
  simp[show i<bs.length by omega]
theorem Tq(W:Lb wd S):Ck X (.builtin "sorted") (λxs H Q=>∃(p:Addr) (bs:List Addr) (rows:List (List Int)),xs=[.ref p]/\H p=some (.AN (bs.map V.ref))/\My.At (GH wd S) H bs rows/\rows.Nodup/\rows.length<64 /\
  ∀(l:Addr) (cs:List Addr) (rs:List (List Int)),H l=none->My.At (GH wd S) H cs rs->rs.Perm rows->rs.Pairwise (λa b=>Bt a b=true)->Q (.ref l) (AK H l (.AN (cs.map V.ref)))):=by
 intro pins s σ H xs us Q I r h;obtain⟨p,bs,rows,rfl,hp,hA,nd,h64,q⟩:=h;obtain⟨u,rfl,r1⟩:=Eu r;cases r1;obtain⟨its,rv,pl,_⟩:=I.list (AS.of (K:=X.K) hp);obtain rfl:=PY rv;have lr:bs.length=rows.length:=hA.1;have hn:H (s.heap.objs.size+1)=none:=I.hok.fresh (Nat.le_succ _);refine Uv pl.isList (by rw[List.length_map]; omega) λs' keep hsz hD es=>?_
 have fin:∀(cs:List Addr) (rs:List (List Int)),My.At (GH wd S) H cs rs->rs.Perm rows->rs.Pairwise (λa b=>Bt a b=true)->EP X pins σ Q (.ref (s.heap.objs.size+1)) { s' with heap:=sortedHeap s'.heap (s.heap.objs.size+1) (bs.map Value.ref) (cs.map Value.ref).toArray }:=λcs rs h1 h2 h3=>by
  obtain⟨e,he⟩:=sortedHeap_at (out:=(cs.map Value.ref).toArray) hD;have lc:cs.length=rows.length:=h1.1.trans h2.length_eq;have hz:(cs.map V.ref).length<=sizeLine:=by rw[List.length_map,sizeLine_eq]; omega
  refine⟨.ref (s.heap.objs.size+1),_,?_,rfl,q _ cs rs hn h1 h2 h3⟩;rw[es];exact I.laid (t':=s.toks) (λb o e=>sortedHeap_old (Nat.ne_of_lt (Nat.lt_succ_of_lt (Heap.lt_size e))) (keep b o e)) (Nat.le_succ _) (show BR X.prog X.w _ _ _ (.AN (cs.map V.ref)) from ⟨hz,cs.map Value.ref,e,Oy cs,he⟩)
 rcases Nat.lt_or_ge rows.length 2 with z | z
 ·exact We hD (by rw[List.length_map]; omega) ⟨rfl,fin bs rows hA (List.Perm.refl _) (Wg z)⟩
 have low:∀(i:Nat) (b:Addr) (r:List Int),bs[i]?=some b->rows[i]?=some r->b<s.heap.objs.size:=λi b r h1 h2=>by
  obtain⟨ys,⟨o,e1,_⟩,_⟩:=PD I (hA.2 i b r h1 h2);exact Heap.lt_size e1
 refine T4 W hD ⟨lr,λi b r h1 h2=>?_⟩ (λb hb=>?_) nd (by omega) (by omega) λpp g u=>⟨rfl,?_⟩
 ·obtain⟨ys,⟨o,e1,e2⟩,hi⟩:=PD I (hA.2 i b r h1 h2);exact⟨ys,⟨o,keep _ _ e1,e2⟩,hi⟩
 ·obtain⟨i,hi,rfl⟩:=List.getElem_of_mem hb;exact Nat.ne_of_lt (Nat.lt_succ_of_lt (low i _ _ (List.getElem?_eq_getElem hi) (List.getElem?_eq_getElem (by omega))))
 ·obtain⟨a1,a2,a3,a4⟩:=VA hA g u;rw[a4];exact fin _ _ a1 a2 a3
end
end L2
namespace L2
open PySem PySem.Spec PyProof.Rows
def YR(C1 C2:Addr)(m:Str)(sp1 sp2:Sp)(E:XK)(ta:TE)(t:TA):TE:=λσ H Q=>ta σ H λx H1=>∃a dx fs,x=.ref a/\fs.lookup m=none /\
 ((H1 a=some (.Az C1 dx fs)/\t σ H1 λvs H2=>sp1 (x :: (vs++[])) H2 Q E)\/(H1 a=some (.Az C2 dx fs)/\t σ H1 λvs H2=>sp2 (x :: (vs++[])) H2 Q E))
section
variable {X:Cx} {CX1 CX2:Cp} {i1 i2:Nat} {f1 f2 C1 C2:Addr} {fd1 fd2:FuncData} {ps1 ps2:List Str} {sp1 sp2:Sp} {E:XK} {m:Str} {pos apos:Pos} {e o:PySem.Expr} {es:List PySem.Expr} {ta:TE} {t:TA}
theorem Pb {pl:Sem Bool} (he:PE X o ta) (c1:Bw X.K C1) (c2:Bw X.K C2) (hm1:Bc X.K C1 m f1) (hm2:Bc X.K C2 m f2) (F1:AG X.prog X.w X.K X.mg X.base CX1 i1 f1 fd1 ps1 sp1) (F2:AG X.prog X.w X.K X.mg X.base CX2 i2 f2 fd2 ps2 sp2) (hr1:A9 i1 X.A) (hr2:A9 i2 X.A)
  (hb1:AV X.K fd1 ps1 []) (hb2:AV X.K fd2 ps2 []) (hx1:Dl CX1 X E) (hx2:Dl CX2 X E) (ha:PA X (e :: es) t)
  (hst:starEach (e :: es) X.env=(false,eval e X.env) :: starEach es X.env:=by rfl) (hpl:(backTo pos (starEach es X.env)).any (·.1)=false:=by rfl)
  (ht:eval (.Call (.Attribute o m apos) (e :: es) [] pos) X.env=(do
   let ov <-eval o X.env
   standAt apos.atName
   let (f,first) <-holding [ov] (getMethod ov m pl)
   callWith pos f first (backTo pos (starEach (e :: es) X.env)) (backToKw pos (keywordEach [] X.env))):=by rfl) :
  PE X (.Call (.Attribute o m apos) (e :: es) [] pos) (YR C1 C2 m sp1 sp2 E ta t):=by
 intro pins s σ H Q I h;refine PySem.W.methodCall_KW (pl:=pl) (Aa (he pins s σ H _ I h) λu s1 ⟨x,H1,I1,rx,a,dx,fs,ex,l,q⟩=>?_) ht;subst ex;obtain rfl:u=Value.ref a:=rx;rcases q with ⟨ea,q⟩ | ⟨ea,q⟩
 ·refine D0 I1 ea c1 hm1 l ?_;refine PySem.W.callWith_K (first:=[.ref a]) (h₀:=X.base) I.ok.BY.Dg hm1.kp (Aa (ha pos pins s1 σ H1 _ I1 q) λus s2 ⟨vs,H2,I2,r,q2⟩=>⟨I2.BF,?_⟩) hst hpl;exact EN (us:=.ref a :: us) (vs:=.ref a :: vs) F1 hr1 hb1 .nil hx1 I2 (.cons rfl r) q2
 ·refine D0 I1 ea c2 hm2 l ?_;refine PySem.W.callWith_K (first:=[.ref a]) (h₀:=X.base) I.ok.BY.Dg hm2.kp (Aa (ha pos pins s1 σ H1 _ I1 q) λus s2 ⟨vs,H2,I2,r,q2⟩=>⟨I2.BF,?_⟩) hst hpl;exact EN (us:=.ref a :: us) (vs:=.ref a :: vs) F2 hr2 hb2 .nil hx2 I2 (.cons rfl r) q2
def Wu(r r' r'':R2)(ta tb tc td:TE):TE:=λσ H Q=>ta σ H λx H1=>tb σ H1 λy H2=>r x y H2 λz H3=>∃k,z=.bl k /\
 (if k=true then tc σ H3 λw' H4=>r' y w' H4 λz' H5=>∃k',z'=.bl k'/\(if k'=true then td σ H5 λv' H6=>r'' w' v' H6 Q else Q (.bl false) H5) else Q (.bl false) H3)
variable {a b c d:PySem.Expr} {tb tc td:TE}
theorem Om {op op' op'':CmpOp} {r r' r'':R2} (ho:BZ X (compareOp op) r) (ho':BZ X (compareOp op') r') (ho'':BZ X (compareOp op'') r'') (ha:PE X a ta) (hb:PE X b tb) (hc:PE X c tc) (hd:PE X d td)
  (hm:lastMarks [op,op',op''] [b,c,d]=false:=by with_unfolding_all rfl):PT X (.Compare a [op,op',op''] [b,c,d] pos) (LS (Wu r r' r'' ta tb tc td)):=by
 intro pins s σ H Q I h;refine isTrue_chain (Aa (ha pins s σ H _ I h) λv s1 ⟨x,H1,I1,r1,q1⟩=>test_link (Aa (hb pins s1 σ H1 _ I1 q1) λu s2 ⟨y,H2,I2,r2,q2⟩ =>
  Aa (ho pins s2 σ H2 x y v u _ I2 r1 r2 q2) λd s3 ⟨z,H3,I3,r3,k,e,q3⟩=>?_)) hm
 subst e;cases r3;refine wpAny_truthy_bool ?_;cases k with
 | false =>
  obtain⟨k',e',q'⟩:=q3;cases e';exact ite_ff ⟨H3,I3,q'⟩
 | true =>
  refine ite_tt (test_link (Aa (hc pins s3 σ H3 _ I3 q3) λw' s4 ⟨z',H4,I4,r4,q4⟩=>Aa (ho' pins s4 σ H4 y z' u w' _ I4 r2 r4 q4) λd' s5 ⟨z2,H5,I5,r5,k2,e2,q5⟩=>?_));subst e2;cases r5;refine wpAny_truthy_bool ?_;cases k2 with
  | false =>
   obtain⟨k',e',q'⟩:=q5;cases e';exact ite_ff ⟨H5,I5,q'⟩
  | true =>
   refine ite_tt (test_last (Aa (hd pins s5 σ H5 _ I5 q5) λw6 s6 ⟨z6,H6,I6,r6,q6⟩=>Aa (ho'' pins s6 σ H6 z' z6 w' w6 _ I6 r4 r6 q6) λd7 s7 ⟨z7,H7,I7,r7,k7,e7,q7⟩=>?_));subst e7;cases r7;exact wpAny_truthy_bool ⟨H7,I7,q7⟩
abbrev J1(C1 C2 C3:Addr)(m:Str)(sp1 sp2 sp3:Sp)(E:XK)(Q:VK)(t:(List V->Hp->Prop)->Hp->Prop):V->Hp->Prop:=λx H1=>∃a dx fs,x=.ref a/\fs.lookup m=none /\
 ((H1 a=some (.Az C1 dx fs)/\t (λvs H2=>sp1 (x :: (vs++[])) H2 Q E) H1)\/(H1 a=some (.Az C2 dx fs)/\t (λvs H2=>sp2 (x :: (vs++[])) H2 Q E) H1)\/(H1 a=some (.Az C3 dx fs)/\t (λvs H2=>sp3 (x :: (vs++[])) H2 Q E) H1))
def Q0(C1 C2 C3:Addr)(m:Str)(sp1 sp2 sp3:Sp)(E:XK)(ta:TE)(t:TA):TE:=λσ H Q=>ta σ H (J1 C1 C2 C3 m sp1 sp2 sp3 E Q λk H1=>t σ H1 k)
def XH(C1 C2 C3:Addr)(m:Str)(sp1 sp2 sp3:Sp)(ta:TX)(t:TA):TX:=λσ H Q E=>ta σ H (J1 C1 C2 C3 m sp1 sp2 sp3 E Q λk H1=>t σ H1 k) E
variable {CX:Cp} {i3:Nat} {f3 C3:Addr} {fd3:FuncData} {ps3:List Str} {sp3:Sp}
theorem Ho {ta:TE} {pl:Sem Bool} (he:PE X o ta) (c1:Bw X.K C1) (c2:Bw X.K C2) (c3:Bw X.K C3) (hm1:Bc X.K C1 m f1) (hm2:Bc X.K C2 m f2) (hm3:Bc X.K C3 m f3) (F1:AG X.prog X.w X.K X.mg X.base CX i1 f1 fd1 ps1 sp1) (F2:AG X.prog X.w X.K X.mg X.base CX i2 f2 fd2 ps2 sp2) (F3:AG X.prog X.w X.K X.mg X.base CX i3 f3 fd3 ps3 sp3) (hr1:A9 i1 X.A) (hr2:A9 i2 X.A) (hr3:A9 i3 X.A)
  (hb1:AV X.K fd1 ps1 []) (hb2:AV X.K fd2 ps2 []) (hb3:AV X.K fd3 ps3 []) (hx:Dl CX X E) (ha:PA X (e :: es) t)
  (hst:starEach (e :: es) X.env=(false,eval e X.env) :: starEach es X.env:=by rfl) (hpl:(backTo pos (starEach es X.env)).any (·.1)=false:=by rfl)
  (ht:eval (.Call (.Attribute o m apos) (e :: es) [] pos) X.env=(do
   let ov <-eval o X.env
   standAt apos.atName
   let (f,first) <-holding [ov] (getMethod ov m pl)
   callWith pos f first (backTo pos (starEach (e :: es) X.env)) (backToKw pos (keywordEach [] X.env))):=by rfl) :
  PE X (.Call (.Attribute o m apos) (e :: es) [] pos) (Q0 C1 C2 C3 m sp1 sp2 sp3 E ta t):=by
 intro pins s σ H Q I h;refine PySem.W.methodCall_KW (pl:=pl) (Aa (he pins s σ H _ I h) λu s1 ⟨x,H1,I1,rx,a,dx,fs,ex,l,q⟩=>?_) ht;subst ex;obtain rfl:u=Value.ref a:=rx;rcases q with ⟨ea,q⟩ | ⟨ea,q⟩ | ⟨ea,q⟩
 ·refine D0 I1 ea c1 hm1 l ?_;refine PySem.W.callWith_K (first:=[.ref a]) (h₀:=X.base) I.ok.BY.Dg hm1.kp (Aa (ha pos pins s1 σ H1 _ I1 q) λus s2 ⟨vs,H2,I2,r,q2⟩=>⟨I2.BF,?_⟩) hst hpl;exact EN (us:=.ref a :: us) (vs:=.ref a :: vs) F1 hr1 hb1 .nil hx I2 (.cons rfl r) q2
 ·refine D0 I1 ea c2 hm2 l ?_;refine PySem.W.callWith_K (first:=[.ref a]) (h₀:=X.base) I.ok.BY.Dg hm2.kp (Aa (ha pos pins s1 σ H1 _ I1 q) λus s2 ⟨vs,H2,I2,r,q2⟩=>⟨I2.BF,?_⟩) hst hpl;exact EN (us:=.ref a :: us) (vs:=.ref a :: vs) F2 hr2 hb2 .nil hx I2 (.cons rfl r) q2
 ·refine D0 I1 ea c3 hm3 l ?_;refine PySem.W.callWith_K (first:=[.ref a]) (h₀:=X.base) I.ok.BY.Dg hm3.kp (Aa (ha pos pins s1 σ H1 _ I1 q) λus s2 ⟨vs,H2,I2,r,q2⟩=>⟨I2.BF,?_⟩) hst hpl;exact EN (us:=.ref a :: us) (vs:=.ref a :: vs) F3 hr3 hb3 .nil hx I2 (.cons rfl r) q2
theorem GR {ta:TE} {pl:Sem Bool} (he:PE X o ta) (c1:Bw X.K C1) (c2:Bw X.K C2) (c3:Bw X.K C3) (hm1:Bc X.K C1 m f1) (hm2:Bc X.K C2 m f2) (hm3:Bc X.K C3 m f3) (F1:AG X.prog X.w X.K X.mg X.base CX i1 f1 fd1 ps1 sp1) (F2:AG X.prog X.w X.K X.mg X.base CX i2 f2 fd2 ps2 sp2) (F3:AG X.prog X.w X.K X.mg X.base CX i3 f3 fd3 ps3 sp3) (hr1:A9 i1 X.A) (hr2:A9 i2 X.A) (hr3:A9 i3 X.A)
  (hb1:AV X.K fd1 ps1 []) (hb2:AV X.K fd2 ps2 []) (hb3:AV X.K fd3 ps3 []) (hx:Dl CX X E)
  (ht:eval (.Call (.Attribute o m apos) [] [] pos) X.env=(do
   let ov <-eval o X.env
   standAt apos.atName
   let (f,first) <-holding [ov] (getMethod ov m pl)
   callWith pos f first (backTo pos (starEach [] X.env)) (backToKw pos (keywordEach [] X.env))):=by rfl) :
  PE X (.Call (.Attribute o m apos) [] [] pos) (Q0 C1 C2 C3 m sp1 sp2 sp3 E ta BH):=by
 intro pins s σ H Q I h;refine PySem.W.methodCall_KW (pl:=pl) (Aa (he pins s σ H _ I h) λu s1 ⟨x,H1,I1,rx,a,dx,fs,ex,l,q⟩=>?_) ht;subst ex;obtain rfl:u=Value.ref a:=rx;rcases q with ⟨ea,q⟩ | ⟨ea,q⟩ | ⟨ea,q⟩
 ·refine D0 I1 ea c1 hm1 l ?_;exact PySem.W.callWith_K0 (first:=[.ref a]) I1.BF hm1.kp (EN (us:=[.ref a]) (vs:=[.ref a]) F1 hr1 hb1 .nil hx I1 (.cons rfl .nil) q)
 ·refine D0 I1 ea c2 hm2 l ?_;exact PySem.W.callWith_K0 (first:=[.ref a]) I1.BF hm2.kp (EN (us:=[.ref a]) (vs:=[.ref a]) F2 hr2 hb2 .nil hx I1 (.cons rfl .nil) q)
 ·refine D0 I1 ea c3 hm3 l ?_;exact PySem.W.callWith_K0 (first:=[.ref a]) I1.BF hm3.kp (EN (us:=[.ref a]) (vs:=[.ref a]) F3 hr3 hb3 .nil hx I1 (.cons rfl .nil) q)
theorem Ma {i:Nat} {f:Addr} {fd:FuncData} {ps:List Str} {sp:Sp} {pins:List (Addr×Obj)} {σ:L2.St} {H:Hp} {s:Shared} {Q:VK} {us:List Value} {vs:List V} {W:Value->Shared->Prop} (F:AG X.prog X.w X.K X.mg X.base (Aj X.prog X.w) i f fd ps sp) (hr:A9 i X.A) (hb:AV X.K fd ps [])
  (I:AL X pins σ H s) (r:Ah vs us) (h:sp (vs++[]) H Q E) (hW:∀a cls od H' s',LI X pins σ a cls od H' s'->E cls od H'->W (.ref a) s'):wpAny (model X.prog X.w) X.A (call (.ref f) us) (EP X pins σ Q) W s:=by
 have r2:Ah (vs++[]) (us++[]):=r.FO .nil;have hl:(us++[]).length=ps.length:=by rw[<-r2.length]; exact F.len _ _ _ _ h
 refine wpAny_call (codeAny_mono (F.Ii X.A X.stack s H ⟨us,[]⟩ (us++[]) (vs++[]) Q E hr I.NV (hb s us I.BF hl) r2 h) λr s' hq=>?_);cases r with
 | error e =>
  obtain⟨a,cls,od,H',e1,hE,c⟩:=Xa I hq;subst e1;exact hW a cls od H' s' c hE
 | ok fl =>
  cases fl with
  | ret u=>exact I.after hq
  | next=>exact False.elim hq
  | brk=>exact False.elim hq
  | cont=>exact False.elim hq
theorem P0 {ta:TX} {pl:Sem Bool} (he:PX X o ta) (c1:Bw X.K C1) (c2:Bw X.K C2) (c3:Bw X.K C3) (hm1:Bc X.K C1 m f1) (hm2:Bc X.K C2 m f2) (hm3:Bc X.K C3 m f3) (F1:AG X.prog X.w X.K X.mg X.base (Aj X.prog X.w) i1 f1 fd1 ps1 sp1) (F2:AG X.prog X.w X.K X.mg X.base (Aj X.prog X.w) i2 f2 fd2 ps2 sp2) (F3:AG X.prog X.w X.K X.mg X.base (Aj X.prog X.w) i3 f3 fd3 ps3 sp3) (hr1:A9 i1 X.A) (hr2:A9 i2 X.A) (hr3:A9 i3 X.A)
  (hb1:AV X.K fd1 ps1 []) (hb2:AV X.K fd2 ps2 []) (hb3:AV X.K fd3 ps3 []) (ha:PA X.Ea (e :: es) t)
  (hst:starEach (e :: es) X.env=(false,eval e X.env) :: starEach es X.env:=by rfl) (hpl:(backTo pos (starEach es X.env)).any (·.1)=false:=by rfl)
  (ht:eval (.Call (.Attribute o m apos) (e :: es) [] pos) X.env=(do
   let ov <-eval o X.env
   standAt apos.atName
   let (f,first) <-holding [ov] (getMethod ov m pl)
   callWith pos f first (backTo pos (starEach (e :: es) X.env)) (backToKw pos (keywordEach [] X.env))):=by rfl) :
  PX X (.Call (.Attribute o m apos) (e :: es) [] pos) (XH C1 C2 C3 m sp1 sp2 sp3 ta t):=by
 intro pins s σ H Q E W I h hW;refine PySem.W.methodCall_KW (pl:=pl) (Aa (he pins s σ H _ E W I h hW) λu s1 ⟨x,H1,I1,rx,a,dx,fs,ex,l,q⟩=>?_) ht;subst ex;obtain rfl:u=Value.ref a:=rx;rcases q with ⟨ea,q⟩ | ⟨ea,q⟩ | ⟨ea,q⟩
 ·refine D0 I1 ea c1 hm1 l ?_;refine PySem.W.callWith_K (first:=[.ref a]) (h₀:=X.base) I.ok.BY.Dg hm1.kp (wpAny_mono (ha pos pins s1 σ H1 _ (I1.C6 _) q) (λus s2 ⟨vs,H2,I2,r,q2⟩=>⟨I2.CH.BF,?_⟩) λ_ _ z=>False.elim z) hst hpl;exact Ma (us:=.ref a :: us) (vs:=.ref a :: vs) F1 hr1 hb1 I2.CH (.cons rfl r) q2 hW
 ·refine D0 I1 ea c2 hm2 l ?_;refine PySem.W.callWith_K (first:=[.ref a]) (h₀:=X.base) I.ok.BY.Dg hm2.kp (wpAny_mono (ha pos pins s1 σ H1 _ (I1.C6 _) q) (λus s2 ⟨vs,H2,I2,r,q2⟩=>⟨I2.CH.BF,?_⟩) λ_ _ z=>False.elim z) hst hpl;exact Ma (us:=.ref a :: us) (vs:=.ref a :: vs) F2 hr2 hb2 I2.CH (.cons rfl r) q2 hW
 ·refine D0 I1 ea c3 hm3 l ?_;refine PySem.W.callWith_K (first:=[.ref a]) (h₀:=X.base) I.ok.BY.Dg hm3.kp (wpAny_mono (ha pos pins s1 σ H1 _ (I1.C6 _) q) (λus s2 ⟨vs,H2,I2,r,q2⟩=>⟨I2.CH.BF,?_⟩) λ_ _ z=>False.elim z) hst hpl;exact Ma (us:=.ref a :: us) (vs:=.ref a :: vs) F3 hr3 hb3 I2.CH (.cons rfl r) q2 hW
end
structure M0(K:PySem.W.Frag)(C:Addr)(m:Str)(f:Addr):Prop where
 ga:PySem.W.specialIn K (.ref C) "__getattribute__" = some (some (.builtin "type.__getattribute__"))
 rd:PySem.W.readsIn K C (.type "type")=true
 Jy:PySem.W.findCls K (.ref C) (.type "type") m=some (.val (.ref f))
 kp:KP K f
section
variable {X:Cx} {CX:Cp} {i:Nat} {f C:Addr} {fd:FuncData} {ps:List Str} {sp:Sp} {E:XK} {m c:Str} {pos apos p:Pos} {e:PySem.Expr} {es:List PySem.Expr} {t:TA}
theorem Vg {pl:Sem Bool} (hg:Gl X c) (hc:X.mg c=some (.ref C)) (hm:M0 X.K C m f) (F:AG X.prog X.w X.K X.mg X.base CX i f fd ps sp) (hr:A9 i X.A) (hb:AV X.K fd ps []) (hx:Dl CX X E) (ha:PA X (e :: es) t)
  (hd:(c == ("__debug__":Str))=false:=by decide)
  (hst:starEach (e :: es) X.env=(false,eval e X.env) :: starEach es X.env:=by rfl) (hpl:(backTo pos (starEach es X.env)).any (·.1)=false:=by rfl)
  (ht:eval (.Call (.Attribute (.Name c p) m apos) (e :: es) [] pos) X.env=(do
   let ov <-eval (.Name c p) X.env
   standAt apos.atName
   let (f,first) <-holding [ov] (getMethod ov m pl)
   callWith pos f first (backTo pos (starEach (e :: es) X.env)) (backToKw pos (keywordEach [] X.env))):=by rfl) :
  PE X (.Call (.Attribute (.Name c p) m apos) (e :: es) [] pos) (Es sp [] E t):=by
 intro pins s σ H Q I h;refine PySem.W.methodCall_KW (pl:=pl) (Aa (HN (v:=.ref C) hg hc rfl hd pins s σ H (λx H'=>x=.ref C/\H'=H) I ⟨rfl,rfl⟩) λu s1 ⟨x,H1,I1,rx,ex,eh⟩=>?_) ht;subst ex eh;obtain rfl:u=Value.ref C:=rx;refine PySem.W.method_cls I1.BF hm.ga (PySem.W.cls_value I1.BF hm.rd hm.Jy rfl ?_);have I2:=I1.DR (s1.toks+1);refine PySem.W.callWith_K (first:=[]) (h₀:=X.base) I.ok.BY.Dg hm.kp (Aa (ha pos pins _ σ H1 _ I2 h) λus s2 ⟨vs,H2,I3,r,q2⟩=>⟨I3.BF,?_⟩) hst hpl;exact EN F hr hb .nil hx I3 r q2
def bB(te:TE):TX:=λσ H Q _=>te σ H Q
theorem R3{te:TE}(h:PE X.Ea e te):PX X e (bB te):=by
 intro pins s σ H Q E W I h' hW;exact wpAny_mono (h pins s σ H Q (I.C6 _) h') (λu s1 ⟨x,H1,I1,r,q⟩=>⟨x,H1,I1.CH,r,q⟩) λ_ _ z=>False.elim z
end
end L2
namespace Mth
theorem Pp(a b:Int):Int.gcd b (a.fmod b)=Int.gcd a b:=by
 rw[Int.fmod_def];have e:a-b*a.fdiv b=a+b*(-(a.fdiv b)):=by rw[Int.mul_neg,Int.sub_eq_add_neg]
 rw[e,Int.gcd_add_mul_left_right,Int.gcd_comm]
theorem Xr(a b:Int)(h:b≠0):(a.fmod b).natAbs<b.natAbs:=by
 rw[Int.fmod_eq_emod];have h1:=Int.emod_nonneg a h;have h2:=Int.emod_lt a h;split
 ·omega
 ·rename_i z
  have:¬b ∣ a:=λq=>z (Or.inr q)
  have hz:a % b≠0:=λq=>this (Int.dvd_of_emod_eq_zero q)
  omega
def part(t b:Int):Int:=if b<0 then -(Int.gcd t b:Int) else (Int.gcd t b:Int)
def BB(t b:Int):Int×Int:=(t.fdiv (part t b),b.fdiv (part t b))
theorem Kr(t b:Int)(h:b≠0):0<Int.gcd t b:=Int.gcd_pos_of_ne_zero_right _ h
theorem Kq(t b:Int)(h:b≠0):part t b≠0:=by
 have:=Kr t b h
 unfold part; split <;> omega
theorem Ob(t b:Int):part t b ∣ t:=by
 unfold part; split
 ·exact Int.neg_dvd.mpr (Int.gcd_dvd_left t b)
 ·exact Int.gcd_dvd_left t b
theorem OZ(t b:Int):part t b ∣ b:=by
 unfold part; split
 ·exact Int.neg_dvd.mpr (Int.gcd_dvd_right t b)
 ·exact Int.gcd_dvd_right t b
theorem Kw(t b:Int):(BB t b).1*part t b=t:=by
 show t.fdiv (part t b)*part t b=t;rw[Int.fdiv_eq_ediv_of_dvd (Ob t b),Int.ediv_mul_cancel (Ob t b)]
theorem JS(t b:Int):(BB t b).2*part t b=b:=by
 show b.fdiv (part t b)*part t b=b;rw[Int.fdiv_eq_ediv_of_dvd (OZ t b),Int.ediv_mul_cancel (OZ t b)]
theorem Px(t b:Int)(h:b≠0):0<(BB t b).2:=by
 have e:=JS t b;have g:=Kr t b h;rcases Int.lt_or_lt_of_ne h with h1 | h1
 ·have hp:part t b<0:=by unfold part; rw[if_pos h1]; omega
  rcases Int.lt_or_le 0 (BB t b).2 with q | q
  ·exact q
  ·have:0<=(BB t b).2*part t b:=Int.mul_nonneg_of_nonpos_of_nonpos q (Int.le_of_lt hp)
   omega
 ·have hp:0<part t b:=by unfold part; rw[if_neg (by omega)]; omega
  rcases Int.lt_or_le 0 (BB t b).2 with q | q
  ·exact q
  ·have:(BB t b).2*part t b<=0:=Int.mul_nonpos_of_nonpos_of_nonneg q (Int.le_of_lt hp)
   omega
theorem OW(t b:Int):(BB t b).1*b=t*(BB t b).2:=by
 have e1:=Kw t b;have e2:=JS t b;generalize (BB t b).1=n at *;generalize (BB t b).2=d at *;generalize part t b=p at *;subst e1;subst e2;rw[Int.mul_comm d p,Int.mul_assoc]
theorem WU(t b:Int)(h:b≠0):Int.gcd (BB t b).1 (BB t b).2=1:=by
 have e1:=Kw t b;have e2:=JS t b;have g:=Kr t b h;have hp:(part t b).natAbs=Int.gcd t b:=by unfold part; split <;> omega
 have k:Int.gcd ((BB t b).1*part t b) ((BB t b).2*part t b)=Int.gcd (BB t b).1 (BB t b).2*(part t b).natAbs:=Int.gcd_mul_right _ _ _;rw[e1,e2,hp] at k
 have:1*Int.gcd t b=Int.gcd (BB t b).1 (BB t b).2*Int.gcd t b:=by rw[Nat.one_mul]; exact k
 exact(Nat.eq_of_mul_eq_mul_right g this).symm
theorem QF(t b:Int)(h:b≠0):(part t b).natAbs<=b.natAbs:=by
 have e:(part t b).natAbs=Int.gcd t b:=by unfold part; split <;> omega
 rw[e];exact Nat.le_of_dvd (Int.natAbs_pos.mpr h) (by
  have:=Int.gcd_dvd_right t b
  exact Int.ofNat_dvd_left.mp this)
theorem Oz(t b:Int)(h:b≠0):(BB t b).1.natAbs<=t.natAbs:=by
 have e:=congrArg Int.natAbs (Kw t b);rw[Int.natAbs_mul] at e
 have:1<=(part t b).natAbs:=Int.natAbs_pos.mpr (Kq t b h)
 calc (BB t b).1.natAbs=(BB t b).1.natAbs*1:=(Nat.mul_one _).symm
  _<=(BB t b).1.natAbs*(part t b).natAbs:=Nat.mul_le_mul_left _ this
  _=t.natAbs:=e
theorem Oe(t b:Int)(h:b≠0):(BB t b).2.natAbs<=b.natAbs:=by
 have e:=congrArg Int.natAbs (JS t b);rw[Int.natAbs_mul] at e
 have:1<=(part t b).natAbs:=Int.natAbs_pos.mpr (Kq t b h)
 calc (BB t b).2.natAbs=(BB t b).2.natAbs*1:=(Nat.mul_one _).symm
  _<=(BB t b).2.natAbs*(part t b).natAbs:=Nat.mul_le_mul_left _ this
  _=b.natAbs:=e
end Mth
namespace Wd
end Wd
namespace Mth
theorem Iu(t b : Int)(h : b ≠ 0): BB t b = (((t : Rat) / (b : Rat)).num, (((t : Rat) / (b : Rat)).den : Int)) := by
  have g := WU t b h;have p := Px t b h;have c := OW t b;generalize (BB t b) = x at *;obtain⟨n, d⟩ := x;simp only at g p c;have hd : d = (d.toNat : Int) := by omega
  have hn : d.toNat ≠ 0 := by omega
  have hc : n.natAbs.Coprime d.toNat := by
    have : Int.gcd n d = n.natAbs.gcd d.toNat := by rw[Int.gcd]; congr 1; omega
    unfold Nat.Coprime; rw[<- this]; exact g
  let r : Rat := ⟨n, d.toNat, hn, hc⟩
  have hr : r * (d : Rat) = n := by
    have h1 : r = (n : Rat) / ((d.toNat : Nat) : Rat) := by
      have := Rat.num_divInt_den r;rw[<- this, Rat.divInt_eq_div]; rfl
    have h2 : ((d.toNat : Nat) : Rat) = (d : Rat) := by
      have : ((d.toNat : Nat) : Rat) = (((d.toNat : Nat) : Int) : Rat) := rfl;rw[this, <- hd]
    have h3 : (d : Rat) ≠ 0 := by have : d ≠ 0 := by omega
                                  exact_mod_cast this
    rw[h1, h2]; grind
  have hb : (b : Rat) ≠ 0 := by exact_mod_cast h
  have hd0 : (d : Rat) ≠ 0 := by have : d ≠ 0 := by omega
                                 exact_mod_cast this
  have cr : (n : Rat) * b = t * d := by exact_mod_cast c
  have e : (t : Rat) / (b : Rat) = r := by grind
  rw[e];show(n, d) = (n, ((d.toNat : Nat) : Int));rw[<- hd]
def fr(q:Rat):Int×Int:=(q.num,q.den)
theorem Kl(q:Rat):q*((q.den:Nat):Rat)=q.num:=by
 have h1:=Rat.num_divInt_den q;rw[Rat.divInt_eq_div] at h1
 have:((q.den:Nat):Rat)≠0:=by exact_mod_cast q.den_nz
 have h2:(((q.den:Nat):Int):Rat)=((q.den:Nat):Rat):=rfl;rw[h2] at h1
 grind
theorem MC(q:Rat):((q.den:Nat):Rat)≠0:=by exact_mod_cast q.den_nz
theorem RN(q:Rat):((q.num:Int):Rat) / ((((q.den:Nat):Int)):Rat)=q:=by
 have:=Kl q
 have h2:(((q.den:Nat):Int):Rat)=((q.den:Nat):Rat):=rfl
 have:=MC q
 rw[h2]; grind
theorem ic(n:Nat):(((n:Nat):Int):Rat)=((n:Nat):Rat):=rfl
theorem YW(p q:Rat):BB (p.num*q.den-q.num*p.den) (p.den*q.den)=fr (p-q):=by
 have hp:=p.den_nz;have hq:=q.den_nz;have h:((p.den:Int)*(q.den:Int))≠0:=Int.mul_ne_zero (by omega) (by omega);rw[Iu _ _ h];have e:(((p.num*q.den-q.num*p.den:Int)):Rat) / (((p.den:Int)*(q.den:Int):Int):Rat)=p-q:=by
  have:=Kl p; have:=Kl q; have:=MC p; have:=MC q
  simp only[Rat.intCast_sub,Rat.intCast_mul,ic]
  grind
 rw[e]; rfl
def Sb(n d:Nat)(q:Rat):Prop:=q.num.natAbs<=2 ^ n/\q.den<=2 ^ d
theorem Wz{t b:Int}(h:b≠0):(BB t b).1.natAbs<=t.natAbs/\(BB t b).2.natAbs<=b.natAbs:=by
 have h1:=Kw t b;have h2:=JS t b;have h3:=Kq t b h;have a1:t.natAbs=(BB t b).1.natAbs*(part t b).natAbs:=by rw[<-Int.natAbs_mul,h1]
 have a2:b.natAbs=(BB t b).2.natAbs*(part t b).natAbs:=by rw[<-Int.natAbs_mul,h2]
 have a3:1<=(part t b).natAbs:=by omega
 rw[a1,a2];exact⟨Nat.le_mul_of_pos_right _ a3,Nat.le_mul_of_pos_right _ a3⟩
theorem Y7{t b:Int}{n d:Nat}(h:b≠0)(h1:t.natAbs<=2 ^ n)(h2:b.natAbs<=2 ^ d){q:Rat}(e:BB t b=fr q):Sb n d q:=by
 have:=Wz (t:=t) h
 rw[e] at this;simp only[fr,Int.natAbs_natCast] at this;exact⟨by omega,by omega⟩
theorem Lc{a b m n:Nat}(h:a<=2 ^ m)(g:b<=2 ^ n):a*b<=2 ^ (m+n):=by rw[Nat.pow_add]; exact Nat.mul_le_mul h g
theorem bM(p q:Rat):((p.den:Int)*(q.den:Int))≠0:=by
 have hp:=p.den_nz;have hq:=q.den_nz;exact Int.mul_ne_zero (by omega) (by omega)
theorem Sb.sub{n d n' d' N:Nat}{p q:Rat}(h:Sb n d p)(g:Sb n' d' q)(h1:n+d'<=N)(h2:n' + d<=N):Sb (N+1) (d+d') (p-q):=by
 refine Y7 (bM p q) ?_ ?_ (YW p q)
 ·have a1:(p.num*q.den).natAbs<=2 ^ N:=by
   rw[Int.natAbs_mul,Int.natAbs_natCast];exact Nat.le_trans (Lc h.1 g.2) (Nat.pow_le_pow_right (by decide) h1)
  have a2:(q.num*p.den).natAbs<=2 ^ N:=by
   rw[Int.natAbs_mul,Int.natAbs_natCast];exact Nat.le_trans (Lc g.1 h.2) (Nat.pow_le_pow_right (by decide) h2)
  have:=Int.natAbs_sub_le (p.num*q.den) (q.num*p.den)
  rw[Nat.pow_succ]; omega
 ·rw[Int.natAbs_mul,Int.natAbs_natCast,Int.natAbs_natCast]; exact Lc h.2 g.2
theorem Sb.mono{n d n' d':Nat}{p:Rat}(h:Sb n d p)(h1:n<=n')(h2:d<=d'):Sb n' d' p :=
 ⟨Nat.le_trans h.1 (Nat.pow_le_pow_right (by decide) h1),Nat.le_trans h.2 (Nat.pow_le_pow_right (by decide) h2)⟩
theorem Sb.one:Sb 0 0 1:=by constructor <;> decide
def DP(c:Int)(q:Rat):Int:=c.fdiv (Int.gcd c q.den:Int)*q.den
def cb(r:List Rat):Int:=r.foldl DP 1
theorem YN{c:Int}(h:0<c)(q:Rat):0<DP c q/\c ∣ DP c q/\(q.den:Int) ∣ DP c q/\DP c q<=c*q.den:=by
 have hq:=q.den_nz;have hg:0<Int.gcd c q.den:=Int.gcd_pos_of_ne_zero_left _ (by omega);obtain⟨x,hx⟩:=Int.gcd_dvd_left c (q.den:Int);obtain⟨y,hy⟩:=Int.gcd_dvd_right c (q.den:Int);generalize hG:Int.gcd c (q.den:Int)=G at *;have hG0:(G:Int)≠0:=by omega
 have e:c.fdiv (G:Int)=x:=by
  rw[Int.fdiv_eq_ediv_of_dvd ⟨x,hx⟩]
  conv=>lhs; rw[hx]
  rw[Int.mul_ediv_cancel_left _ hG0]
 have hx0:0<x:=by
  rcases Int.lt_or_le 0 x with h' | h'
  ·exact h'
  ·have:(G:Int)*x<=0:=Int.mul_nonpos_of_nonneg_of_nonpos (by omega) h'
   omega
 have hq0:(0:Int)<q.den:=by omega
 unfold DP;rw[hG,e];refine⟨Int.mul_pos hx0 hq0,⟨y,?_⟩,⟨x,Int.mul_comm _ _⟩,?_⟩
 ·conv=>lhs; rw[hy]
  conv=>rhs; rw[hx]
  rw[Int.mul_left_comm,Int.mul_assoc]
 ·refine Int.mul_le_mul_of_nonneg_right ?_ (by omega)
  have:1*x<=(G:Int)*x:=Int.mul_le_mul_of_nonneg_right (by omega) (by omega)
  omega
theorem Rm(r:List Rat):∀{c:Int} {D d:Nat},0<c->c.natAbs<=2 ^ D->(∀q∈r,q.den<=2 ^ d) →
  0<r.foldl DP c/\c ∣ r.foldl DP c/\(∀q∈r,(q.den:Int) ∣ r.foldl DP c)/\(r.foldl DP c).natAbs<=2 ^ (D+d*r.length):=by
 induction r with
 | nil=>intro c D d h g _; exact⟨h,Int.dvd_refl _,by simp,by simpa using g⟩
 | cons q r ih =>
  intro c D d h g hd;obtain⟨a1,a2,a3,a4⟩:=YN h q;have hq:=hd q (by simp);have a5:(DP c q).natAbs<=2 ^ (D+d):=by
   have h5:(DP c q).natAbs<=c.natAbs*q.den:=by
    have e1:((c.natAbs*q.den:Nat):Int)=c*q.den:=by rw[Int.natCast_mul]; congr 1; omega
    omega
   exact Nat.le_trans h5 (Lc g hq)
  obtain⟨b1,b2,b3,b4⟩:=ih (D:=D+d) (d:=d) a1 a5 (λp hp=>hd p (by simp[hp]));refine⟨b1,Int.dvd_trans a2 b2,?_,?_⟩
  ·intro p hp;rcases List.mem_cons.mp hp with rfl | hp
   ·exact Int.dvd_trans a3 b2
   ·exact b3 p hp
  ·rw[List.length_cons,Nat.mul_succ]
   have:D+(d*r.length+d)=D+d+d*r.length:=by omega
   rw[this]; exact b4
def wh(b:Int)(q:Rat):Int:=q.num*b.fdiv q.den
theorem YB{b:Int}{q:Rat}(h:(q.den:Int) ∣ b):((wh b q:Int):Rat)=b*q:=by
 obtain⟨x,hx⟩:=h;have hq:=q.den_nz;have e:b.fdiv q.den=x:=by
  rw[Int.fdiv_eq_ediv_of_dvd ⟨x,hx⟩,hx,Int.mul_ediv_cancel_left _ (by omega)]
 unfold wh;rw[e,hx]
 have:=Kl q
 simp only[Rat.intCast_mul,ic]
 grind
end Mth
namespace Fl
abbrev AE:=Int×Int×Int×Int
abbrev AE.l(b:AE):Int:=b.1
abbrev AE.d(b:AE):Int:=b.2.1
abbrev AE.r(b:AE):Int:=b.2.2.1
abbrev AE.u(b:AE):Int:=b.2.2.2
def FD(b:AE):Prop:=(b.l<b.r/\b.d<b.u)\/(b.l=b.r/\b.d=b.u)
def Dx(w h:Int)(b:AE):Prop:=0<=b.l/\0<=b.d/\b.r<=w/\b.u<=h
def Cu(a b:AE):Bool:=decide (max a.l b.l<min a.r b.r) && decide (max a.d b.d<min a.u b.u)
def Co(x y:Int)(b:AE):Bool:=decide (b.l<=x/\x<b.r/\b.d<=y/\y<b.u)
theorem Di{x y:Int}{b:AE}:Co x y b=true↔b.l<=x/\x<b.r/\b.d<=y/\y<b.u:=decide_eq_true_iff
structure CC(w h:Int)(bs:List AE):Prop where
 ok:∀b∈bs,FD b
 Be:∀b∈bs,Dx w h b
 one:∀x y,0<=x->x<w->0<=y->y<h->bs.countP (Co x y)=1
theorem HP{a b:AE}:Cu a b=true↔a.l<a.r/\a.l<b.r/\b.l<a.r/\b.l<b.r/\a.d<a.u/\a.d<b.u/\b.d<a.u/\b.d<b.u:=by
 unfold Cu;rw[Bool.and_eq_true,decide_eq_true_iff,decide_eq_true_iff,Int.max_lt,Int.lt_min,Int.lt_min,Int.max_lt,Int.lt_min,Int.lt_min];exact⟨λ⟨⟨⟨h1,h2⟩,h3,h4⟩,⟨h5,h6⟩,h7,h8⟩=>⟨h1,h2,h3,h4,h5,h6,h7,h8⟩,λ⟨h1,h2,h3,h4,h5,h6,h7,h8⟩=>⟨⟨⟨h1,h2⟩,h3,h4⟩,⟨h5,h6⟩,h7,h8⟩⟩
theorem Wo{a b:AE}:Cu a b=true↔∃x y,Co x y a=true/\Co x y b=true:=by
 rw[HP];constructor
 ·intro h;refine⟨max a.l b.l,max a.d b.d,Di.mpr ?_,Di.mpr ?_⟩ <;> omega
 ·rintro⟨x,y,h1,h2⟩;rw[Di] at h1 h2;omega
theorem UC{w h:Int}(hw:0<w)(hh:0<h):CC w h [(0,0,w,h)]:=by
 refine⟨λb hb=>?_,λb hb=>?_,λx y x0 x1 y0 y1=>?_⟩
 ·rw[List.mem_singleton.mp hb]; exact .inl ⟨hw,hh⟩
 ·rw[List.mem_singleton.mp hb]; exact⟨Int.le_refl _,Int.le_refl _,Int.le_refl _,Int.le_refl _⟩
 ·have:Co x y (0,0,w,h)=true:=Di.mpr ⟨x0,x1,y0,y1⟩
  simp[List.countP_cons,this]
structure ES(b:AE)(ps:List AE):Prop where
 ok:∀p∈ps,p.l<p.r/\p.d<p.u
 Be:∀p∈ps,b.l<=p.l/\b.d<=p.d/\p.r<=b.r/\p.u<=b.u
 one:∀x y,ps.countP (Co x y)=if Co x y b=true then 1 else 0
theorem CC.Lq{w h:Int}{A B ps:List AE}{b:AE}(t:CC w h (A++b :: B))(p:ES b ps):CC w h (A++ps++B):=by
 have ib:=t.Be b (by simp);refine⟨λq hq=>?_,λq hq=>?_,λx y x0 x1 y0 y1=>?_⟩
 ·rcases List.mem_append.mp hq with z | z
  ·rcases List.mem_append.mp z with z | z
   ·exact t.ok q (by simp[z])
   ·exact .inl (p.ok q z)
  ·exact t.ok q (by simp[z])
 ·rcases List.mem_append.mp hq with z | z
  ·rcases List.mem_append.mp z with z | z
   ·exact t.Be q (by simp[z])
   ·have:=p.Be q z
    unfold Dx at ib ⊢;omega
  ·exact t.Be q (by simp[z])
 ·have:=t.one x y x0 x1 y0 y1
  rw[List.countP_append,List.countP_cons] at this;rw[List.countP_append,List.countP_append,p.one];omega
theorem DF{x y:Int}{b:AE}{l:List AE}:(b :: l).countP (Co x y)=l.countP (Co x y)+if Co x y b=true then 1 else 0:=List.countP_cons ..
theorem JG{x y:Int}:([]:List AE).countP (Co x y)=0:=rfl
theorem LQ{b:AE}{x:Int}(h1:b.l<x)(h2:x<b.r)(h3:b.d<b.u):ES b [(b.l,b.d,x,b.u),(x,b.d,b.r,b.u)]:=by
 refine⟨λp hp=>?_,λp hp=>?_,λu v=>?_⟩
 ·simp only[List.mem_cons,List.not_mem_nil,or_false] at hp;rcases hp with rfl | rfl <;> exact⟨by dsimp only[AE.l,AE.d,AE.r,AE.u] at *; omega,by dsimp only[AE.l,AE.d,AE.r,AE.u] at *; omega⟩
 ·simp only[List.mem_cons,List.not_mem_nil,or_false] at hp;rcases hp with rfl | rfl <;> exact⟨by dsimp only[AE.l,AE.d,AE.r,AE.u] at *; omega,by dsimp only[AE.l,AE.d,AE.r,AE.u] at *; omega,by dsimp only[AE.l,AE.d,AE.r,AE.u] at *; omega,by dsimp only[AE.l,AE.d,AE.r,AE.u] at *; omega⟩
 ·rw[DF,DF,JG];simp only[Di,AE.l,AE.d,AE.r,AE.u] at *;split <;> split <;> split <;> omega
theorem LW{b:AE}{y:Int}(h1:b.d<y)(h2:y<b.u)(h3:b.l<b.r):ES b [(b.l,b.d,b.r,y),(b.l,y,b.r,b.u)]:=by
 refine⟨λp hp=>?_,λp hp=>?_,λu v=>?_⟩
 ·simp only[List.mem_cons,List.not_mem_nil,or_false] at hp;rcases hp with rfl | rfl <;> exact⟨by dsimp only[AE.l,AE.d,AE.r,AE.u] at *; omega,by dsimp only[AE.l,AE.d,AE.r,AE.u] at *; omega⟩
 ·simp only[List.mem_cons,List.not_mem_nil,or_false] at hp;rcases hp with rfl | rfl <;> exact⟨by dsimp only[AE.l,AE.d,AE.r,AE.u] at *; omega,by dsimp only[AE.l,AE.d,AE.r,AE.u] at *; omega,by dsimp only[AE.l,AE.d,AE.r,AE.u] at *; omega,by dsimp only[AE.l,AE.d,AE.r,AE.u] at *; omega⟩
 ·rw[DF,DF,JG];simp only[Di,AE.l,AE.d,AE.r,AE.u] at *;split <;> split <;> split <;> omega
theorem Y3{b:AE}{x f y u:Int}(h1:b.l<x)(h2:x<f)(h3:f<b.r)(h4:b.d<y)(h5:y<u)(h6:u<b.u):
  ES b [(b.l,b.d,f,y),(f,b.d,b.r,u),(x,u,b.r,b.u),(b.l,y,x,b.u),(x,y,f,u)]:=by
 refine⟨λp hp=>?_,λp hp=>?_,λs t=>?_⟩
 ·simp only[List.mem_cons,List.not_mem_nil,or_false] at hp;rcases hp with rfl | rfl | rfl | rfl | rfl <;> exact⟨by dsimp only[AE.l,AE.d,AE.r,AE.u] at *; omega,by dsimp only[AE.l,AE.d,AE.r,AE.u] at *; omega⟩
 ·simp only[List.mem_cons,List.not_mem_nil,or_false] at hp;rcases hp with rfl | rfl | rfl | rfl | rfl <;> exact⟨by dsimp only[AE.l,AE.d,AE.r,AE.u] at *; omega,by dsimp only[AE.l,AE.d,AE.r,AE.u] at *; omega,by dsimp only[AE.l,AE.d,AE.r,AE.u] at *; omega,by dsimp only[AE.l,AE.d,AE.r,AE.u] at *; omega⟩
 ·rw[DF,DF,DF,DF,DF,JG];simp only[Di,AE.l,AE.d,AE.r,AE.u] at *;by_cases c1:s<b.1 <;> by_cases c2:s<x <;> by_cases c3:s<f <;> by_cases c4:s<b.2.2.1 <;> by_cases d1:t<b.2.1 <;> by_cases d2:t<y <;> by_cases d3:t<u <;> by_cases d4:t<b.2.2.2 <;> (try omega) <;> (repeat (first | rw[if_pos (by omega)] | rw[if_neg (by omega)]))
theorem U0{α:Type}{p:α->Bool}{l:List α}{i j:Nat}(hij:i<j)(hj:j<l.length)(pi:p (l[i]'(by omega))=true)(pj:p l[j]=true):2<=l.countP p:=by
 have e:l=l.take (i+1)++l.drop (i+1):=(List.take_append_drop _ _).symm;rw[e,List.countP_append];have a:0<(l.take (i+1)).countP p:=List.countP_pos_iff.mpr ⟨l[i],List.mem_take_iff_getElem.mpr ⟨i,by omega,rfl⟩,pi⟩;have b:0<(l.drop (i+1)).countP p:=List.countP_pos_iff.mpr ⟨l[j],List.mem_drop_iff_getElem.mpr ⟨j-(i+1),by omega,by congr 1; omega⟩,pj⟩;omega
abbrev CZ(bs:List AE):Prop:=bs.Pairwise λa b=>Cu a b=false
theorem Qh{w h x y:Int}{b:AE}(i:Dx w h b)(z:Co x y b=true):0<=x/\x<w/\0<=y/\y<h:=by
 rw[Di] at z;obtain⟨a,b',c,d⟩:=i;omega
theorem CC.Lh{w h:Int}{bs:List AE}(t:CC w h bs):CZ bs:=by
 rw[CZ,List.pairwise_iff_getElem];intro i j hi hj hij;rw[Bool.eq_false_iff];intro z;obtain⟨x,y,h1,h2⟩:=Wo.mp z;obtain⟨a,b,c,d⟩:=Qh (t.Be _ (List.getElem_mem hi)) h1
 have:=U0 (p:=Co x y) hij hj h1 h2
 rw[t.one x y a b c d] at this;omega
theorem CC.Gm{w h:Int}{bs cs:List AE}(t:CC w h bs)(p:cs.Perm bs):CC w h cs :=
 ⟨λb hb=>t.ok b (p.mem_iff.mp hb),λb hb=>t.Be b (p.mem_iff.mp hb),λx y a b c d=>by rw[p.countP_eq]; exact t.one x y a b c d⟩
theorem CC.bare{w h:Int}{bs:List AE}(t:CC w h bs)(p:AE->Bool)(hp:∀b∈bs,p b=false->b.l=b.r):CC w h (bs.filter p):=by
 refine⟨λb hb=>t.ok b (List.mem_filter.mp hb).1,λb hb=>t.Be b (List.mem_filter.mp hb).1,λx y a b c d=>?_⟩;rw[<-t.one x y a b c d,List.countP_filter];refine List.countP_congr λq hq=>?_
 rw[Bool.and_eq_true];constructor
 ·exact λz=>z.1
 ·intro z;refine⟨z,?_⟩;cases e:p q with
  | true=>rfl
  | false =>
   have:=hp q hq e
   rw[Di] at z;omega
structure Bd(m:Int)(vs xs:List Int):Prop where
 up:xs.Pairwise (· < ·)
 mem:∀v,v∈xs↔v=0\/v=m\/v∈vs
theorem PM:∀{xs ys:List Int},xs.Pairwise (· < ·)->ys.Pairwise (· < ·)->(∀v,v∈xs↔v∈ys)->xs=ys
 | [],[],_,_,_=>rfl
 | [],y :: ys,_,_,h=>absurd ((h y).mpr (by simp)) (by simp)
 | x :: xs,[],_,_,h=>absurd ((h x).mp (by simp)) (by simp)
 | x :: xs,y :: ys,hx,hy,h=>by
  rw[List.pairwise_cons] at hx hy;have e:x=y:=by
   rcases List.mem_cons.mp ((h x).mp (by simp)) with z | z
   ·exact z
   ·rcases List.mem_cons.mp ((h y).mpr (by simp)) with z' | z'
    ·exact z'.symm
    ·have:=hx.1 y z'; have:=hy.1 x z; omega
  subst e;congr 1;refine PM hx.2 hy.2 λv=>?_
  constructor
  ·intro z;rcases List.mem_cons.mp ((h v).mp (by simp[z])) with q | q
   ·have:=hx.1 v z; omega
   ·exact q
  ·intro z;rcases List.mem_cons.mp ((h v).mpr (by simp[z])) with q | q
   ·have:=hy.1 v z; omega
   ·exact q
theorem Bd.Du{m:Int}{vs xs ys:List Int}(a:Bd m vs xs)(b:Bd m vs ys):xs=ys:=PM a.up b.up λv=>by rw[a.mem,b.mem]
def E8(bs:List AE)(x0 y0 x1 y1:Int):Bool:=bs.any λb=>decide (b.l<=x0) && decide (x1<=b.r) && (decide (b.d<=y0) && decide (y1<=b.u))
def Et(xs ys:List Int)(j k:Nat):AE:=(xs.getD j 0,ys.getD k 0,xs.getD (j+1) 0,ys.getD (k+1) 0)
abbrev Dv(bs:List AE)(xs ys:List Int)(j k:Nat):Bool:=E8 bs (Et xs ys j k).l (Et xs ys j k).d (Et xs ys j k).r (Et xs ys j k).u
def DU(bs:List AE)(xs ys:List Int)(k:Nat):Option Nat:=(List.range (xs.length-1)).find? λj=>!Dv bs xs ys j k
def DN(bs:List AE)(xs ys:List Int):Option AE:=(List.range (ys.length-1)).findSome? λk=>(DU bs xs ys k).map λj=>Et xs ys j k
theorem QE{xs:List Int}(h:xs.Pairwise (· < ·)){j:Nat}(hj:j+1<xs.length){v:Int}(hv:v∈xs)(hl:xs.getD j 0<v):xs.getD (j+1) 0<=v:=by
 obtain⟨i,hi,rfl⟩:=List.getElem_of_mem hv;have g:∀k (hk:k<xs.length),xs.getD k 0=xs[k]:=λk hk=>by rw[List.getD_eq_getElem?_getD,List.getElem?_eq_getElem hk]; rfl
 rw[g j (by omega)] at hl;rw[g (j+1) hj];have p:=List.pairwise_iff_getElem.mp h;rcases Nat.lt_trichotomy i (j+1) with z | z | z
 ·rcases Nat.lt_or_ge i j with y | y
  ·have:=p i j hi (by omega) y; omega
  ·have:i=j:=by omega
   subst this; omega
 ·subst z; exact Int.le_refl _
 ·have:=p (j+1) i hj hi z; omega
theorem Rx{xs:List Int}(h:xs.Pairwise (· < ·)){j:Nat}(hj:j+1<xs.length):xs.getD j 0<xs.getD (j+1) 0/\xs.getD j 0∈xs/\xs.getD (j+1) 0∈xs:=by
 have g:∀k (hk:k<xs.length),xs.getD k 0=xs[k]:=λk hk=>by rw[List.getD_eq_getElem?_getD,List.getElem?_eq_getElem hk]; rfl
 rw[g j (by omega),g (j+1) hj];exact⟨List.pairwise_iff_getElem.mp h j (j+1) (by omega) hj (by omega),List.getElem_mem _,List.getElem_mem _⟩
abbrev E5(bs:List AE):List Int:=bs.map (·.1)++bs.map (·.2.2.1)
abbrev E1(bs:List AE):List Int:=bs.map (·.2.1)++bs.map (·.2.2.2)
end Fl
namespace Fl
structure Sc(f:Int->Int)(D:Int->Prop):Prop where
 lt:∀a b,D a->D b->(a<b↔f a<f b)
 z:D 0
 f0:f 0=0
section
variable {f:Int->Int} {D:Int->Prop}
theorem Sc.le(s:Sc f D){a b:Int}(ha:D a)(hb:D b):a<=b↔f a<=f b:=by have:=s.lt b a hb ha; omega
theorem Sc.eq(s:Sc f D){a b:Int}(ha:D a)(hb:D b):a=b↔f a=f b:=by have:=s.lt a b ha hb; have:=s.lt b a hb ha; omega
abbrev Bo(f:Int->Int)(b:AE):AE:=(f b.l,f b.d,f b.r,f b.u)
abbrev DB(D:Int->Prop)(b:AE):Prop:=D b.l/\D b.d/\D b.r/\D b.u
theorem Sc.ok(s:Sc f D){b:AE}(h:DB D b):FD (Bo f b)↔FD b:=by
 obtain⟨h1,h2,h3,h4⟩:=h;unfold FD;have a:=s.lt _ _ h1 h3; have c:=s.lt _ _ h2 h4; have d:=s.eq h1 h3; have e:=s.eq h2 h4;show(f b.l<f b.r/\f b.d<f b.u)\/(f b.l=f b.r/\f b.d=f b.u)↔_;rw[<-a,<-c,<-d,<-e]
theorem Sc.Be(s:Sc f D){w h:Int}{b:AE}(hw:D w)(hh:D h)(hb:DB D b):Dx (f w) (f h) (Bo f b)↔Dx w h b:=by
 obtain⟨h1,h2,h3,h4⟩:=hb;unfold Dx;show 0<=f b.l/\0<=f b.d/\f b.r<=f w/\f b.u<=f h↔_;have a:=s.le s.z h1; have c:=s.le s.z h2;rw[s.f0] at a c;rw[<-a,<-c,<-s.le h3 hw,<-s.le h4 hh]
theorem Sc.ov(s:Sc f D){a b:AE}(ha:DB D a)(hb:DB D b):Cu (Bo f a) (Bo f b)=Cu a b:=by
 rw[Bool.eq_iff_iff,HP,HP];show f a.l<f a.r/\f a.l<f b.r/\f b.l<f a.r/\f b.l<f b.r/\f a.d<f a.u/\f a.d<f b.u/\f b.d<f a.u/\f b.d<f b.u↔_;obtain⟨a1,a2,a3,a4⟩:=ha;obtain⟨b1,b2,b3,b4⟩:=hb;rw[<-s.lt _ _ a1 a3,<-s.lt _ _ a1 b3,<-s.lt _ _ b1 a3,<-s.lt _ _ b1 b3,<-s.lt _ _ a2 a4,<-s.lt _ _ a2 b4,<-s.lt _ _ b2 a4,<-s.lt _ _ b2 b4]
theorem Sc.bd(s:Sc f D){m:Int}{vs xs:List Int}(b:Bd m vs xs)(h:∀v∈xs,D v):Bd (f m) (vs.map f) (xs.map f):=by
 refine⟨?_,λv=>?_⟩
 ·rw[List.pairwise_map];exact b.up.imp_of_mem λ{x y} hx hy z=>(s.lt x y (h x hx) (h y hy)).mp z
 ·rw[List.mem_map];constructor
  ·rintro⟨x,hx,rfl⟩;rcases(b.mem x).mp hx with z | z | z
   ·exact .inl (by rw[z,s.f0])
   ·exact .inr (.inl (by rw[z]))
   ·exact .inr (.inr (List.mem_map.mpr ⟨x,z,rfl⟩))
  ·rintro(z | z | z)
   ·exact⟨0,(b.mem 0).mpr (.inl rfl),by rw[z,s.f0]⟩
   ·exact⟨m,(b.mem m).mpr (.inr (.inl rfl)),z.symm⟩
   ·obtain⟨x,hx,rfl⟩:=List.mem_map.mp z;exact⟨x,(b.mem x).mpr (.inr (.inr hx)),rfl⟩
theorem Kn(s:Sc f D)(xs:List Int)(j:Nat):(xs.map f).getD j 0=f (xs.getD j 0):=by
 rw[List.getD_eq_getElem?_getD,List.getElem?_map,List.getD_eq_getElem?_getD];cases xs[j]? with
 | none=>exact s.f0.symm
 | some x=>rfl
theorem Sc.cell(s:Sc f D)(xs ys:List Int)(j k:Nat):Et (xs.map f) (ys.map f) j k=Bo f (Et xs ys j k):=by
 unfold Et;rw[Kn s,Kn s,Kn s,Kn s]
theorem K6{xs:List Int}(z:D 0)(h:∀v∈xs,D v)(j:Nat):D (xs.getD j 0):=by
 rw[List.getD_eq_getElem?_getD];cases e:xs[j]? with
 | none=>exact z
 | some x=>exact h x (List.mem_of_getElem? e)
theorem Sc.Hf(s:Sc f D){bs:List AE}{xs ys:List Int}(hb:∀b∈bs,DB D b)(hx:∀v∈xs,D v)(hy:∀v∈ys,D v):DN (bs.map (Bo f)) (xs.map f) (ys.map f)=(DN bs xs ys).map (Bo f):=by
 have cv:∀j k,Dv (bs.map (Bo f)) (xs.map f) (ys.map f) j k=Dv bs xs ys j k:=λj k=>by
  show E8 _ _ _ _ _=E8 _ _ _ _ _;rw[s.cell];unfold E8;rw[List.any_map];rw[Bool.eq_iff_iff,List.any_eq_true,List.any_eq_true];refine exists_congr λb=>and_congr_right λhm=>?_
  obtain⟨b1,b2,b3,b4⟩:=hb b hm;have d1:=K6 s.z hx j; have d2:=K6 s.z hx (j+1); have e1:=K6 s.z hy k; have e2:=K6 s.z hy (k+1);show(decide (f b.l<=f (xs.getD j 0)) && decide (f (xs.getD (j+1) 0)<=f b.r) && (decide (f b.d<=f (ys.getD k 0)) && decide (f (ys.getD (k+1) 0)<=f b.u)))=true↔(decide (b.l<=xs.getD j 0) && decide (xs.getD (j+1) 0<=b.r) && (decide (b.d<=ys.getD k 0) && decide (ys.getD (k+1) 0<=b.u)))=true;simp only[Bool.and_eq_true,decide_eq_true_eq];rw[<-s.le b1 d1,<-s.le d2 b3,<-s.le b2 e1,<-s.le e2 b4]
 have rg:∀k,DU (bs.map (Bo f)) (xs.map f) (ys.map f) k=DU bs xs ys k:=λk=>by
  unfold DU;rw[List.length_map];congr 1
  funext j
  rw[cv]
 unfold DN;rw[List.length_map,List.map_findSome?];congr 1
 funext k
 rw[rg];show _=Option.map (Bo f) ((DU bs xs ys k).map λj=>Et xs ys j k);rw[Option.map_map];congr 1
 funext j
 exact s.cell xs ys j k
end
structure Fst(bs:List AE)(j k:Nat):Prop where
 lt:j<k
 Jy:∃a b,bs[j]?=some a/\bs[k]?=some b/\Cu a b=true
 bU:∀(j' k':Nat) (a b:AE),j' < k'->bs[j']?=some a->bs[k']?=some b->(j' < j\/(j'=j/\k' < k))->Cu a b=false
theorem Fst.sc{f:Int->Int}{D:Int->Prop}(s:Sc f D){bs:List AE}(hb:∀b∈bs,DB D b){j k:Nat}(h:Fst bs j k):Fst (bs.map (Bo f)) j k:=by
 obtain⟨lt,⟨a,b,e1,e2,o⟩,no⟩:=h;refine⟨lt,⟨Bo f a,Bo f b,by rw[List.getElem?_map,e1]; rfl,by rw[List.getElem?_map,e2]; rfl,?_⟩,λj' k' a' b' hl h1 h2 hc=>?_⟩
 ·rw[s.ov (hb a (List.mem_of_getElem? e1)) (hb b (List.mem_of_getElem? e2))]; exact o
 ·rw[List.getElem?_map] at h1 h2;obtain⟨a0,q1,rfl⟩:=Option.map_eq_some_iff.mp h1;obtain⟨b0,q2,rfl⟩:=Option.map_eq_some_iff.mp h2;rw[s.ov (hb a0 (List.mem_of_getElem? q1)) (hb b0 (List.mem_of_getElem? q2))];exact no j' k' a0 b0 hl q1 q2 hc
theorem CZ.sc{f:Int->Int}{D:Int->Prop}(s:Sc f D){bs:List AE}(hb:∀b∈bs,DB D b)(h:CZ bs):CZ (bs.map (Bo f)):=by
 rw[CZ,List.pairwise_map];exact List.Pairwise.imp_of_mem (λ{a b} ha hb' z=>by rw[s.ov (hb a ha) (hb b hb')]; exact z) h
theorem CC.bT{w h:Int}{bs:List AE}(t:CC w h bs){i j:Nat}{c:AE}(hi:bs[i]?=some c)(hj:bs[j]?=some c)(hc:c.l<c.r)(hd:c.d<c.u):i=j:=by
 obtain⟨hil,ei⟩:=List.getElem?_eq_some_iff.mp hi;obtain⟨hjl,ej⟩:=List.getElem?_eq_some_iff.mp hj;have no:=List.pairwise_iff_getElem.mp t.Lh;have o:Cu c c=true:=by rw[HP]; omega
 rcases Nat.lt_trichotomy i j with z | z | z
 ·have:=no i j hil hjl z; rw[ei,ej,o] at this; cases this
 ·exact z
 ·have:=no j i hjl hil z; rw[ei,ej,o] at this; cases this
end Fl
namespace Fl
def Hd(w h:Int)(bs:List AE):Prop:=∀x y,0<=x->x<w->0<=y->y<h->∃b∈bs,Co x y b=true
structure Er(w h:Int)(bs:List AE):Prop where
 ok:∀b∈bs,FD b
 Be:∀b∈bs,Dx w h b
 nov:CZ bs
theorem CC.ZY{w h:Int}{bs:List AE}(t:CC w h bs):Er w h bs:=⟨t.ok,t.Be,t.Lh⟩
theorem Er.sub{w h:Int}{bs cs:List AE}(c:Er w h bs)(s:cs.Sublist bs):Er w h cs:=⟨λb hb=>c.ok b (s.subset hb),λb hb=>c.Be b (s.subset hb),List.Pairwise.sublist s c.nov⟩
theorem Qb{xs:List Int}(h:xs.Pairwise (· < ·)){lo hi x:Int}(h0:lo∈xs)(h1:hi∈xs)(a:lo<=x)(b:x<hi):∃j,j+1<xs.length/\xs.getD j 0<=x/\x<xs.getD (j+1) 0:=by
 have g:∀k (hk:k<xs.length),xs.getD k 0=xs[k]:=λk hk=>by rw[List.getD_eq_getElem?_getD,List.getElem?_eq_getElem hk]; rfl
 have il:xs.findIdx (λv=>decide (x<v))<xs.length:=List.findIdx_lt_length_of_exists ⟨hi,h1,decide_eq_true b⟩;have ip:x<xs[xs.findIdx (λv=>decide (x<v))]:=by simpa using List.findIdx_getElem (w:=il)
 have im:∀m (hm:m<xs.findIdx (λv=>decide (x<v))),xs[m]'(by omega)<=x:=λm hm=>by
  have:=List.not_of_lt_findIdx hm
  simpa using this
 obtain⟨i,il,ip,im⟩:∃i,∃il:i<xs.length,x<xs[i]/\∀m (hm:m<i),xs[m]'(by omega)<=x:=⟨_,il,ip,im⟩;have i0:i≠0:=λz=>by
  subst z;obtain⟨m,hm,rfl⟩:=List.getElem_of_mem h0;rcases Nat.eq_zero_or_pos m with y | y
  ·subst y; omega
  ·have:=List.pairwise_iff_getElem.mp h 0 m il hm y; omega
 refine⟨i-1,by omega,?_,?_⟩
 ·rw[g (i-1) (by omega)]; exact im (i-1) (by omega)
 ·rw[g (i-1+1) (by omega)]
  have:i-1+1=i:=by omega
  simp only[this]; exact ip
theorem Er.Gr{w h:Int}{bs:List AE}(t:Er w h bs)(hw:0<w)(hh:0<h){xs ys:List Int}(bx:Bd w (E5 bs) xs)(by':Bd h (E1 bs) ys):DN bs xs ys=none↔Hd w h bs:=by
 constructor
 ·intro e x y x0 x1 y0 y1;obtain⟨j,jl,j1,j2⟩:=Qb bx.up ((bx.mem 0).mpr (.inl rfl)) ((bx.mem w).mpr (.inr (.inl rfl))) x0 x1;obtain⟨k,kl,k1,k2⟩:=Qb by'.up ((by'.mem 0).mpr (.inl rfl)) ((by'.mem h).mpr (.inr (.inl rfl))) y0 y1
  unfold DN at e;rw[List.findSome?_eq_none_iff] at e;have e1:=e k (List.mem_range.mpr (by omega));rw[Option.map_eq_none_iff] at e1;unfold DU at e1;rw[List.find?_eq_none] at e1;have e2:=e1 j (List.mem_range.mpr (by omega));have e3:Dv bs xs ys j k=true:=by simpa using e2
  obtain⟨b,hb,c⟩:=List.any_eq_true.mp e3;simp only[Bool.and_eq_true,decide_eq_true_eq] at c;have c1:b.1<=xs.getD j 0:=c.1.1;have c2:xs.getD (j+1) 0<=b.2.2.1:=c.1.2;have c3:b.2.1<=ys.getD k 0:=c.2.1;have c4:ys.getD (k+1) 0<=b.2.2.2:=c.2.2;exact⟨b,hb,Di.mpr ⟨by show b.1<=x; omega,by show x<b.2.2.1; omega,by show b.2.1<=y; omega,by show y<b.2.2.2; omega⟩⟩
 ·intro f;unfold DN;rw[List.findSome?_eq_none_iff];intro k hk;rw[Option.map_eq_none_iff];unfold DU;rw[List.find?_eq_none];intro j hj;have hk:=List.mem_range.mp hk;have hj:=List.mem_range.mp hj;obtain⟨x1,x2,x3⟩:=Rx bx.up (j:=j) (by omega);obtain⟨y1,y2,y3⟩:=Rx by'.up (j:=k) (by omega)
  have rx:∀v∈xs,0<=v/\v<=w:=λv hv=>by
   rcases(bx.mem v).mp hv with z | z | z
   ·omega
   ·omega
   ·rcases List.mem_append.mp z with z | z
    ·obtain⟨b,hb,rfl⟩:=List.mem_map.mp z
     have:=t.Be b hb; have:=t.ok b hb; unfold Dx FD at *; dsimp only[AE.l,AE.d,AE.r,AE.u] at *; omega
    ·obtain⟨b,hb,rfl⟩:=List.mem_map.mp z
     have:=t.Be b hb; have:=t.ok b hb; unfold Dx FD at *; dsimp only[AE.l,AE.d,AE.r,AE.u] at *; omega
  have ry:∀v∈ys,0<=v/\v<=h:=λv hv=>by
   rcases(by'.mem v).mp hv with z | z | z
   ·omega
   ·omega
   ·rcases List.mem_append.mp z with z | z
    ·obtain⟨b,hb,rfl⟩:=List.mem_map.mp z
     have:=t.Be b hb; have:=t.ok b hb; unfold Dx FD at *; dsimp only[AE.l,AE.d,AE.r,AE.u] at *; omega
    ·obtain⟨b,hb,rfl⟩:=List.mem_map.mp z
     have:=t.Be b hb; have:=t.ok b hb; unfold Dx FD at *; dsimp only[AE.l,AE.d,AE.r,AE.u] at *; omega
  obtain⟨b,hb,hit⟩:=f (xs.getD j 0) (ys.getD k 0) (rx _ x2).1 (by have:=(rx _ x3).2; omega) (ry _ y2).1 (by have:=(ry _ y3).2; omega);rw[Di] at hit;have n1:=QE bx.up (j:=j) (by omega) ((bx.mem _).mpr (.inr (.inr (List.mem_append_right _ (List.mem_map.mpr ⟨b,hb,rfl⟩))))) hit.2.1;have n2:=QE by'.up (j:=k) (by omega) ((by'.mem _).mpr (.inr (.inr (List.mem_append_right _ (List.mem_map.mpr ⟨b,hb,rfl⟩))))) hit.2.2.2
  have:Dv bs xs ys j k=true:=List.any_eq_true.mpr ⟨b,hb,by
   simp only[Bool.and_eq_true,decide_eq_true_eq];exact⟨⟨hit.1,n1⟩,hit.2.2.1,n2⟩⟩
  simp[this]
theorem Ys{b:AE}{x f y u:Int}(h1:b.l<x)(h2:x<f)(h3:f<b.r)(h4:b.d<y)(h5:y<u)(h6:u<b.u):
  ES b [(x,b.d,b.r,y),(f,y,b.r,b.u),(b.l,u,f,b.u),(b.l,b.d,x,u),(x,y,f,u)]:=by
 refine⟨λp hp=>?_,λp hp=>?_,λs t=>?_⟩
 ·simp only[List.mem_cons,List.not_mem_nil,or_false] at hp;rcases hp with rfl | rfl | rfl | rfl | rfl <;> exact⟨by dsimp only[AE.l,AE.d,AE.r,AE.u] at *; omega,by dsimp only[AE.l,AE.d,AE.r,AE.u] at *; omega⟩
 ·simp only[List.mem_cons,List.not_mem_nil,or_false] at hp;rcases hp with rfl | rfl | rfl | rfl | rfl <;> exact⟨by dsimp only[AE.l,AE.d,AE.r,AE.u] at *; omega,by dsimp only[AE.l,AE.d,AE.r,AE.u] at *; omega,by dsimp only[AE.l,AE.d,AE.r,AE.u] at *; omega,by dsimp only[AE.l,AE.d,AE.r,AE.u] at *; omega⟩
 ·rw[DF,DF,DF,DF,DF,JG];simp only[Di,AE.l,AE.d,AE.r,AE.u] at *;by_cases c1:s<b.1 <;> by_cases c2:s<x <;> by_cases c3:s<f <;> by_cases c4:s<b.2.2.1 <;> by_cases d1:t<b.2.1 <;> by_cases d2:t<y <;> by_cases d3:t<u <;> by_cases d4:t<b.2.2.2 <;> (try omega) <;> (repeat (first | rw[if_pos (by omega)] | rw[if_neg (by omega)]))
theorem Ud{b:AE}(h1:b.l<b.r)(h2:b.d<b.u):ES b [b]:=by
 refine⟨λp hp=>?_,λp hp=>?_,λs t=>?_⟩
 ·rw[List.mem_singleton.mp hp]; exact⟨h1,h2⟩
 ·rw[List.mem_singleton.mp hp]; exact⟨Int.le_refl _,Int.le_refl _,Int.le_refl _,Int.le_refl _⟩
 ·rw[DF,JG]; omega
section
variable {w h k:Int} {bs A B:List AE} {b:AE}
theorem CC.av(t:CC w h (A++b :: B)){x y:Int}(hb:Co x y b=true){cs:List AE}(hc:∀c∈cs,Co x y c=false):¬Hd w h (A++cs++B):=by
 intro f;have ib:=t.Be b (by simp);have hb':=Di.mp hb;have hx:=Qh ib hb;have one:=t.one x y hx.1 hx.2.1 hx.2.2.1 hx.2.2.2;rw[List.countP_append,DF,if_pos hb] at one;obtain⟨c,hc1,hc2⟩:=f x y hx.1 hx.2.1 hx.2.2.1 hx.2.2.2;have pos:∀{l:List AE},c∈l->0<l.countP (Co x y):=λhl=>List.countP_pos_iff.mpr ⟨c,hl,hc2⟩
 rcases List.mem_append.mp hc1 with z | z
 ·rcases List.mem_append.mp z with z | z
  ·have:=pos z; omega
  ·rw[hc c z] at hc2; cases hc2
 ·have:=pos z; omega
theorem Mj(h1:b.l<b.r)(h2:b.d<b.u):Co b.l b.d b=true:=Di.mpr ⟨Int.le_refl _,h1,Int.le_refl _,h2⟩
theorem CC.out(t:CC w h (A++b :: B))(h1:b.l<b.r)(h2:b.d<b.u):¬Hd w h (A++B):=by
 have:=t.av (Mj h1 h2) (cs:=[]) (λc hc=>by cases hc)
 rwa [List.append_nil] at this
structure S6(R:AE)(S:AE->Prop):Prop where
 tru:∀b,S b->b.l<b.r/\b.d<b.u
 Be:∀b,S b->R.l<=b.l/\R.d<=b.d/\b.r<=R.r/\b.u<=R.u
 Du:∀a b,S a->S b->a.l<b.r->b.l<a.r->a.d<b.u->b.d<a.u->a=b
 Gr:∀x y,R.l<=x->x<R.r->R.d<=y->y<R.u->∃b,S b/\b.l<=x/\x<b.r/\b.d<=y/\y<b.u
theorem X4{a b:AE}(h1:a.l=b.l)(h2:a.d=b.d)(h3:a.r=b.r)(h4:a.u=b.u):a=b:=by
 obtain⟨a1,a2,a3,a4⟩:=a;obtain⟨b1,b2,b3,b4⟩:=b;dsimp only[AE.l,AE.d,AE.r,AE.u] at *;rw[h1,h2,h3,h4]
def tp(b:AE):AE:=(b.d,b.l,b.u,b.r)
def Ni(S:AE->Prop):Prop:=∀e a b f,S e->S a->S b->S f->¬(a.r=e.r/\a.d=e.u/\b.l=e.r/\b.d=e.u/\f.l=e.r/\f.u=e.u)
inductive GP:AE->(AE->Prop)->Prop
 | one {R:AE} {S:AE->Prop}:(∀b,S b↔b=R)->GP R S
 | aO {R:AE} {S:AE->Prop} (x:Int):R.l<x->x<R.r->(∀b,S b->b.r<=x\/x<=b.l)->GP (R.l,R.d,x,R.u) (λb=>S b/\b.r<=x)->GP (x,R.d,R.r,R.u) (λb=>S b/\x<=b.l)->GP R S
 | a6 {R:AE} {S:AE->Prop} (y:Int):R.d<y->y<R.u->(∀b,S b->b.u<=y\/y<=b.d)->GP (R.l,R.d,R.r,y) (λb=>S b/\b.u<=y)->GP (R.l,y,R.r,R.u) (λb=>S b/\y<=b.d)->GP R S
theorem Ni.sub{S T:AE->Prop}(g:Ni S)(h:∀b,T b->S b):Ni T:=λe a b f he ha hb hf=>g e a b f (h e he) (h a ha) (h b hb) (h f hf)
theorem GP.some{R:AE}{S:AE->Prop}(h:GP R S):(∀b,S b↔b=R)\/∃a b,S a/\S b/\((a.r=b.l/\a.d=b.d/\a.u=b.u)\/(a.u=b.d/\a.l=b.l/\a.r=b.r)):=by
 induction h with
 | one h=>exact .inl h
 | @aO R S x h1 h2 h3 s1 s2 i1 i2 =>
  rcases i1 with z1 | ⟨a,b,ha,hb,k⟩
  ·rcases i2 with z2 | ⟨a,b,ha,hb,k⟩
   ·exact .inr ⟨_,_,((z1 _).mpr rfl).1,((z2 _).mpr rfl).1,.inl ⟨rfl,rfl,rfl⟩⟩
   ·exact .inr ⟨a,b,ha.1,hb.1,k⟩
  ·exact .inr ⟨a,b,ha.1,hb.1,k⟩
 | @a6 R S y h1 h2 h3 s1 s2 i1 i2 =>
  rcases i1 with z1 | ⟨a,b,ha,hb,k⟩
  ·rcases i2 with z2 | ⟨a,b,ha,hb,k⟩
   ·exact .inr ⟨_,_,((z1 _).mpr rfl).1,((z2 _).mpr rfl).1,.inr ⟨rfl,rfl,rfl⟩⟩
   ·exact .inr ⟨a,b,ha.1,hb.1,k⟩
  ·exact .inr ⟨a,b,ha.1,hb.1,k⟩
theorem Wv{α:Type}[DecidableEq α]{l m:List α}(h1:l.Nodup)(h2:∀r∈l,r∈m)(h3:m.length<=l.length):∀r∈m,r∈l:=by
 have key:∀(l m:List α),l.Nodup->(∀r∈l,r∈m)->∃k,m.Perm (l++k):=by
  intro l
  induction l with
  | nil=>exact λm _ _=>⟨m,.refl _⟩
  | cons x l ih =>
   intro m h1 h2;obtain⟨n1,n2⟩:=List.nodup_cons.mp h1;obtain⟨k,p⟩:=ih (m.erase x) n2 λr hr=>by
    have ne:r≠x:=λz=>n1 (z ▸ hr)
    exact(List.mem_erase_of_ne ne).mpr (h2 r (List.mem_cons_of_mem _ hr))
   exact⟨k,(List.perm_cons_erase (h2 x List.mem_cons_self)).trans (p.cons x)⟩
 obtain⟨k,p⟩:=key l m h1 h2
 have:=p.length_eq
 rw[List.length_append] at this;obtain rfl:k=[]:=List.eq_nil_of_length_eq_zero (by omega);rw[List.append_nil] at p;exact λr hr=>p.mem_iff.mp hr
theorem S6.four{R:AE}{bs:List AE}(t:S6 R (·∈bs))(hR:R.l<R.r/\R.d<R.u)(n:bs.length<=4):
  (∀b,b∈bs↔b=R)\/(∃x,R.l<x/\x<R.r/\∀b∈bs,b.r<=x\/x<=b.l)\/(∃y,R.d<y/\y<R.u/\∀b∈bs,b.u<=y\/y<=b.d):=by
 obtain⟨A,hA,a1,a2,a3,a4⟩:=t.Gr R.l R.d (by omega) (by omega) (by omega) (by omega);obtain⟨B,hB,b1,b2,b3,b4⟩:=t.Gr (R.r-1) R.d (by omega) (by omega) (by omega) (by omega);obtain⟨C,hC,c1,c2,c3,c4⟩:=t.Gr (R.r-1) (R.u-1) (by omega) (by omega) (by omega) (by omega);obtain⟨D,hD,d1,d2,d3,d4⟩:=t.Gr R.l (R.u-1) (by omega) (by omega) (by omega) (by omega);have iA:=t.Be A hA;have iB:=t.Be B hB;have iC:=t.Be C hC;have iD:=t.Be D hD;have all:∀X,X∈bs->X.l=R.l->X.r=R.r->X.d=R.d->X.u=R.u->(∀b,b∈bs↔b=R):=λX hX e1 e2 e3 e4 b=>by
  have eX:X=R:=X4 e1 e3 e2 e4;subst eX;refine⟨λhb=>?_,λz=>by rw[z]; exact hX⟩
  have:=t.tru b hb
  have:=t.Be b hb
  exact t.Du b X hb hX (by omega) (by omega) (by omega) (by omega)
 have tall:∀X,X∈bs->X.d=R.d->X.u=R.u->(∀b∈bs,b.r<=X.r\/X.r<=b.l)/\(∀b∈bs,b.r<=X.l\/X.l<=b.l):=λX hX e1 e2=>by
  have tX:=t.tru X hX;refine⟨λb hb=>?_,λb hb=>?_⟩
  ·have:=t.tru b hb
   have:=t.Be b hb
   by_cases z:b.r<=X.r\/X.r<=b.l
   ·exact z
   ·have:=t.Du b X hb hX (by omega) (by omega) (by omega) (by omega)
    subst this; omega
  ·have:=t.tru b hb
   have:=t.Be b hb
   by_cases z:b.r<=X.l\/X.l<=b.l
   ·exact z
   ·have:=t.Du b X hb hX (by omega) (by omega) (by omega) (by omega)
    subst this; omega
 have flat:∀X,X∈bs->X.l=R.l->X.r=R.r->(∀b∈bs,b.u<=X.u\/X.u<=b.d)/\(∀b∈bs,b.u<=X.d\/X.d<=b.d):=λX hX e1 e2=>by
  have tX:=t.tru X hX;refine⟨λb hb=>?_,λb hb=>?_⟩
  ·have:=t.tru b hb
   have:=t.Be b hb
   by_cases z:b.u<=X.u\/X.u<=b.d
   ·exact z
   ·have:=t.Du b X hb hX (by omega) (by omega) (by omega) (by omega)
    subst this; omega
  ·have:=t.tru b hb
   have:=t.Be b hb
   by_cases z:b.u<=X.d\/X.d<=b.d
   ·exact z
   ·have:=t.Du b X hb hX (by omega) (by omega) (by omega) (by omega)
    subst this; omega
 by_cases AB:A=B
 ·subst AB;by_cases z:A.u=R.u
  ·exact .inl (all A hA (by omega) (by omega) (by omega) z)
  ·exact .inr (.inr ⟨A.u,by omega,by omega,(flat A hA (by omega) (by omega)).1⟩)
 by_cases AD:A=D
 ·subst AD;by_cases z:A.r=R.r
  ·exact .inl (all A hA (by omega) (by omega) (by omega) (by omega))
  ·exact .inr (.inl ⟨A.r,by omega,by omega,(tall A hA (by omega) (by omega)).1⟩)
 by_cases BC:B=C
 ·subst BC;by_cases z:B.l=R.l
  ·exact .inl (all B hB (by omega) (by omega) (by omega) (by omega))
  ·exact .inr (.inl ⟨B.l,by omega,by omega,(tall B hB (by omega) (by omega)).2⟩)
 by_cases CD:C=D
 ·subst CD;by_cases z:C.d=R.d
  ·exact .inl (all C hC (by omega) (by omega) (by omega) (by omega))
  ·exact .inr (.inr ⟨C.d,by omega,by omega,(flat C hC (by omega) (by omega)).2⟩)
 by_cases AC:A=C
 ·subst AC;exact .inl (all A hA (by omega) (by omega) (by omega) (by omega))
 by_cases BD:B=D
 ·subst BD;exact .inl (all B hB (by omega) (by omega) (by omega) (by omega))
 have mem:=Wv (l:=[A,B,C,D]) (m:=bs) (by simp[AB,AC,AD,BC,BD,CD]) (λr hr=>by
  simp only[List.mem_cons,List.not_mem_nil,or_false] at hr;rcases hr with rfl | rfl | rfl | rfl <;> assumption) n
 have four:∀x y,R.l<=x->x<R.r->R.d<=y->y<R.u->(A.l<=x/\x<A.r/\A.d<=y/\y<A.u)\/(B.l<=x/\x<B.r/\B.d<=y/\y<B.u)\/(C.l<=x/\x<C.r/\C.d<=y/\y<C.u)\/(D.l<=x/\x<D.r/\D.d<=y/\y<D.u):=λx y h1 h2 h3 h4=>by
  obtain⟨b,hb,k⟩:=t.Gr x y h1 h2 h3 h4
  have:=mem b hb
  simp only[List.mem_cons,List.not_mem_nil,or_false] at this;rcases this with rfl | rfl | rfl | rfl
  ·exact .inl k
  ·exact .inr (.inl k)
  ·exact .inr (.inr (.inl k))
  ·exact .inr (.inr (.inr k))
 have nAB:¬(A.l<B.r/\B.l<A.r/\A.d<B.u/\B.d<A.u):=λ⟨z1,z2,z3,z4⟩=>AB (t.Du _ _ hA hB z1 z2 z3 z4)
 have nAC:¬(A.l<C.r/\C.l<A.r/\A.d<C.u/\C.d<A.u):=λ⟨z1,z2,z3,z4⟩=>AC (t.Du _ _ hA hC z1 z2 z3 z4)
 have nAD:¬(A.l<D.r/\D.l<A.r/\A.d<D.u/\D.d<A.u):=λ⟨z1,z2,z3,z4⟩=>AD (t.Du _ _ hA hD z1 z2 z3 z4)
 have nBC:¬(B.l<C.r/\C.l<B.r/\B.d<C.u/\C.d<B.u):=λ⟨z1,z2,z3,z4⟩=>BC (t.Du _ _ hB hC z1 z2 z3 z4)
 have nBD:¬(B.l<D.r/\D.l<B.r/\B.d<D.u/\D.d<B.u):=λ⟨z1,z2,z3,z4⟩=>BD (t.Du _ _ hB hD z1 z2 z3 z4)
 have nCD:¬(C.l<D.r/\D.l<C.r/\C.d<D.u/\D.d<C.u):=λ⟨z1,z2,z3,z4⟩=>CD (t.Du _ _ hC hD z1 z2 z3 z4)
 have tA:=t.tru A hA;have tB:=t.tru B hB;have tC:=t.tru C hC;have tD:=t.tru D hD;have eAB:B.l=A.r:=by
  have:=four A.r R.d (by omega) (by omega) (by omega) (by omega)
  omega
 have eDC:C.l=D.r:=by
  have:=four D.r (R.u-1) (by omega) (by omega) (by omega) (by omega)
  omega
 have eAD:D.d=A.u:=by
  have:=four R.l A.u (by omega) (by omega) (by omega) (by omega)
  omega
 have eBC:C.d=B.u:=by
  have:=four (R.r-1) B.u (by omega) (by omega) (by omega) (by omega)
  omega
 by_cases z1:A.r=D.r
 ·refine .inr (.inl ⟨A.r,by omega,by omega,λb hb=>?_⟩)
  have:=mem b hb
  simp only[List.mem_cons,List.not_mem_nil,or_false] at this;rcases this with rfl | rfl | rfl | rfl <;> omega
 by_cases z2:A.u=B.u
 ·refine .inr (.inr ⟨A.u,by omega,by omega,λb hb=>?_⟩)
  have:=mem b hb
  simp only[List.mem_cons,List.not_mem_nil,or_false] at this;rcases this with rfl | rfl | rfl | rfl <;> omega
 exfalso
 rcases Int.lt_or_gt_of_ne z1 with z1 | z1 <;> rcases Int.lt_or_gt_of_ne z2 with z2 | z2
 ·exact nBD (by omega)
 ·have:=four A.r B.u (by omega) (by omega) (by omega) (by omega)
  omega
 ·have:=four D.r A.u (by omega) (by omega) (by omega) (by omega)
  omega
 ·exact nAC (by omega)
def Bu(a b:AE):AE:=(min a.l b.l,min a.d b.d,max a.r b.r,max a.u b.u)
def Sy(a b:AE):Prop:=(a.r=b.l/\a.d=b.d/\a.u=b.u)\/(a.u=b.d/\a.l=b.l/\a.r=b.r)
theorem Sy.RX{a b:AE}(h:Sy a b)(ta:a.l<a.r/\a.d<a.u)(tb:b.l<b.r/\b.d<b.u):ES (Bu a b) [a,b]:=by
 obtain⟨a1,a2,a3,a4⟩:=a;obtain⟨b1,b2,b3,b4⟩:=b;dsimp only[AE.l,AE.d,AE.r,AE.u] at ta tb;unfold Bu;rcases h with ⟨h1,h2,h3⟩ | ⟨h1,h2,h3⟩ <;> dsimp only[AE.l,AE.d,AE.r,AE.u] at h1 h2 h3 ⊢ <;> subst h1 <;> subst h2 <;> subst h3
 ·rw[Int.min_eq_left (by omega),Int.min_eq_left (by omega),Int.max_eq_right (by omega),Int.max_eq_left (by omega)];exact LQ (b:=(a1,a2,b3,a4)) (x:=a3) ta.1 tb.1 ta.2
 ·rw[Int.min_eq_left (by omega),Int.min_eq_left (by omega),Int.max_eq_left (by omega),Int.max_eq_right (by omega)];exact LW (b:=(a1,a2,a3,b4)) (y:=a4) ta.2 tb.2 ta.1
structure J7(w h:Int)(bs:List AE):Prop where
 Fw:CC w h bs
 tru:∀b∈bs,b.l<b.r/\b.d<b.u
theorem J7.Gm{w h:Int}{bs cs:List AE}(t:J7 w h bs)(p:cs.Perm bs):J7 w h cs:=⟨t.Fw.Gm p,λb hb=>t.tru b (p.mem_iff.mp hb)⟩
theorem J7.nd{w h:Int}{bs:List AE}(t:J7 w h bs):bs.Nodup:=by
 refine List.Pairwise.imp_of_mem (λ{a b} ha hb k e=>?_) t.Fw.Lh;subst e
 have:=t.tru a ha
 rw[HP.mpr ⟨by omega,by omega,by omega,by omega,by omega,by omega,by omega,by omega⟩] at k;cases k
def DS{α:Type}(f:α->α->α)(d:α)(l:List α)(j k:Nat):List α:=(l.set j (f (l.getD j d) (l.getD k d))).eraseIdx k
theorem Wc{α:Type}{f:α->α->α}{d:α}{l:List α}{j k:Nat}(jk:j<k)(hk:k<l.length):∃A B C a b,l=A++a :: (B++b :: C)/\l.getD j d=a/\l.getD k d=b/\DS f d l j k=A++f a b :: (B++C):=by
 refine⟨l.take j,(l.drop (j+1)).take (k-(j+1)),l.drop (k+1),l[j],l[k],?_,?_,?_,?_⟩
 ·have e1:l=l.take j++l.drop j:=(List.take_append_drop ..).symm;have e2:l.drop j=l[j] :: l.drop (j+1):=List.drop_eq_getElem_cons (by omega);have e3:l.drop (j+1)=(l.drop (j+1)).take (k-(j+1))++(l.drop (j+1)).drop (k-(j+1)):=(List.take_append_drop ..).symm;have e4:(l.drop (j+1)).drop (k-(j+1))=l[k] :: l.drop (k+1):=by
   rw[List.drop_drop,show j+1+(k-(j+1))=k by omega];exact List.drop_eq_getElem_cons hk
  rw[<-e4,<-e3,<-e2,<-e1]
 ·simp[show j<l.length by omega]
 ·simp[hk]
 ·unfold DS;have e:l.getD j d=l[j]:=by simp[show j<l.length by omega]
  have e':l.getD k d=l[k]:=by simp[hk]
  rw[e,e',List.eraseIdx_eq_take_drop_succ,List.set_eq_take_append_cons_drop,if_pos (by omega)];rw[List.take_append,List.drop_append];simp only[List.length_take,Nat.min_eq_left (show j<=l.length by omega)];rw[List.take_of_length_le (l:=l.take j) (i:=k) (by rw[List.length_take]; omega),List.drop_of_length_le (l:=l.take j) (i:=k+1) (by rw[List.length_take]; omega),List.nil_append];rw[show k-j=(k-(j+1))+1 by omega,List.take_succ_cons,show k+1-j=(k+1-(j+1))+1 by omega,List.drop_succ_cons,List.drop_drop,show j+1+(k+1-(j+1))=k+1 by omega];simp
theorem Mw{α:Type}{f:α->α->α}{d:α}{l:List α}{j k:Nat}(jk:j<k)(hk:k<l.length):(DS f d l j k).length+1=l.length:=by
 obtain⟨A,B,C,a,b,e1,_,_,e2⟩:=Wc (f:=f) (d:=d) jk hk;rw[e2,e1]; simp; omega
end
end Fl
namespace My
open PySem L2 Mth
theorem Ae{H:Hp}{p:Addr}(h:H p=none)(o:HO):AQ H (AK H p o):=λb u q=>by rw[An (A5 q h)]; exact q
def Bl(x:Addr)(H H':Hp):Prop:=∀b o,b≠x->H b=some o->H' b=some o
theorem Bl.refl(x:Addr)(H:Hp):Bl x H H:=λ_ _ _ h=>h
theorem Bl.put{x:Addr}{H H':Hp}(h:Bl x H H')(o:HO):Bl x H (AK H' x o):=λb u n q=>by rw[An n]; exact h b u n q
theorem Bl.trans{x:Addr}{H H1 H2:Hp}(a:Bl x H H1)(b:Bl x H1 H2):Bl x H H2:=λc o n h=>b c o n (a c o n h)
theorem _root_.L2.AQ.b{x:Addr}{H H':Hp}(h:AQ H H'):Bl x H H':=λb o _ q=>h b o q
theorem Bl.Jh{x:Addr}{H0 H H':Hp}(h:Bl x H H')(s:AQ H0 H)(n:H0 x=none):AQ H0 H':=λb o q=>h b o (A5 q n) (s b o q)
theorem Bl.one{x:Addr}{H:Hp}{o:HO}:Bl x H (AK H x o):=(Bl.refl x H).put o
theorem _root_.L2.AQ.up{x:Addr}{H0 H:Hp}(s:AQ H0 H)(n:H0 x=none)(o:HO):AQ H0 (AK H x o):=Bl.one.Jh s n
theorem CV{c A B:Prop}[Decidable c](hc:¬c)(h:A):if (!decide c)=true then A else B:=by
 rw[decide_eq_false hc];exact CL h
theorem BQ{c A B:Prop}[Decidable c](hc:c)(h:A):if decide c=true then A else B:=by
 rw[decide_eq_true hc];exact CL h
theorem BU{c A B:Prop}[Decidable c](hc:¬c)(h:B):if decide c=true then A else B:=by
 rw[decide_eq_false hc];exact Bh h
theorem iv{a b:Int}(h:a=b):V.int a=V.int b:=by rw[h]
theorem GJ{a b:Int}(h:a≠b):¬V.int a=V.int b:=λz=>h (V.int.inj z)
theorem bC{n:Nat}(h:n<=100000):n<sizeLine:=by rw[sizeLine_eq]; omega
def OB(H:Hp)(a:Addr)(bs:List Addr)(ts:List (List Int)):Prop :=
 H a=some (.AH (bs.map V.ref))/\bs.length=ts.length/\∀(i:Nat) (b:Addr) (row:List Int),bs[i]?=some b->ts[i]?=some row->H b=some (.AH (row.map V.int))
theorem OB.keep{H H':Hp}{a:Addr}{bs:List Addr}{ts:List (List Int)}(h:OB H a bs ts)(s:AQ H H'):OB H' a bs ts :=
 ⟨s _ _ h.1,h.2.1,λi b row e1 e2=>s _ _ (h.2.2 i b row e1 e2)⟩
theorem int_at{row:List Int}{i:Nat}{x:V}(h:(row.map V.int)[i]?=some x):∃e,x=.int e/\row[i]?=some e:=by
 rw[List.getElem?_map] at h;cases q:row[i]? with
 | none=>rw[q] at h; cases h
 | some e =>
  rw[q] at h;exact⟨e,(Option.some.inj h).symm,rfl⟩
theorem EY(x y z:V):BN [x,y,z] 0=some x:=Al (j:=0) rfl
theorem E3(x y z:V):BN [x,y,z] 1=some y:=Al (j:=1) rfl
theorem B5(x y z:V):BN [x,y,z] 2=some z:=Al (j:=2) rfl
theorem C8{x y:V}:BN [x,y] 0=some x:=Al (j:=0) rfl
theorem Cf{x y:V}:BN [x,y] 1=some y:=Al (j:=1) rfl
theorem Iz(xs:List V){j:Nat}(h:j<=xs.length):Bv xs none (some (j:Int))=xs.take j:=by
 unfold Bv;have e1:HT.Ao xs.length 0 none=0:=rfl;have e2:HT.Ao xs.length xs.length (some (j:Int))=j:=by simp[HT.Ao]; rw[if_neg (by omega)]; omega
 rw[e1,e2]; simp
theorem Ir(xs:List V){j:Nat}(h:j<=xs.length):Bv xs (some (j:Int)) none=xs.drop j:=by
 unfold Bv;have e1:HT.Ao xs.length 0 (some (j:Int))=j:=by simp[HT.Ao]; rw[if_neg (by omega)]; omega
 have e2:HT.Ao xs.length xs.length none=xs.length:=rfl;rw[e1,e2,List.take_of_length_le]; simp
theorem DO{n:Nat}(h:n<=100000):n<=sizeLine:=Nat.le_of_lt (bC h)
def LN(H:Hp)(b:Addr)(ns:List Int):Prop:=H b=some (.AH (ns.map V.int))
theorem LN.del{H:Hp}{a b:Addr}{t:List Int}{ys:List V}(h:LN H b t)(e:H a=some (.AN ys)):LN (del H a) b t:=Fp h λz=>by rw[z] at h; unfold LN at h; rw[e] at h; cases h
theorem Pl{n j:Nat}(h:j<n):Fc n ((j:Nat):Int)=some j:=by unfold Fc; rw[if_pos (by omega),if_pos (by omega)]; simp
theorem W6{i:Nat}{v:V}{σ:L2.St}{H:Hp}{k:L2.St->Hp->Prop}(h:k (σ.set i (some v)) H):CW i v σ H k:=h
theorem nx_go{D:C5}{f:L2.St->Hp->Prop}{σ:L2.St}{H:Hp}(h:f σ H):({ D with nx:=f }:C5).nx σ H:=h
theorem Pq{t u:L2.TS}{D:C5}{σ:L2.St}{H:Hp}{G:L2.St->Hp->Prop}(m:(∀σ H,G σ H->u D σ H)->t { D with nx:=u D } σ H)(r:∀σ H,G σ H->u D σ H):Jn t u D σ H:=m r
theorem Yu{i:Int}{n:Nat}(h:i.natAbs<2 ^ n)(hn:n<=8000):B3 i:=Nat.lt_of_lt_of_le h (Nat.pow_le_pow_right (by decide) hn)
abbrev Lv(K:PySem.W.Frag)(H:Hp)(a:Addr)(ns:List Int):Prop:=AS K H a (ns.map V.int)/\ns.length<=63
end My
namespace My
open PySem
def Aq(i:Nat):Stmt:=PySem.Challenge.pw_currentfloor_k41_steps_done_and_back.main.body.getD i (.Pass ⟨0,0,0,0⟩)
abbrev sCommon:Stmt:=Aq 6
abbrev sFraction:Stmt:=Aq 7
abbrev sLess:Stmt:=Aq 8
abbrev sCBot:Stmt:=Aq 9
abbrev sWholes:Stmt:=Aq 10
abbrev s_rising:Stmt:=Aq 12
abbrev s_numbers_of:Stmt:=Aq 13
abbrev s_whole_floor:Stmt:=Aq 14
abbrev s_is_neither:Stmt:=Aq 16
abbrev s_is_out:Stmt:=Aq 17
abbrev s_overlap:Stmt:=Aq 18
abbrev s_first_overlap:Stmt:=Aq 19
abbrev s_borders:Stmt:=Aq 20
abbrev s_covered_cells:Stmt:=Aq 21
abbrev s_first_gap:Stmt:=Aq 22
abbrev s_looked_whole:Stmt:=Aq 23
abbrev s_looked:Stmt:=Aq 24
abbrev s_covers:Stmt:=Aq 25
abbrev s_is_pair:Stmt:=Aq 27
abbrev s_touches:Stmt:=Aq 28
abbrev s_common_level:Stmt:=Aq 29
abbrev s_is_above:Stmt:=Aq 30
abbrev s_is_beside:Stmt:=Aq 31
abbrev s_together:Stmt:=Aq 32
abbrev s_check_fits:Stmt:=Aq 33
abbrev s_joined:Stmt:=Aq 34
abbrev s_parting:Stmt:=Aq 35
abbrev sInit:Stmt:=L2.DA (Aq 36) 0
abbrev sToldA:Stmt:=L2.DA (Aq 37) 0
abbrev sFitsA:Stmt:=L2.DA (Aq 37) 1
abbrev sDoneA:Stmt:=L2.DA (Aq 37) 2
abbrev sBackA:Stmt:=L2.DA (Aq 37) 3
abbrev sToldB:Stmt:=L2.DA (Aq 38) 0
abbrev sFitsB:Stmt:=L2.DA (Aq 38) 1
abbrev sDoneB:Stmt:=L2.DA (Aq 38) 2
abbrev sBackB:Stmt:=L2.DA (Aq 38) 3
abbrev sInitS:Stmt:=L2.DA (Aq 39) 0
abbrev sToldS:Stmt:=L2.DA (Aq 39) 1
abbrev sMadeS:Stmt:=L2.DA (Aq 39) 2
abbrev sJoiningS:Stmt:=L2.DA (Aq 39) 3
abbrev sFitsS:Stmt:=L2.DA (Aq 39) 4
abbrev sDoneS:Stmt:=L2.DA (Aq 39) 5
abbrev sBackS:Stmt:=L2.DA (Aq 39) 6
abbrev s_step_of:Stmt:=Aq 40
abbrev s_walked:Stmt:=Aq 42
abbrev sCellAt:Stmt:=Aq 44
abbrev s_law_lowest:Stmt:=Aq 45
abbrev s_law_wheel:Stmt:=Aq 46
abbrev s_law_two:Stmt:=Aq 47
abbrev s_law_broken:Stmt:=Aq 48
abbrev s_law_built:Stmt:=Aq 49
abbrev s_law_scaled_one:Stmt:=Aq 50
abbrev s_law_scaled:Stmt:=Aq 51
abbrev s_law_floor_of:Stmt:=Aq 52
abbrev s_law_side:Stmt:=Aq 53
abbrev s_law_scale_by:Stmt:=Aq 54
abbrev s_law_above:Stmt:=Aq 55
abbrev s_law_beside:Stmt:=Aq 56
abbrev s_law_fitting:Stmt:=Aq 57
abbrev s_law_done:Stmt:=Aq 58
abbrev s_law_made:Stmt:=Aq 59
abbrev s_law_kind:Stmt:=Aq 60
abbrev s_law_way:Stmt:=Aq 61
abbrev s_law_joined:Stmt:=Aq 62
abbrev s_law_refused:Stmt:=Aq 63
abbrev s_law_cut:Stmt:=Aq 64
abbrev s_law_parted:Stmt:=Aq 65
abbrev sLaw:Stmt:=Aq 66
open L2 Mth
section
variable {P:Program} {w:World} {K:PySem.W.Frag} {mg:Str->Option Value} {base:Heap}
inductive Qp(vs:List V)(H:Hp)(Q:VK):Prop
 | mk (a b:Int) (h_0:vs=[.int a,.int b]) (h_1:Q (.int (Int.gcd a b:Int)) H):Qp vs H Q
def LR:Sp:=λvs H Q _=>Qp vs H Q
theorem QG{x:Int}{n:Nat}(h:Int.gcd x 0=n):(if x<0 then -x else x)=(n:Int):=by
 rw[<-h,Int.gcd_zero_right];split <;> omega
theorem Lg:Ak ["one","other","rest"] ["one","other"] (Af sCommon):=Ap
theorem Us{f:Addr}{fd:FuncData}(F:Ag K "common_part" "common_part" sCommon f fd)(ma:mg "abs" = none):AG P w K mg base AM 1 f fd ["one","other"] LR:=by
 refine F.ok Lg (λvs H Q E h=>?_) (λcdv A outer s H vs Q E hr h=>?_)
 ·obtain⟨a,b,rfl,_⟩:=h;rfl
 obtain⟨a,b,rfl,q⟩:=h;refine⟨_,AR (Py PassesOwn.never (Aw ER (pv 1) AF (Ai _))
   (AR (Ab (i:=2) Lg.nd rfl (Or.inl rfl) (AW Xk (pv 0) (pv 1)))
   (AR (Ab (i:=0) Lg.nd rfl (Or.inl rfl) (pv 1))
   (AU (Ab (i:=1) Lg.nd rfl (Or.inl rfl) (pv 2))))))
  (AU (AY (BJ P6 (by rfl) ma PyProof.Rows.boot_abs (AA (pv 0) AI)))),?_⟩
 refine Pk (λσ H2=>∃x y r,σ=[some (.int x),some (.int y),r]/\H2=H/\Int.gcd x y=Int.gcd a b) (λσ _=>match σ with | [_,some (.int y),_]=>y.natAbs | _=>0) ⟨a,b,none,rfl,rfl,rfl⟩ ?_ ?_
 ·rintro σ H2 ⟨x,y,r,rfl,rfl,g⟩;refine⟨_,rfl,rfl,_,rfl,?_⟩;by_cases hy:y=0
  ·refine CJ (iv hy) ?_;subst hy;refine⟨_,rfl,x,rfl,?_⟩;rw[QG g];exact q
  ·refine CV (GJ hy) ?_;exact⟨_,rfl,_,rfl,_,_,rfl,rfl,hy,_,rfl,_,rfl,⟨y,x.fmod y,some (.int (x.fmod y)),rfl,rfl,(Pp x y).trans g⟩,Xr x y hy⟩
 ·rintro σ H2 Q1 Q2 hq ⟨v,e,sc,b,eb,z⟩;exact⟨v,e,sc,b,eb,hq _ _ z⟩
theorem Po{X:Cx}{st:Stmt}:PS X st (λ_ _ _=>False):=by
 intro pins s σ H D I h;exact False.elim h
inductive Qc(C:Addr)(vs:List V)(H:Hp)(Q:VK)(E:XK):Prop
 | mk (t b:Int) (h_0:vs=[.int t,.int b]) (h_1:B3 b) (h_2:(b=0->False)) (h_3:(b≠0->∀p,H p=none->Q (.ref p) (AK H p (.AH [.int (BB t b).1,.int (BB t b).2])))):Qc C vs H Q E
def LJ(C:Addr):Sp:=λvs H Q E=>Qc C vs H Q E
theorem OG:Ak ["top","bottom","part"] ["top","bottom"] (Af sFraction):=Ap
theorem Th{f g C:Addr}{fd gd:FuncData}(F:Ag K "fraction" "fraction" sFraction f fd)(G:AG P w K mg base AM 1 g gd ["one","other"] LR)(bG:AV K gd ["one","other"] [])(kG:KP K g)(mG:mg "common_part" = some (.ref g)):AG P w K mg base AM 2 f fd ["top","bottom"] (LJ C):=by
 refine F.ok OG (λvs H Q E h=>?_) (λcdv A outer s H vs Q E hr h=>?_)
 ·obtain⟨a,b,rfl,_⟩:=h;rfl
 obtain⟨t,b,rfl,hb,h0,h1⟩:=h;refine⟨_,AR (A3 (Aw CQ (pv 1) AF (Ai _)) (AU Po) A6)
  (AR (Ab (i:=2) OG.nd rfl (Or.inl rfl) (Ad (CX:=AM) G hr (by rfl) mG kG bG .nil (AZ (X:=_)) (AA (pv 0) (AA (pv 1) AI))))
  (AR (A3 (Aw D7 (pv 1) AF (Ai _)) (AU (Ab (i:=2) OG.nd rfl (Or.inl rfl) (NF Mr (pv 2)))) A6)
  (AU (AY (A0 (AA (AW Hn (pv 0) (pv 2)) (AA (AW Hn (pv 1) (pv 2)) AI))))))),?_⟩
 refine⟨_,rfl,rfl,_,rfl,?_⟩;by_cases hz:b=0
 ·refine BQ (iv hz) ?_;exact(h0 hz).elim
 refine BU (GJ hz) ?_;refine⟨_,rfl,_,rfl,t,b,rfl,?_⟩;refine⟨_,rfl,_,_,rfl,rfl,_,rfl,?_⟩;have fin:∀part,part=Mth.part t b->FU (Gs (Ax (BG (rI IG λi j=>V.int (i.fdiv j)) (Ar 0) (Ar 2)) (Ax (BG (rI IG λi j=>V.int (i.fdiv j)) (Ar 1) (Ar 2)) BH)))
   { nx:=λ_ H'=>Q .Ay H',rt:=Q } [some (.int t),some (.int b),some (.int part)] H:=by
  rintro part rfl;have hp:IG t (Mth.part t b):=⟨Kq t b hz,Nat.lt_of_le_of_lt (QF t b hz) hb⟩;exact⟨_,rfl,_,rfl,_,_,rfl,rfl,hp,_,rfl,_,rfl,_,_,rfl,rfl,hp,by exact sz2,h1 hz⟩
 by_cases hn:b<0
 ·refine BQ hn ?_;exact⟨_,rfl,_,rfl,fin _ (by unfold Mth.part; rw[if_pos hn])⟩
 ·refine BU hn ?_;exact fin _ (by unfold Mth.part; rw[if_neg hn])
open Wd
theorem Qo{x:Addr}{H0 H:Hp}(s:AQ H0 H)(n:H0 x=none)(o:HO):AQ H0 (AK H x o):=λb u q=>by rw[An (A5 q n)]; exact s b u q
theorem EX{i:Int}{n:Nat}(h:i.natAbs<=2 ^ n)(hn:n<8000):B3 i:=Nat.lt_of_le_of_lt h (Nat.pow_lt_pow_right (by decide) hn)
theorem Qm{ns:List Int}{i:Nat}{v:V}(h:(ns.map V.int)[i]?=some v):∃e,v=.int e/\ns[i]?=some e:=by
 rw[List.getElem?_map] at h;cases q:ns[i]? with
 | none=>rw[q] at h; cases h
 | some e=>rw[q] at h; exact⟨e,(Option.some.inj h).symm,rfl⟩
theorem Kf{ns:List Int}{i:Nat}(h:i<ns.length):BN (ns.map V.int) (i:Int)=some (.int (ns.getD i 0)):=by
 refine Al ?_;rw[List.getElem?_map,List.getElem?_eq_getElem h,List.getD_eq_getElem?_getD,List.getElem?_eq_getElem h]; rfl
theorem EG{α:Type}{xs:List α}{i:Nat}{x:α}(h:xs[i]?=some x):xs.take (i+1)=xs.take i++[x]:=by
 rw[List.take_add_one,h]; rfl
variable {f g h C:Addr} {fd gd hd:FuncData}
theorem Lk:Ak ["row","common","one"] ["row"] (Af sCBot):=Ap
inductive Og(vs:List V)(H:Hp)(Q:VK):Prop
 | mk (a:Addr) (qs:List Rat) (b:Int) (h_0:vs=[.ref a,.int b]) (h_1:A7 Ac H a qs) (h_2:qs.length<=1000) (h_3:(∀q∈qs,B3 q.num/\B3 (q.den:Int)/\B3 (b.fdiv q.den))) (h_4:∀p H',AQ H H'->H p=none->FP H' p (qs.map (wh b))->Q (.ref p) H'):Og vs H Q
def KR:Sp:=λvs H Q _=>Og vs H Q
theorem aj:Ak ["row","bottom"] ["row","bottom"] (Af sWholes):=Ap
theorem Zy:(["one","bottom"]:List Str).Nodup:=by decide +kernel
theorem VT(F:Ag K "wholes" "wholes" sWholes f fd):AG P w K mg base AM 1 f fd ["row","bottom"] KR:=by
 refine F.ok aj (λvs H Q E h=>?_) (λcdv A outer s H vs Q E hr h=>?_)
 ·obtain⟨a,qs,b,rfl,_⟩:=h;rfl
 obtain⟨a,qs,b,rfl,⟨bs,ha,hA⟩,hn,hsz,q⟩:=h;refine⟨_,AU (AY (Ht (Nc:=["one","bottom"]) (cap:=[(1,1)]) (g:=CW 0) (te:=BG (rI RU λi j=>.int (i*j)) (BG (Ew K) (Ar 0) (tC (.int 0))) (BG (rI IG λi j=>.int (i.fdiv j)) (Ar 1) (BG (Ew K) (Ar 0) (tC (.int 1))))) rfl (JR (pv 0))
   (Ek rfl rfl (by decide +kernel) (by decide +kernel) (List.forall_mem_cons.mpr ⟨⟨rfl,rfl⟩,List.forall_mem_nil _⟩) rfl (List.forall_mem_cons.mpr ⟨⟨_,_,rfl,rfl,rfl,rfl,rfl⟩,List.forall_mem_nil _⟩))
   (λ_ _ _ _ _=>A8 (i:=0) Zy rfl (Or.inl rfl)) (λ_ _ _ _ _=>AW JD (EU Fq (pv 0) AF (λ_ _=>rfl)) (AW Hn (pv 1) (EU Fq (pv 0) AF (λ_ _=>rfl)))))),?_⟩
 refine⟨_,rfl,a,rfl,⟨_,AJ.of ha⟩,λacc hacc=>?_⟩;refine Fj (JC ha) (by rw[List.length_map,hA.1]; exact hn) hacc (λi ys σ _=>ys=((qs.take i).map (wh b)).map V.int/\∃u,σ=[u,some (.int b)]) ⟨rfl,none,rfl⟩ ?_ ?_
 ·rintro i ys σ H2 x H3 hi sm hacc2 ⟨hys,u,rfl⟩ ⟨rfl,hx⟩ C hC;obtain⟨c,y,rfl,_,hy,hB⟩:=hA.ref hx;obtain⟨s1,s2,s3⟩:=hsz y (List.mem_of_getElem? hy);have hB3:=ET sm hB;have yd:=y.den_nz;refine⟨_,rfl,c,_,_,_,rfl,rfl,AJ.of hB3,C8,_,rfl,_,rfl,c,_,_,_,rfl,rfl,AJ.of hB3,Cf,_,_,rfl,rfl,⟨by omega,s2⟩,_,_,rfl,rfl,⟨s1,s3⟩,?_⟩;refine hC _ _ _ (AQ.refl _) ⟨?_,_,rfl⟩;rw[hys,EG hy,List.map_append,List.map_append]; rfl
 ·rintro ys σ H2 sm ha2 hl ⟨hys,_⟩;refine q acc H2 sm hacc ?_;rw[List.length_map,hA.1,List.take_length] at hys;unfold FP;rw[ha2,hys]
theorem Kt:bootBuiltins "list" = some (.type "list"):=by decide +kernel
theorem YL{H:Hp}{a:Addr}{bs:List Addr}{qs:List Rat}{ys:List V}(h:At Ac H bs qs)(e:H a=some (.AN ys))(o:HO):At Ac (AK H a o) bs qs:=(RO e h).keep ET (X8 H a o)
theorem Sw{H:Hp}{a b:Addr}{r:List Rat}{ys:List V}(h:A7 Ac H b r)(e:H a=some (.AN ys)):A7 Ac (del H a) b r:=by
 obtain⟨cs,h1,h2⟩:=h;exact⟨cs,Fp h1 (λz=>by rw[z,e] at h1; cases h1),RO e h2⟩
theorem BI:Mo (A7 Ac):=λs h=>Mz (R:=Ac) (λs h=>ET s h) s h
def BV(H:Hp)(a:Addr)(W U:Rat)(rows:List (List Rat)):Prop:=∃p q r,H a=some (.AH [.ref p,.ref q,.ref r])/\Ac H p W/\Ac H q U/\A7 (A7 Ac) H r rows
theorem BO{H H':Hp}{a:Addr}{W U:Rat}{rows:List (List Rat)}(s:AQ H H')(h:BV H a W U rows):BV H' a W U rows:=by
 obtain⟨p,q,r,h1,h2,h3,h4⟩:=h;exact⟨p,q,r,s _ _ h1,s _ _ h2,s _ _ h3,Mz (R:=A7 Ac) (λs h=>BI s h) s h4⟩
abbrev BK(W U:Rat)(rows:List (List Rat)):List Rat:=W :: U :: rows.flatten
theorem M8:∀{rows:List (List Rat)},(∀r∈rows,r.length=4)->rows.flatten.length=4*rows.length
 | [],_=>rfl
 | r :: rows,h=>by
  rw[List.flatten_cons,List.length_append,h r (by simp),M8 (λx hx=>h x (by simp[hx])),List.length_cons]; omega
variable {C0 f1 f2 f3 f4 f5:Addr} {d1 d2 d3 d4 d5:FuncData}
inductive RD(vs:List V)(H:Hp)(Q:VK):Prop
 | mk (a:Addr) (qs:List Rat) (d:Nat) (h_0:vs=[.ref a]) (h_1:Bi Ac H a qs) (h_2:(∀q∈qs,q.den<=2 ^ d)) (h_3:d*qs.length+d<8000) (h_4:Q (.int (cb qs)) H):RD vs H Q
def M4:Sp:=λvs H Q _=>RD vs H Q
theorem WV(F:Ag K "common_bottom" "common_bottom" sCBot f fd)(G:AG P w K mg base AM 1 g gd ["one","other"] LR)(bG:AV K gd ["one","other"] [])(kG:KP K g)(mG:mg "common_part" = some (.ref g)):
  AG P w K mg base AM 2 f fd ["row"] M4:=by
 refine F.ok Lk (λvs H Q E h=>?_) (λcdv A outer s H vs Q E hr h=>?_)
 ·obtain⟨a,qs,d,rfl,_⟩:=h;rfl
 obtain⟨a,qs,d,rfl,⟨bs,ha,hA⟩,hd,hsz,q⟩:=h;refine⟨_,AR (Ab (i:=1) Lk.nd rfl (Or.inl rfl) AF)
  (AR (DE PassesOwn.never rfl (MY (pv 0)) (A8 (i:=2) Lk.nd rfl (Or.inl rfl))
   (AU (Ab (i:=1) Lk.nd rfl (Or.inl rfl) (AW JD (AW Hn (pv 1) (Ad G hr (by rfl) mG kG bG .nil AZ (AA (pv 1) (AA (EU Fq (pv 2) AF (λ_ _=>rfl)) AI)))) (EU Fq (pv 2) AF (λ_ _=>rfl))))))
  (AU (AY (pv 1)))),?_⟩
 refine⟨_,rfl,a,rfl,⟨_,AS.of ha⟩,?_⟩;refine P8 (xs:=bs.map V.ref) (λi σ H2=>∃u,H2=H/\σ=[some (.ref a),some (.int ((qs.take i).foldl DP 1)),u]) ⟨none,rfl,rfl⟩ (λi σ H2 _ ⟨_,e,_⟩=>by rw[e]; exact AS.of ha) ?_ ?_
 ·rintro i x σ H2 hx ⟨u,rfl,rfl⟩;obtain⟨b,y,rfl,_,hy,hB⟩:=hA.ref hx;have hi:i<qs.length:=(List.getElem?_eq_some_iff.mp hy).1;have ym:y∈qs:=List.mem_of_getElem? hy;obtain⟨c1,c2,c3,c4⟩:=Rm (qs.take i) (c:=1) (D:=0) (d:=d) (by decide) (by decide) (λp hp=>hd p (List.mem_of_mem_take hp));generalize hc:(qs.take i).foldl DP 1=c at *;have lt:(qs.take i).length<=qs.length:=by simp; omega
  have mle:d*(qs.take i).length<=d*qs.length:=Nat.mul_le_mul_left d lt;have hdn:y.den<=2 ^ d:=hd y ym;have hg0:(Int.gcd c y.den:Int)≠0:=by have:=Int.gcd_pos_of_ne_zero_left (y.den:Int) (show c≠0 by omega); omega
  have hgb:B3 (Int.gcd c y.den:Int):=by
   refine EX (n:=d) ?_ (by omega);rw[Int.natAbs_natCast];refine Nat.le_trans (Nat.le_of_dvd ?_ (Int.ofNat_dvd_left.mp (Int.gcd_dvd_right c (y.den:Int)))) ?_
   ·have:=y.den_nz; omega
   ·simpa using hdn
  have hb1:B3 (c.fdiv (Int.gcd c y.den:Int)):=by
   refine EX (n:=0+d*(qs.take i).length) (Nat.le_trans ?_ c4) (by omega);rw[Int.fdiv_eq_ediv_of_dvd (Int.gcd_dvd_left c _)];exact Int.natAbs_ediv_le_natAbs c _
  have hb2:B3 (y.den:Int):=EX (n:=d) (by simpa using hdn) (by omega);refine⟨_,rfl,_,rfl,_,rfl,b,_,_,_,rfl,rfl,AJ.of hB,Cf,c,y.den,rfl,_,_,rfl,rfl,⟨hg0,hgb⟩,_,rfl,b,_,_,_,rfl,rfl,AJ.of hB,Cf,_,_,rfl,rfl,⟨hb1,hb2⟩,?_⟩;refine⟨some (.ref b),rfl,?_⟩;rw[EG hy,List.foldl_append];show _=[some (V.ref a),some (.int (DP ((qs.take i).foldl DP 1) y)),some (.ref b)];rw[hc]; rfl
 ·rintro σ H2 ⟨u,rfl,rfl⟩;refine⟨_,rfl,?_⟩;rw[List.length_map,hA.1,List.take_length];exact q
inductive Qn(vs:List V)(H:Hp)(Q:VK):Prop
 | mk (a:Addr) (W U:Rat) (rows:List (List Rat)) (h_0:vs=[.ref a]) (h_1:BV H a W U rows) (h_2:rows.length<=40) (h_3:(∀r∈rows,r.length=4)) (h_4:∀p H',AQ H H'->Bi Ac H' p (BK W U rows)->Q (.ref p) H'):Qn vs H Q
def Mp:Sp:=λvs H Q _=>Qn vs H Q
theorem NQ:Ak ["floor","numbers","rectangle"] ["floor"] (Af s_numbers_of):=Ap
theorem XI(F:Ag K "numbers_of" "numbers_of" s_numbers_of f fd)(mli:mg "list" = none):AG P w K mg base AM 1 f fd ["floor"] Mp:=by
 refine F.ok NQ (λvs H Q E h=>?_) (λcdv A outer s H vs Q E hr h=>?_)
 ·obtain⟨a,W,U,rows,rfl,_⟩:=h;rfl
 obtain⟨a,W,U,rows,rfl,⟨p,q0,r,ha,hW,hU,bs,hrr,hB⟩,hl,h4,q⟩:=h;refine⟨_,AR (Ab (i:=1) NQ.nd rfl (Or.inl rfl) (CU (AA (EU Fq (pv 0) AF (λ_ _=>rfl)) (AA (EU Fq (pv 0) AF (λ_ _=>rfl)) AI))))
  (AR (DE PassesOwn.never rfl (JR (EU Fq (pv 0) AF (λ_ _=>rfl))) (A8 (i:=2) NQ.nd rfl (Or.inl rfl))
   (AU (GV (HU K PySem.F.plainAttrs_list PySem.F.slot_list_extend PySem.F.type_list_extend U2 (pv 1) (AA (EJ L6 (by rfl) mli Kt (AA (pv 2) AI)) AI)))))
  (AU (AY (pv 1)))),?_⟩
 refine⟨_,rfl,a,_,_,_,rfl,rfl,AJ.of ha,EY _ _ _,_,rfl,a,_,_,_,rfl,rfl,AJ.of ha,E3 _ _ _,by exact sz2,λL hL=>?_⟩;have s1:=Ae hL (.AN [.ref p,.ref q0]);have e1:(AK H L (.AN [.ref p,.ref q0])) L=some (.AN ([p,q0].map V.ref)):=AX;generalize AK H L (.AN [.ref p,.ref q0])=H1 at s1 e1;have lb:bs.length=rows.length:=hB.1;refine⟨_,rfl,a,_,_,_,rfl,rfl,AJ.of (s1 _ _ ha),B5 _ _ _,r,rfl,⟨_,AJ.of (s1 _ _ hrr)⟩,?_⟩;refine Qa (xs:=bs.map V.ref) (λi σ H2=>AQ H H2/\∃(u:Option V) (cs:List Addr),σ=[some (.ref a),some (.ref L),u]/\H2 L=some (.AN (cs.map V.ref))/\At Ac H2 cs (W :: U :: (rows.take i).flatten))
  ⟨s1,none,[p,q0],rfl,e1,(At.nil.snoc (R:=Ac) (b:=p) (x:=W) (s1 _ _ hW)).snoc (b:=q0) (x:=U) (s1 _ _ hU)⟩ (λi σ H2 _ ⟨s2,_⟩=>AJ.of (s2 _ _ hrr)) ?_ ?_
 ·rintro i x σ H2 hx ⟨s2,u,cs,rfl,hcs,hC⟩;obtain⟨b,row,rfl,_,hrow,es,hes,hE⟩:=hB.ref hx;have hi:i<rows.length:=(List.getElem?_eq_some_iff.mp hrow).1;have le:es.length=4:=by rw[hE.1]; exact h4 row (List.mem_of_getElem? hrow)
  have lc:cs.length=2+4*i:=by
   rw[hC.1,List.length_cons,List.length_cons,M8 (λx hx=>h4 x (List.mem_of_mem_take hx)),List.length_take]; omega
  refine⟨_,rfl,.inl ⟨rfl,_,AS.of hcs⟩,_,rfl,b,_,rfl,.inr (AJ.of (s2 _ _ hes)),λlf hlf=>?_⟩;have s3:=Ae hlf (.AN (es.map V.ref));have e3:(AK H2 lf (.AN (es.map V.ref))) lf=some (.AN (es.map V.ref)):=AX;generalize AK H2 lf (.AN (es.map V.ref))=H3 at s3 e3;refine⟨L,lf,_,_,rfl,rfl,s3 _ _ hcs,e3,by rw[List.length_map,List.length_map]; exact DO (by omega),?_⟩;refine⟨Qo (s2.trans s3) hL _,_,cs++es,rfl,by rw[AX]; simp,?_⟩
  have:=(hC.keep ET s3).E7 (hE.keep ET (s2.trans s3))
  rw[EG hrow,List.flatten_append,List.flatten_cons,List.flatten_nil,List.append_nil];exact YL this (s3 _ _ hcs) _
 ·rintro σ H2 ⟨s2,u,cs,rfl,hcs,hC⟩;rw[List.length_map,lb,List.take_length] at hC;exact⟨_,rfl,q L H2 s2 ⟨cs,hcs,hC⟩⟩
theorem ZO{n:Nat}(h:2<=n):HT.Ao n n (some 2)=2:=by simp[HT.Ao]; omega
inductive Ry(vs:List V)(H:Hp)(Q:VK):Prop
 | mk (a:Addr) (b:Int) (W U:Rat) (rows:List (List Rat)) (h_0:vs=[.ref a,.int b]) (h_1:BV H a W U rows) (h_2:rows.length<=40) (h_3:(∀r∈rows,r.length=4)) (h_4:(∀q∈BK W U rows,B3 q.num/\B3 (q.den:Int)/\B3 (b.fdiv q.den))) (h_5:∀p l H',AQ H H'->H' p=some (.AH [.int (wh b W),.int (wh b U),.ref l])->Bi FP H' l (rows.map λr=>r.map (wh b))->Q (.ref p) H'):Ry vs H Q
def N0:Sp:=λvs H Q _=>Ry vs H Q
theorem SD:Ak ["floor","bottom","sides"] ["floor","bottom"] (Af s_whole_floor):=Ap
theorem Zp:(["rectangle","bottom"]:List Str).Nodup:=by decide +kernel
theorem Zf(F:Ag K "whole_floor" "whole_floor" s_whole_floor f fd)(G1:AG P w K mg base AM 1 f1 d1 ["row","bottom"] KR)(b1:AV K d1 ["row","bottom"] [])(k1:KP K f1)(m1:mg "wholes" = some (.ref f1)):
  AG P w K mg base AM 2 f fd ["floor","bottom"] N0:=by
 refine F.ok SD (λvs H Q E h=>?_) (λcdv A outer s H vs Q E hr h=>?_)
 ·obtain⟨a,b,W,U,rows,rfl,_⟩:=h;rfl
 obtain⟨a,b,W,U,rows,rfl,⟨p,q0,r,ha,hW,hU,bs,hrr,hB⟩,hl,h4,hsz,q⟩:=h;refine⟨_,AR (Ab (i:=2) SD.nd rfl (Or.inl rfl) (Ad G1 hr (by rfl) m1 k1 b1 .nil AZ (AA (EK RA (pv 0) Ej (D4 AF)) (AA (pv 1) AI))))
  (AU (AY (A0 (AA (EU MX (pv 2) AF (λ_ _=>rfl)) (AA (EU MX (pv 2) AF (λ_ _=>rfl)) (AA
   (Ht (Nc:=["rectangle","bottom"]) (cap:=[(1,1)]) (g:=CW 0) (te:=Es KR [] E0 (Ax (Ar 0) (Ax (Ar 1) BH))) rfl (JR (EU Fq (pv 0) AF (λ_ _=>rfl)))
   (Ek rfl rfl (by decide +kernel) (by decide +kernel) (List.forall_mem_cons.mpr ⟨⟨rfl,rfl⟩,List.forall_mem_nil _⟩) rfl (List.forall_mem_cons.mpr ⟨⟨_,_,rfl,rfl,rfl,rfl,rfl⟩,List.forall_mem_nil _⟩))
   (λ_ _ _ _ _=>A8 (i:=0) Zp rfl (Or.inl rfl)) (λ_ _ _ _ _=>Ad G1 hr (by rfl) m1 k1 b1 .nil AZ (AA (pv 0) (AA (pv 1) AI)))) AI)))))),?_⟩
 refine⟨_,rfl,2,rfl,a,_,rfl,AJ.of ha,λz=>?_,λp1 hp1=>?_⟩
 ·have:=z.2
  rw[ZO (by show 2<=3; decide)] at this;cases this
 rw[show Bv [V.ref p,.ref q0,.ref r] none (some 2)=[p,q0].map V.ref by rw[show(some (2:Int))=some ((2:Nat):Int) from rfl,Iz _ (by show 2<=3; decide)]; rfl];have s1:=Ae hp1 (.AH ([p,q0].map V.ref));have e1:(AK H p1 (.AH ([p,q0].map V.ref))) p1=some (.AH ([p,q0].map V.ref)):=AX;generalize AK H p1 (.AH ([p,q0].map V.ref))=H1 at s1 e1;have a1:At Ac H1 [p,q0] [W,U]:=(At.nil.snoc (R:=Ac) (b:=p) (x:=W) (s1 _ _ hW)).snoc (b:=q0) (x:=U) (s1 _ _ hU);refine⟨_,rfl,p1,[W,U],b,rfl,⟨_,e1,a1⟩,by show 2<=1000; decide,λy hy=>hsz y (by simp only[List.mem_cons,List.not_mem_nil,or_false] at hy; rcases hy with rfl | rfl <;> simp),λl2 H2 s2 _ hl2=>?_⟩;have hl2':H2 l2=some (.AN [.int (wh b W),.int (wh b U)]):=hl2;have s12:=s1.trans s2;have lb:bs.length=rows.length:=hB.1;refine⟨_,rfl,l2,_,_,_,rfl,rfl,AS.of hl2',C8,_,rfl,l2,_,_,_,rfl,rfl,AS.of hl2',Cf,?_⟩;refine⟨_,rfl,a,_,_,_,rfl,rfl,AJ.of (s12 _ _ ha),B5 _ _ _,r,rfl,⟨_,AJ.of (s12 _ _ hrr)⟩,λacc hacc=>?_⟩;refine Fj (JC (s12 _ _ hrr)) (by rw[List.length_map]; omega) hacc (λi ys σ hp=>∃gs:List Addr,ys=gs.map V.ref/\At FP hp gs ((rows.map λr=>r.map (wh b)).take i)/\∃u,σ=[u,some (.int b)]) ⟨[],rfl,At.nil,none,rfl⟩ ?_ ?_
 ·rintro i ys σ H3 z H4 hi sm hac3 ⟨gs,rfl,hG,u,rfl⟩ ⟨rfl,hx⟩ Cc hC;obtain⟨c,row,rfl,_,hrow,hR⟩:=hB.ref hx;have rm:row∈rows:=List.mem_of_getElem? hrow;have hR3:=BI (s12.trans sm) hR;refine⟨_,rfl,_,rfl,c,row,b,rfl,hR3,by rw[h4 row rm]; omega,λy hy=>hsz y (by simp only[List.mem_cons]; exact .inr (.inr (List.mem_flatten.mpr ⟨row,rm,hy⟩))),λp5 H5 s5 np hp=>?_⟩;refine hC _ _ _ s5 ⟨gs++[p5],by simp,?_,_,rfl⟩;have ne:p5≠acc:=λz=>by rw[z,hac3] at np; cases np
  have e3:(rows.map λr=>r.map (wh b))[i]?=some (row.map (wh b)):=by rw[List.getElem?_map,hrow]; rfl
  rw[EG e3];exact(hG.keep Me (HJ acc s5)).snoc (Fp hp ne)
 rintro ys σ2 H3 s3 hac3 hl3 ⟨gs,rfl,hG,u,rfl⟩;rw[List.length_map,lb,List.take_of_length_le (by rw[List.length_map]; omega)] at hG;refine⟨by exact EF,λpp hpp=>?_⟩;have s4:=Ae hpp (.AH [.int (wh b W),.int (wh b U),.ref acc]);exact q pp acc _ (s12.trans (s3.trans s4)) AX ⟨gs,s4 _ _ hac3,(hG.keep Me (HL H3 acc)).keep Me s4⟩
open Fl
def DX(H:Hp)(a:Addr)(b:AE):Prop:=H a=some (.AN [.int b.l,.int b.d,.int b.r,.int b.u])
theorem LC:Mo DX:=λs h=>s _ _ h
def Cw(b:AE):Bool:=decide (b.r<b.l) || (decide (b.u<b.d) || (decide (b.l=b.r) != decide (b.d=b.u)))
def CY(w h:Int)(b:AE):Bool:=decide (b.l<0) || (decide (b.d<0) || (decide (w<b.r) || decide (h<b.u)))
theorem DL{a b c d:V}:BN [a,b,c,d] 0=some a:=Al (j:=0) rfl
theorem Cm{a b c d:V}:BN [a,b,c,d] 1=some b:=Al (j:=1) rfl
theorem DM{a b c d:V}:BN [a,b,c,d] 2=some c:=Al (j:=2) rfl
theorem DJ{a b c d:V}:BN [a,b,c,d] 3=some d:=Al (j:=3) rfl
inductive Rn(vs:List V)(H:Hp)(Q:VK):Prop
 | mk (a:Addr) (b:AE) (h_0:vs=[.ref a]) (h_1:DX H a b) (h_2:Q (.bl (Cw b)) H):Rn vs H Q
def Na:Sp:=λvs H Q _=>Rn vs H Q
theorem aS:Ak ["rectangle"] ["rectangle"] (Af s_is_neither):=Ap
theorem ZK(F:Ag K "is_neither" "is_neither" s_is_neither f fd):AG P w K mg base AM 1 f fd ["rectangle"] Na:=by
 refine F.ok aS (λvs H Q E h=>?_) (λcdv A outer s H vs Q E hr h=>?_)
 ·obtain⟨a,b,rfl,_⟩:=h;rfl
 obtain⟨a,b,rfl,ha,q⟩:=h;refine⟨_,AR (A3 (PW.pt (D9 (Aw EV (pL K (pv 0) AF) (pL K (pv 0) AF) (Ai _))
   (Gf (Aw EV (pL K (pv 0) AF) (pL K (pv 0) AF) (Ai _))))) (AU (AY CA)) A6)
  (AU (AY (Bq ER (Bq CQ (pL K (pv 0) AF) (pL K (pv 0) AF) (Ai _))
   (Bq CQ (pL K (pv 0) AF) (pL K (pv 0) AF) (Ai _)) (Ai _)))),?_⟩
 refine⟨_,rfl,a,_,_,_,rfl,rfl,AS.of ha,DL,_,rfl,a,_,_,_,rfl,rfl,AS.of ha,DM,_,_,rfl,rfl,_,rfl,?_⟩
 (try dsimp only)
 by_cases h1:b.r<b.l
 ·rw[if_pos (decide_eq_true h1),if_pos rfl];rw[show Cw b=true by simp only[Cw,decide_eq_true h1]; rfl] at q;exact q
 rw[if_neg (by rw[decide_eq_false h1]; decide)];refine⟨_,rfl,a,_,_,_,rfl,rfl,AS.of ha,Cm,_,rfl,a,_,_,_,rfl,rfl,AS.of ha,DJ,_,_,rfl,rfl,_,rfl,?_⟩
 (try dsimp only)
 by_cases h2:b.u<b.d
 ·rw[if_pos (decide_eq_true h2)];rw[show Cw b=true by simp only[Cw,decide_eq_false h1,decide_eq_true h2]; rfl] at q;exact q
 rw[if_neg (by rw[decide_eq_false h2]; decide)];refine⟨_,rfl,a,_,_,_,rfl,rfl,AS.of ha,DL,_,rfl,a,_,_,_,rfl,rfl,AS.of ha,DM,rfl,_,rfl,a,_,_,_,rfl,rfl,AS.of ha,Cm,_,rfl,a,_,_,_,rfl,rfl,AS.of ha,DJ,rfl,rfl,?_⟩;rw[show Cw b=(decide (b.l=b.r) != decide (b.d=b.u)) by simp only[Cw,decide_eq_false h1,decide_eq_false h2]; rfl] at q;rw[Mu,Ke,Ke];rw[Bool.beq_eq_decide_eq,Bool.beq_eq_decide_eq];exact q
inductive Qy(vs:List V)(H:Hp)(Q:VK):Prop
 | mk (a:Addr) (b:AE) (m n:Int) (h_0:vs=[.ref a,.int m,.int n]) (h_1:DX H a b) (h_2:Q (.bl (CY m n b)) H):Qy vs H Q
def NG:Sp:=λvs H Q _=>Qy vs H Q
theorem Zd:Ak ["rectangle","width","height"] ["rectangle","width","height"] (Af s_is_out):=Ap
theorem Yo(F:Ag K "is_out" "is_out" s_is_out f fd):AG P w K mg base AM 1 f fd ["rectangle","width","height"] NG:=by
 refine F.ok Zd (λvs H Q E h=>?_) (λcdv A outer s H vs Q E hr h=>?_)
 ·obtain⟨a,b,m,n,rfl,_⟩:=h;rfl
 obtain⟨a,b,m,n,rfl,ha,q⟩:=h;refine⟨_,AU (AY (II (Bq D7 (pL K (pv 0) AF) AF (Ai _)) (II (Bq D7 (pL K (pv 0) AF) AF (Ai _))
  (II (Bq EV (pL K (pv 0) AF) (pv 1) (Ai _)) (EM (Bq EV (pL K (pv 0) AF) (pv 2) (Ai _))))))),?_⟩
 refine⟨_,rfl,a,_,_,_,rfl,rfl,AS.of ha,DL,_,_,rfl,rfl,_,rfl,?_⟩;by_cases h1:b.l<0
 ·rw[if_pos (decide_eq_true h1)];rw[show CY m n b=true by simp only[CY,decide_eq_true h1]; rfl] at q;exact q
 rw[if_neg (by rw[decide_eq_false h1]; decide)];refine⟨_,rfl,a,_,_,_,rfl,rfl,AS.of ha,Cm,_,_,rfl,rfl,_,rfl,?_⟩;by_cases h2:b.d<0
 ·rw[if_pos (decide_eq_true h2)];rw[show CY m n b=true by simp only[CY,decide_eq_false h1,decide_eq_true h2]; rfl] at q;exact q
 rw[if_neg (by rw[decide_eq_false h2]; decide)];refine⟨_,rfl,a,_,_,_,rfl,rfl,AS.of ha,DM,_,rfl,_,_,rfl,rfl,_,rfl,?_⟩;by_cases h3:m<b.r
 ·rw[if_pos (decide_eq_true h3)];rw[show CY m n b=true by simp only[CY,decide_eq_false h1,decide_eq_false h2,decide_eq_true h3]; rfl] at q;exact q
 rw[if_neg (by rw[decide_eq_false h3]; decide)];refine⟨_,rfl,a,_,_,_,rfl,rfl,AS.of ha,DJ,_,rfl,_,_,rfl,rfl,?_⟩;rw[show CY m n b=decide (n<b.u) by simp only[CY,decide_eq_false h1,decide_eq_false h2,decide_eq_false h3]; rfl] at q;exact q
inductive Rv(vs:List V)(H:Hp)(Q:VK):Prop
 | mk (a c:Addr) (b d:AE) (h_0:vs=[.ref a,.ref c]) (h_1:DX H a b) (h_2:DX H c d) (h_3:Q (.bl (Cu b d)) H):Rv vs H Q
def NY:Sp:=λvs H Q _=>Rv vs H Q
theorem Ny:Ak ["one","other","across","upward"] ["one","other"] (Af s_overlap):=Ap
theorem S5(i j:Int):(if j > i then j else i)=max i j:=by split <;> omega
theorem Sx(i j:Int):(if j<i then j else i)=min i j:=by split <;> omega
theorem ZL(F:Ag K "overlap" "overlap" s_overlap f fd)(mx:mg "max" = none)(mn:mg "min" = none):AG P w K mg base AM 1 f fd ["one","other"] NY:=by
 refine F.ok Ny (λvs H Q E h=>?_) (λcdv A outer s H vs Q E hr h=>?_)
 ·obtain⟨a,c,b,d,rfl,_⟩:=h;rfl
 obtain⟨a,c,b,d,rfl,ha,hc,q⟩:=h;refine⟨_,AR (Ab (i:=2) Ny.nd rfl (Or.inl rfl) (Bq D7 (BJ (Ip rfl) (by rfl) mx JT (AA (pL K (pv 0) AF) (AA (pL K (pv 1) AF) AI)))
   (BJ (Io rfl) (by rfl) mn JM (AA (pL K (pv 0) AF) (AA (pL K (pv 1) AF) AI))) (Ai _)))
  (AR (Ab (i:=3) Ny.nd rfl (Or.inl rfl) (Bq D7 (BJ (Ip rfl) (by rfl) mx JT (AA (pL K (pv 0) AF) (AA (pL K (pv 1) AF) AI)))
   (BJ (Io rfl) (by rfl) mn JM (AA (pL K (pv 0) AF) (AA (pL K (pv 1) AF) AI))) (Ai _)))
  (AU (AY (FL (pv 2) (EM (pv 3)))))),?_⟩
 refine⟨_,rfl,a,_,_,_,rfl,rfl,AS.of ha,DL,_,rfl,c,_,_,_,rfl,rfl,AS.of hc,DL,_,_,rfl,_,rfl,a,_,_,_,rfl,rfl,AS.of ha,DM,_,rfl,c,_,_,_,rfl,rfl,AS.of hc,DM,_,_,rfl,_,_,rfl,rfl,?_⟩;refine⟨_,rfl,a,_,_,_,rfl,rfl,AS.of ha,Cm,_,rfl,c,_,_,_,rfl,rfl,AS.of hc,Cm,_,_,rfl,_,rfl,a,_,_,_,rfl,rfl,AS.of ha,DJ,_,rfl,c,_,_,_,rfl,rfl,AS.of hc,DJ,_,_,rfl,_,_,rfl,rfl,?_⟩;rw[S5,Sx,S5,Sx];refine⟨_,rfl,_,rfl,?_⟩;by_cases h1:max b.l d.l<min b.r d.r
 ·rw[if_pos (decide_eq_true h1)];rw[show Cu b d=decide (max b.d d.d<min b.u d.u) by simp only[Cu,decide_eq_true h1]; rfl] at q;exact⟨_,rfl,q⟩
 ·rw[if_neg (by rw[decide_eq_false h1]; decide)];rw[show Cu b d=false by simp only[Cu,decide_eq_false h1]; rfl] at q;exact q
theorem Xf{bs:List Addr}{i:Nat}{b:Addr}(h:bs[i]?=some b):(bs.map V.ref)[i]?=some (.ref b):=by rw[List.getElem?_map,h]; rfl
inductive Ri(vs:List V)(H:Hp)(Q:VK):Prop
 | mk (a:Addr) (bs:List AE) (h_0:vs=[.ref a]) (h_1:Bi DX H a bs) (h_2:bs.length<=1000) (h_3:(∀(j k:Nat) (p:Addr) (H':Hp),Fst bs j k->AQ H H'->H' p=some (.AH [.int j,.int k])->Q (.ref p) H')) (h_4:(CZ bs->∀H',AQ H H'->Q .Ay H')):Ri vs H Q
def Nq:Sp:=λvs H Q _=>Ri vs H Q
theorem Le:Ak ["rectangles","j","one","k"] ["rectangles"] (Af s_first_overlap):=Ap
theorem Zb (F:Ag K "first_overlap" "first_overlap" s_first_overlap f fd) (G:AG P w K mg base AM 1 g gd ["one","other"] NY) (bG:AV K gd ["one","other"] []) (kG:KP K g) (mG:mg "overlap" = some (.ref g))
  (me:mg "enumerate" = none) (mr:mg "range" = none) (ml:mg "len" = none):AG P w K mg base AM 2 f fd ["rectangles"] Nq:=by
 refine F.ok Le (λvs H Q E h=>?_) (λcdv A outer s H vs Q E hr h=>?_)
 ·obtain⟨a,bs,rfl,_⟩:=h;rfl
 obtain⟨a,bs,rfl,⟨cs,ha,hC⟩,hl,q1,q2⟩:=h;refine⟨_,AR (DE PassesOwn.never rfl (KS (by rfl) me (AA (pv 0) AI)) (FQ (n:=2) (K:=K) rfl (Bp (A8 (i:=1) Le.nd rfl (Or.inl rfl)) (Bp (A8 (i:=2) Le.nd rfl (Or.inl rfl)) FG)))
   (AU (DE PassesOwn.never rfl (KI (by rfl) mr (AA (AW BW (pv 1) AF) (AA (BJ (Ci (K:=K)) (by rfl) ml Cj (AA (pv 0) AI)) AI))) (A8 (i:=3) Le.nd rfl (Or.inl rfl))
    (AU (A3 (DC (Ad G hr (by rfl) mG kG bG .nil AZ (AA (pv 2) (AA (pL K (pv 0) (pv 3)) AI)))) (AU (AY (A0 (AA (pv 1) (AA (pv 3) AI))))) A6)))))
  (AU (AY K1)),?_⟩
 have lc:cs.length=bs.length:=hC.1;refine⟨_,rfl,a,_,rfl,ha,?_⟩;refine KH (xs:=cs.map V.ref) (λi σ H2=>AQ H H2/\(∃u1 u2 u3,σ=[some (.ref a),u1,u2,u3])/\∀(j' k':Nat) (x y:AE),j' < k'->j' < i->bs[j']?=some x->bs[k']?=some y->Cu x y=false)
  ⟨AQ.refl _,⟨none,none,none,rfl⟩,λ_ _ _ _ _ z=>absurd z (Nat.not_lt_zero _)⟩ (λi σ H2 _ ⟨s2,_⟩=>s2 _ _ ha) ?_ ?_
 ·rintro i x σ H2 p hx ⟨s2,⟨u1,u2,u3,rfl⟩,no⟩ hp;obtain⟨c,b,rfl,_,hy,fb⟩:=hC.ref hx;have bi:i<bs.length:=(List.getElem?_eq_some_iff.mp hy).1;have s3:=Ae hp (.AH [.int ((i:Nat):Int),.ref c]);have g3:(AK H2 p (.AH [.int ((i:Nat):Int),.ref c])) p=some (.AH [.int ((i:Nat):Int),.ref c]):=AX;generalize AK H2 p (.AH [.int ((i:Nat):Int),.ref c])=H3 at s3 g3;have s03:=s2.trans s3;refine⟨p,_,rfl,AJ.of g3,rfl,_,_,rfl,_,_,rfl,rfl,?_⟩;refine⟨_,rfl,_,_,rfl,rfl,_,rfl,a,_,rfl,.inl (AS.of (s03 _ _ ha)),_,_,rfl,?_,?_⟩
  ·rw[List.length_map,lc]; omega
  rw[List.length_map,lc,show((bs.length:Int)-((i:Int)+1)).toNat=bs.length-(i+1) by omega];refine HI (λk σ H4=>H4=H3/\(∃u3,σ=[some (.ref a),some (.int ((i:Nat):Int)),some (.ref c),u3])/\∀(k':Nat) (y:AE),i<k'->k' < i+1+k->bs[k']?=some y->Cu b y=false)
   ⟨rfl,⟨u3,rfl⟩,λk' y z1 z2=>by omega⟩ ?_ ?_
  ·rintro k σ H4 hk ⟨rfl,⟨u4,rfl⟩,nk⟩;have kl:i+1+k<bs.length:=by omega
   have hz:bs[i+1+k]?=some bs[i+1+k]:=List.getElem?_eq_getElem kl;obtain⟨cz,hcz,fz⟩:=hC.get hz;refine⟨_,rfl,_,rfl,_,rfl,a,_,_,_,rfl,rfl,AS.of (s03 _ _ ha),Al (j:=i+1+k) (Xf hcz),c,cz,b,_,rfl,s03 _ _ fb,s03 _ _ fz,_,rfl,?_⟩;refine Ey (λov=>?_) (λov=>?_)
   ·refine⟨_,rfl,_,rfl,by exact sz2,λt ht=>?_⟩;refine q1 i (i+1+k) t _ ⟨by omega,⟨b,_,hy,hz,ov⟩,?_⟩ (s03.trans (Ae ht _)) (by rw[AX]; rfl);rintro j' k' x y h1 h2 h3 (h4 | ⟨rfl,h4⟩)
    ·exact no j' k' x y h1 h4 h2 h3
    ·rw[hy] at h2; cases h2;exact nk k' y h1 h4 h3
   ·refine⟨rfl,⟨_,rfl⟩,λk' y h1 h2 h3=>?_⟩;rcases Nat.lt_or_ge k' (i+1+k) with z | z
    ·exact nk k' y h1 z h3
    ·obtain rfl:k'=i+1+k:=by omega
     rw[hz] at h3; cases h3;simpa using ov
  ·rintro σ H4 ⟨rfl,⟨u4,rfl⟩,nk⟩;refine⟨s03,⟨_,_,_,rfl⟩,λj' k' x y h1 h2 h3 h4=>?_⟩;rcases Nat.lt_or_ge j' i with z | z
   ·exact no j' k' x y h1 z h3 h4
   ·obtain rfl:j'=i:=by omega
    rw[hy] at h3; cases h3
    have:=(List.getElem?_eq_some_iff.mp h4).1
    exact nk k' y h1 (by omega) h4
 ·rintro σ H2 ⟨s2,⟨u1,u2,u3,rfl⟩,no⟩;rw[List.length_map,lc] at no;refine q2 ?_ _ s2;rw[CZ,List.pairwise_iff_getElem];intro i j hi hj hij;exact no i j _ _ hij hi (List.getElem?_eq_getElem hi) (List.getElem?_eq_getElem hj)
end
end My
namespace L2
open PySem PySem.Spec PyProof.Rows
section
variable {X:Cx} {K:PySem.W.Frag} {P:Program} {w:World}
theorem XE(hc:X.By=true)(h:X.K=K:=by rfl)(hp:X.prog=P:=by rfl)(hw:X.w=w:=by rfl):Ck X (.type "set") (λxs H Q=>∃(p:Addr) (ns:List Int),xs=[.ref p]/\AS K H p (ns.map V.int)/\ns.length<=1000/\∀a,H a=none->Q (.ref a) (AK H a (GB P w a (Bm ns)))):=by
 subst h hp hw;exact VR hc
theorem Xo(hc:X.By=true)(hp:X.prog=P:=by rfl)(hw:X.w=w:=by rfl):Ck X (.builtin "sorted") (λxs H Q=>∃(a:Addr) (ks:List Int),xs=[.ref a]/\H a=some (GB P w a ks)/\ks.length<64/\∀(l:Addr) (ms:List Int),H l=none->ms.Perm ks->ms.Pairwise (·<=·)->Q (.ref l) (AK H l (.AN (ms.map V.int)))):=by
 subst hp hw;exact UT hc
end
end L2
namespace My
open PySem L2 Mth Wd Fl
theorem YO:bootBuiltins "set" = some (.type "set"):=by decide +kernel
theorem Od:bootBuiltins "sorted" = some (.builtin "sorted"):=by decide +kernel
def HD(t:Nat)(b:AE):Int:=if t=0 then b.l else b.d
def Lz(t:Nat)(b:AE):Int:=if t=0 then b.r else b.u
def DG(t:Nat)(bs:List AE):List Int:=bs.map (HD t)++bs.map (Lz t)
theorem ZX(bs:List AE):DG 0 bs=E5 bs:=rfl
theorem ZD(bs:List AE):DG 1 bs=E1 bs:=rfl
theorem ZR{t:Nat}(h:t<=1)(b:AE):BN [V.int b.l,.int b.d,.int b.r,.int b.u] (t:Int)=some (.int (HD t b)):=by
 rcases(show t=0\/t=1 by omega) with rfl | rfl
 ·exact DL
 ·exact Cm
theorem ZN{t:Nat}(h:t<=1)(b:AE):BN [V.int b.l,.int b.d,.int b.r,.int b.u] ((t:Int)+2)=some (.int (Lz t b)):=by
 rcases(show t=0\/t=1 by omega) with rfl | rfl
 ·exact DM
 ·exact DJ
theorem Ru{m:Int}{vs ns ms:List Int}(e:∀v,v∈ns↔v=0\/v=m\/v∈vs)(p:ms.Perm (Bm ns))(srt:ms.Pairwise (·<=·)):Bd m vs ms:=by
 refine⟨?_,λv=>by rw[p.mem_iff,U6,e]⟩;have nd:ms.Nodup:=p.nodup_iff.mpr (Tg ns);exact(srt.and nd).imp λ⟨a,b⟩=>by omega
section
variable {P:Program} {w:World} {K:PySem.W.Frag} {mg:Str->Option Value} {base:Heap} {f g h C0 f1 f2 f3 f4 f5:Addr} {fd gd hd d1 d2 d3 d4 d5:FuncData}
inductive Rk(vs:List V)(H:Hp)(Q:VK):Prop
 | mk (a:Addr) (bs:List AE) (t:Nat) (m:Int) (h_0:vs=[.ref a,.int t,.int m]) (h_1:Bi DX H a bs) (h_2:bs.length<=30) (h_3:t<=1) (h_4:∀l xs H',AQ H H'->FP H' l xs->xs.length<=62->Bd m (DG t bs) xs->Q (.ref l) H'):Rk vs H Q
def N2:Sp:=λvs H Q _=>Rk vs H Q
theorem Np:Ak ["rectangles","at","most","lesser","greater"] ["rectangles","at","most"] (Af s_borders):=Ap
theorem SO:(["rectangle","at"]:List Str).Nodup:=by decide +kernel
theorem Y4(F:Ag K "borders" "borders" s_borders f fd)(mse:mg "set" = none)(mso:mg "sorted" = none):AG P w K mg base AM 1 f fd ["rectangles","at","most"] N2:=by
 refine F.ok Np (λvs H Q E h=>?_) (λcdv A outer s H vs Q E hr h=>?_)
 ·obtain⟨a,bs,t,m,rfl,_⟩:=h;rfl
 obtain⟨a,bs,t,m,rfl,⟨cs,ha,hC⟩,hl,ht,q⟩:=h;refine⟨_,AR (MA (i:=3) Np.nd rfl (Or.inl rfl) (Nc:=["rectangle","at"]) (cap:=[(1,1)]) (g:=CW 0) (te:=BG (GA K) (Ar 0) (Ar 1)) rfl (JW (K:=K) (pv 0))
   (Ek rfl rfl (by decide +kernel) (by decide +kernel) (List.forall_mem_cons.mpr ⟨⟨rfl,rfl⟩,List.forall_mem_nil _⟩) rfl (List.forall_mem_cons.mpr ⟨⟨_,_,rfl,rfl,rfl,rfl,rfl⟩,List.forall_mem_nil _⟩))
   (λ_ _ _ _ _=>A8 (i:=0) SO rfl (Or.inl rfl)) (λ_ _ _ _ _=>pL K (pv 0) (pv 1)))
  (AR (MA (i:=4) Np.nd rfl (Or.inl rfl) (Nc:=["rectangle","at"]) (cap:=[(1,1)]) (g:=CW 0) (te:=BG (GA K) (Ar 0) (BG (GQ λi j=>.int (i+j)) (Ar 1) (tC (.int 2)))) rfl (JW (K:=K) (pv 0))
   (Ek rfl rfl (by decide +kernel) (by decide +kernel) (List.forall_mem_cons.mpr ⟨⟨rfl,rfl⟩,List.forall_mem_nil _⟩) rfl (List.forall_mem_cons.mpr ⟨⟨_,_,rfl,rfl,rfl,rfl,rfl⟩,List.forall_mem_nil _⟩))
   (λ_ _ _ _ _=>A8 (i:=0) SO rfl (Or.inl rfl)) (λ_ _ _ _ _=>pL K (pv 0) (AW BW (pv 1) AF)))
  (AU (AY (BJ (Xo (P:=P) (w:=w) rfl) (by rfl) mso Od (AA (EJ (XE (K:=K) (P:=P) (w:=w) rfl) (by rfl) mse YO (AA (AW DT (AW DT (CU (AA AF (AA (pv 2) AI))) (pv 3)) (pv 4)) AI)) AI))))),?_⟩
 have lc:cs.length=bs.length:=hC.1;refine⟨_,rfl,a,rfl,⟨_,AS.of ha⟩,λl1 h1=>?_⟩;refine Fj (KY ha) (by rw[List.length_map,lc]; omega) h1 (λi ys σ _=>ys=((bs.take i).map (HD t)).map V.int/\∃u,σ=[u,some (.int (t:Int))]) ⟨rfl,none,rfl⟩ ?_ ?_
 ·rintro i ys σ H2 x H3 hi sm hacc2 ⟨hys,u,rfl⟩ ⟨rfl,hx⟩ C hC2;obtain⟨c,b,rfl,_,hy,hB⟩:=hC.ref hx;refine⟨_,rfl,_,rfl,c,_,_,_,rfl,rfl,AS.of (sm _ _ hB),ZR ht b,?_⟩;refine hC2 _ _ _ (AQ.refl _) ⟨?_,_,rfl⟩;rw[hys,EG hy,List.map_append,List.map_append]; rfl
 rintro ys σ H1 s1 g1 _ ⟨hys,_⟩;rw[List.length_map,lc,List.take_length] at hys;subst hys;refine⟨_,rfl,a,rfl,⟨_,AS.of (s1 _ _ ha)⟩,λl2 h2=>?_⟩;refine Fj (KY (s1 _ _ ha)) (by rw[List.length_map,lc]; omega) h2 (λi ys σ _=>ys=((bs.take i).map (Lz t)).map V.int/\∃u,σ=[u,some (.int (t:Int))]) ⟨rfl,none,rfl⟩ ?_ ?_
 ·rintro i ys σ H2 x H3 hi sm hacc2 ⟨hys,u,rfl⟩ ⟨rfl,hx⟩ C hC2;obtain⟨c,b,rfl,_,hy,hB⟩:=hC.ref hx;refine⟨_,rfl,_,rfl,_,_,rfl,rfl,c,_,_,_,rfl,rfl,AS.of (sm _ _ (s1 _ _ hB)),ZN ht b,?_⟩;refine hC2 _ _ _ (AQ.refl _) ⟨?_,_,rfl⟩;rw[hys,EG hy,List.map_append,List.map_append]; rfl
 rintro ys σ H2 s2 g2 _ ⟨hys,_⟩;rw[List.length_map,lc,List.take_length] at hys;subst hys;have g1':=s2 _ _ g1;refine⟨_,rfl,by exact sz2,λl3 h3=>?_⟩;have s3:=Ae h3 (.AN [.int 0,.int m]);have g3:(AK H2 l3 (.AN [.int 0,.int m])) l3=some (.AN [.int 0,.int m]):=AX;generalize AK H2 l3 (.AN [.int 0,.int m])=H3 at s3 g3;refine⟨_,rfl,l3,l1,_,_,rfl,rfl,g3,s3 _ _ g1',by rw[List.length_map,List.length_map]; exact DO (by show 2+bs.length<=_; omega),λl4 h4=>?_⟩;have s4:=Ae h4 (.AN ([.int 0,.int m]++(bs.map (HD t)).map V.int));have g4:(AK H3 l4 (.AN ([.int 0,.int m]++(bs.map (HD t)).map V.int))) l4=some (.AN ([.int 0,.int m]++(bs.map (HD t)).map V.int)):=AX;generalize AK H3 l4 (.AN ([.int 0,.int m]++(bs.map (HD t)).map V.int))=H4 at s4 g4;have s24:=s3.trans s4;refine⟨_,rfl,l4,l2,_,_,rfl,rfl,g4,s24 _ _ g2,by rw[List.length_append,List.length_map,List.length_map,List.length_map,List.length_map]; exact DO (by show 2+bs.length+bs.length<=_; omega),λl5 h5=>?_⟩;have e5:[V.int 0,.int m]++(bs.map (HD t)).map V.int++(bs.map (Lz t)).map V.int=((0:Int) :: m :: DG t bs).map V.int:=by simp[DG]
 rw[e5];have s5:=Ae h5 (.AN (((0:Int) :: m :: DG t bs).map V.int));have g5:(AK H4 l5 (.AN (((0:Int) :: m :: DG t bs).map V.int))) l5=some (.AN (((0:Int) :: m :: DG t bs).map V.int)):=AX;generalize AK H4 l5 (.AN (((0:Int) :: m :: DG t bs).map V.int))=H5 at s5 g5;have ln:((0:Int) :: m :: DG t bs).length=2+2*bs.length:=by simp[DG]; omega
 refine⟨l5,_,rfl,AS.of g5,by rw[ln]; omega,λl6 h6=>?_⟩;have s6:=Ae h6 (GB P w l6 (Bm ((0:Int) :: m :: DG t bs)));have g6:(AK H5 l6 (GB P w l6 (Bm ((0:Int) :: m :: DG t bs)))) l6=some (GB P w l6 (Bm ((0:Int) :: m :: DG t bs))):=AX;generalize AK H5 l6 (GB P w l6 (Bm ((0:Int) :: m :: DG t bs)))=H6 at s6 g6;have la:=Of ((0:Int) :: m :: DG t bs);refine⟨l6,_,rfl,g6,by omega,λl7 ms h7 pm srt=>?_⟩;refine q l7 ms _ ((s1.trans s2).trans ((s24.trans (s5.trans s6)).trans (Ae h7 _))) AX (by have:=pm.length_eq; omega) (Ru (λv=>?_) pm srt);simp only[List.mem_cons]
end
end My
namespace Fl
theorem Fo{xs:List Int}{j:Nat}(h:j<xs.length):xs.getD j 0=xs[j]:=by rw[List.getD_eq_getElem?_getD,List.getElem?_eq_getElem h]; rfl
theorem K8{xs:List Int}(h:xs.Pairwise (· < ·)){i j:Nat}(hj:j<xs.length)(hij:i<j):xs.getD i 0<xs.getD j 0:=by
 rw[Fo hj,Fo (show i<xs.length by omega)];exact List.pairwise_iff_getElem.mp h i j (by omega) hj hij
theorem Hx{xs:List Int}{v:Int}(hv:v∈xs):xs.idxOf v<xs.length/\xs.getD (xs.idxOf v) 0=v:=by
 have hi:=List.idxOf_lt_length_iff.mpr hv;refine⟨hi,?_⟩;rw[Fo hi];exact List.getElem_idxOf hi
theorem K3{xs:List Int}(h:xs.Pairwise (· < ·)){j:Nat}(hj:j+1<xs.length){v:Int}(hv:v∈xs):xs.idxOf v<=j↔v<=xs.getD j 0:=by
 obtain⟨hi,e⟩:=Hx hv;constructor
 ·intro z;rcases Nat.lt_or_ge (xs.idxOf v) j with y | y
  ·have:=K8 h (show j<xs.length by omega) y; omega
  ·obtain y':xs.idxOf v=j:=by omega
   rw[<-y',e]; exact Int.le_refl _
 ·intro z;rcases Nat.lt_or_ge j (xs.idxOf v) with y | y
  ·have:=K8 h hi y; omega
  ·exact y
theorem K7{xs:List Int}(h:xs.Pairwise (· < ·)){j:Nat}(hj:j+1<xs.length){v:Int}(hv:v∈xs):j<xs.idxOf v↔xs.getD (j+1) 0<=v:=by
 obtain⟨hi,e⟩:=Hx hv;constructor
 ·intro z;rcases Nat.lt_or_ge (j+1) (xs.idxOf v) with y | y
  ·have:=K8 h hi y; omega
  ·obtain y':xs.idxOf v=j+1:=by omega
   rw[<-y',e]; exact Int.le_refl _
 ·intro z;rcases Nat.lt_or_ge j (xs.idxOf v) with y | y
  ·exact y
  ·have:=K8 h hj (show xs.idxOf v<j+1 by omega); omega
def Hk(xs ys:List Int)(b:AE)(j k:Nat):Prop:=xs.idxOf b.l<=j/\j<xs.idxOf b.r/\ys.idxOf b.d<=k/\k<ys.idxOf b.u
theorem YD{xs ys:List Int}{bs:List AE}(hx:xs.Pairwise (· < ·))(hy:ys.Pairwise (· < ·))(hb:∀b∈bs,b.l∈xs/\b.r∈xs/\b.d∈ys/\b.u∈ys){j k:Nat}(hj:j+1<xs.length)(hk:k+1<ys.length):
  Dv bs xs ys j k=true↔∃b∈bs,Hk xs ys b j k:=by
 rw[Dv,E8,List.any_eq_true];constructor
 ·rintro⟨b,m,z⟩;obtain⟨h1,h2,h3,h4⟩:=hb b m;simp only[Bool.and_eq_true,decide_eq_true_iff] at z;obtain⟨⟨z1,z2⟩,z3,z4⟩:=z;exact⟨b,m,(K3 hx hj h1).mpr z1,(K7 hx hj h2).mpr z2,(K3 hy hk h3).mpr z3,(K7 hy hk h4).mpr z4⟩
 ·rintro⟨b,m,z1,z2,z3,z4⟩;obtain⟨h1,h2,h3,h4⟩:=hb b m;refine⟨b,m,?_⟩;simp only[Bool.and_eq_true,decide_eq_true_iff];exact⟨⟨(K3 hx hj h1).mp z1,(K7 hx hj h2).mp z2⟩,(K3 hy hk h3).mp z3,(K7 hy hk h4).mp z4⟩
end Fl
namespace My
open PySem L2 Mth Wd Fl
def kC(j k:Nat):List A2:=[.inl (j:Int),.inl (k:Int)]
theorem RB{j k j' k':Nat}:kC j k=kC j' k'↔j=j'/\k=k':=by
 constructor
 ·intro z;injection z with z1 z2
  injection z2 with z2 _
  injection z1 with z1
  injection z2 with z2
  omega
 ·rintro⟨rfl,rfl⟩; rfl
def Fu(kvs:List (List A2×V))(c:Nat->Nat->Prop):Prop:=∀j k,(B6 kvs (kC j k)).isSome=true↔c j k
theorem Uz{kvs:List (List A2×V)}{c:Nat->Nat->Prop}(h:Fu kvs c)(j0 k0:Nat)(v:V):Fu (Dt kvs (kC j0 k0) v) λj k=>c j k\/(j=j0/\k=k0):=by
 intro j k;rw[Wl];by_cases e:kC j k=kC j0 k0
 ·rw[if_pos e];exact⟨λ_=>.inr (RB.mp e),λ_=>rfl⟩
 ·rw[if_neg e,h j k];exact⟨.inl,λz=>z.elim id λy=>absurd (RB.mpr y) e⟩
theorem Fu.of{kvs:List (List A2×V)}{c c':Nat->Nat->Prop}(h:Fu kvs c)(e:∀j k,c j k↔c' j k):Fu kvs c':=λj k=>(h j k).trans (e j k)
section
variable {P:Program} {w:World} {K:PySem.W.Frag} {mg:Str->Option Value} {base:Heap} {f g h C0 f1 f2 f3 f4 f5:Addr} {fd gd hd d1 d2 d3 d4 d5:FuncData}
inductive RR(vs:List V)(H:Hp)(Q:VK):Prop
 | mk (c r a:Addr) (xs ys:List Int) (bs:List AE) (h_0:vs=[.ref c,.ref r,.ref a]) (h_1:FP H c xs) (h_2:FP H r ys) (h_3:Bi DX H a bs) (h_4:bs.length<=30) (h_5:xs.length<=62) (h_6:ys.length<=62) (h_7:(∀b∈bs,b.l∈xs/\b.r∈xs/\b.d∈ys/\b.u∈ys)) (h_8:∀p kvs H',AQ H H'->H' p=some (.dT kvs)->Fu kvs (λj k=>∃b∈bs,Hk xs ys b j k)->Q (.ref p) H'):RR vs H Q
def M6:Sp:=λvs H Q _=>RR vs H Q
theorem JY:Ak ["columns","rows","rectangles","covered","rectangle","column","row"] ["columns","rows","rectangles"] (Af s_covered_cells):=Ap
theorem X3(F:Ag K "covered_cells" "covered_cells" s_covered_cells f fd)(mr:mg "range" = none):AG P w K mg base AM 1 f fd ["columns","rows","rectangles"] M6:=by
 refine F.ok JY (λvs H Q E h=>?_) (λcdv A outer s H vs Q E hr h=>?_)
 ·obtain⟨c,r,a,xs,ys,bs,rfl,_⟩:=h;rfl
 obtain⟨c,r,a,xs,ys,bs,rfl,hc,hrr,⟨cs,ha,hC⟩,hl,lx,ly,hm,q⟩:=h;have hu:=R5 hr;refine⟨_,AR (Ab (i:=3) JY.nd rfl (Or.inl rfl) Vr)
  (AR (DE PassesOwn.never rfl (JW (K:=K) (pv 2)) (A8 (i:=4) JY.nd rfl (Or.inl rfl))
   (AU (DE PassesOwn.never rfl (KI (by rfl) mr
     (AA (HU K PySem.F.plainAttrs_list PySem.F.slot_list_index PySem.F.type_list_index Ka (pv 0) (AA (pL K (pv 4) AF) AI))
      (AA (HU K PySem.F.plainAttrs_list PySem.F.slot_list_index PySem.F.type_list_index Ka (pv 0) (AA (pL K (pv 4) AF) AI)) AI))) (A8 (i:=5) JY.nd rfl (Or.inl rfl))
    (AU (DE PassesOwn.never rfl (KI (by rfl) mr
      (AA (HU K PySem.F.plainAttrs_list PySem.F.slot_list_index PySem.F.type_list_index Ka (pv 1) (AA (pL K (pv 4) AF) AI))
       (AA (HU K PySem.F.plainAttrs_list PySem.F.slot_list_index PySem.F.type_list_index Ka (pv 1) (AA (pL K (pv 4) AF) AI)) AI))) (A8 (i:=6) JY.nd rfl (Or.inl rfl))
     (AU (XF hu (pv 3) (A0 (AA (pv 5) (AA (pv 6) AI))) CA rfl)))))))
  (AU (AY (pv 3)))),?_⟩
 have lc:cs.length=bs.length:=hC.1;refine λD hD=>?_
 have s1:=Ae hD (.dT []);have g1:(AK H D (.dT [])) D=some (.dT []):=AX;generalize AK H D (.dT [])=H1 at s1 g1;refine⟨_,rfl,a,rfl,⟨_,AS.of (s1 _ _ ha)⟩,?_⟩;refine P8 (xs:=cs.map V.ref) (λi σ H2=>AQ H H2/\(∃u4 u5 u6,σ=[some (.ref c),some (.ref r),some (.ref a),some (.ref D),u4,u5,u6])/\∃kvs,H2 D=some (.dT kvs)/\kvs.length<=i*4000/\Fu kvs λj k=>∃b∈bs.take i,Hk xs ys b j k)
  ⟨s1,⟨none,none,none,rfl⟩,[],g1,Nat.zero_le _,λj k=>by simp[B6]⟩ (λi σ H2 _ ⟨s2,_⟩=>AS.of (s2 _ _ ha)) ?_ ?_
 ·rintro i x σ H2 hx ⟨s2,⟨u4,u5,u6,rfl⟩,kvs,hk,nk,ck⟩;obtain⟨cb,b,rfl,_,hy,fb⟩:=hC.ref hx;have bi:i<bs.length:=(List.getElem?_eq_some_iff.mp hy).1;obtain⟨m1,m2,m3,m4⟩:=hm b (List.mem_of_getElem? hy);have i1:=(Hx m1).1;have i2:=(Hx m2).1;have i3:=(Hx m3).1;have i4:=(Hx m4).1;refine⟨_,rfl,.inl ⟨rfl,_,AS.of (s2 _ _ hc)⟩,_,rfl,cb,_,_,_,rfl,rfl,AS.of (s2 _ _ fb),DL,c,xs,_,rfl,rfl,s2 _ _ hc,m1,by omega,?_⟩;refine⟨_,rfl,.inl ⟨rfl,_,AS.of (s2 _ _ hc)⟩,_,rfl,cb,_,_,_,rfl,rfl,AS.of (s2 _ _ fb),DM,c,xs,_,rfl,rfl,s2 _ _ hc,m2,by omega,?_⟩;refine⟨_,_,rfl,by omega,?_⟩;rw[show(((xs.idxOf b.r:Nat):Int)-((xs.idxOf b.l:Nat):Int)).toNat=xs.idxOf b.r-xs.idxOf b.l by omega];refine HI (λn σ H3=>AQ H H3/\(∃u5 u6,σ=[some (.ref c),some (.ref r),some (.ref a),some (.ref D),some (.ref cb),u5,u6])/\∃kvs,H3 D=some (.dT kvs)/\kvs.length<=i*4000+n*62/\Fu kvs λj k=>(∃b∈bs.take i,Hk xs ys b j k)\/(xs.idxOf b.l<=j/\j<xs.idxOf b.l+n/\ys.idxOf b.d<=k/\k<ys.idxOf b.u))
   ⟨s2,⟨u5,u6,rfl⟩,kvs,hk,by omega,ck.of λj k=>⟨.inl,λz=>z.elim id λy=>by omega⟩⟩ ?_ ?_
  ·rintro n σ H3 hn ⟨s3,⟨u5,u6,rfl⟩,kvs,hk,nk,ck⟩;refine⟨_,rfl,.inl ⟨rfl,_,AS.of (s3 _ _ hrr)⟩,_,rfl,cb,_,_,_,rfl,rfl,AS.of (s3 _ _ fb),Cm,r,ys,_,rfl,rfl,s3 _ _ hrr,m3,by omega,?_⟩;refine⟨_,rfl,.inl ⟨rfl,_,AS.of (s3 _ _ hrr)⟩,_,rfl,cb,_,_,_,rfl,rfl,AS.of (s3 _ _ fb),DJ,r,ys,_,rfl,rfl,s3 _ _ hrr,m4,by omega,?_⟩;refine⟨_,_,rfl,by omega,?_⟩;rw[show(((ys.idxOf b.u:Nat):Int)-((ys.idxOf b.d:Nat):Int)).toNat=ys.idxOf b.u-ys.idxOf b.d by omega];refine HI (λt σ H4=>AQ H H4/\(∃u6,σ=[some (.ref c),some (.ref r),some (.ref a),some (.ref D),some (.ref cb),some (.int (((xs.idxOf b.l:Nat):Int)+(n:Int))),u6])/\∃kvs,H4 D=some (.dT kvs)/\kvs.length<=i*4000+n*62+t /\
     Fu kvs λj k=>((∃b∈bs.take i,Hk xs ys b j k)\/(xs.idxOf b.l<=j/\j<xs.idxOf b.l+n/\ys.idxOf b.d<=k/\k<ys.idxOf b.u))\/(j=xs.idxOf b.l+n/\ys.idxOf b.d<=k/\k<ys.idxOf b.d+t))
    ⟨s3,⟨u6,rfl⟩,kvs,hk,by omega,ck.of λj k=>⟨.inl,λz=>z.elim id λy=>by omega⟩⟩ ?_ ?_
   ·rintro t σ H4 ht ⟨s4,⟨u6,rfl⟩,kvs,hk,nk,ck⟩;refine⟨_,rfl,_,rfl,_,rfl,by exact sz2,λtp htp=>?_⟩;have s5:=Ae htp (.AH [.int (((xs.idxOf b.l:Nat):Int)+(n:Int)),.int (((ys.idxOf b.d:Nat):Int)+(t:Int))]);have g5:(AK H4 tp (.AH [.int (((xs.idxOf b.l:Nat):Int)+(n:Int)),.int (((ys.idxOf b.d:Nat):Int)+(t:Int))])) tp=some (.AH ((kC (xs.idxOf b.l+n) (ys.idxOf b.d+t)).map kV)):=AX;generalize AK H4 tp (.AH [.int (((xs.idxOf b.l:Nat):Int)+(n:Int)),.int (((ys.idxOf b.d:Nat):Int)+(t:Int))])=H5 at s5 g5;have hk5:=s5 _ _ hk;refine⟨D,_,rfl,Ji.t hk5 g5 (by rw[sizeLine_eq]; omega),Qo (s4.trans s5) hD _,⟨_,rfl⟩,_,AX,by have:=L7 kvs (kC (xs.idxOf b.l+n) (ys.idxOf b.d+t)) (V.bl true); omega,?_⟩;refine(Uz ck _ _ _).of λj k=>?_
    constructor
    ·rintro((z | z) | z)
     ·exact .inl z
     ·exact .inr (by omega)
     ·exact .inr (by omega)
    ·rintro(z | z)
     ·exact .inl (.inl z)
     ·rcases(show k<ys.idxOf b.d+t\/k=ys.idxOf b.d+t by omega) with y | y
      ·exact .inl (.inr ⟨z.1,z.2.1,y⟩)
      ·exact .inr ⟨z.1,y⟩
   ·rintro σ H4 ⟨s4,⟨u6,rfl⟩,kvs,hk,nk,ck⟩;refine⟨s4,⟨_,_,rfl⟩,kvs,hk,by omega,ck.of λj k=>?_⟩;constructor
    ·rintro((z | z) | z)
     ·exact .inl z
     ·exact .inr (by omega)
     ·exact .inr (by omega)
    ·rintro(z | z)
     ·exact .inl (.inl z)
     ·rcases(show j<xs.idxOf b.l+n\/j=xs.idxOf b.l+n by omega) with y | y
      ·exact .inl (.inr ⟨z.1,y,z.2.2⟩)
      ·exact .inr ⟨y,by omega,by omega⟩
  ·rintro σ H3 ⟨s3,⟨u5,u6,rfl⟩,kvs,hk,nk,ck⟩;refine⟨s3,⟨_,_,_,rfl⟩,kvs,hk,by omega,ck.of λj k=>?_⟩;rw[EG hy];constructor
   ·rintro(⟨b',mb,z⟩ | z)
    ·exact⟨b',List.mem_append_left _ mb,z⟩
    ·exact⟨b,by simp,by unfold Hk; omega⟩
   ·rintro⟨b',mb,z⟩;rcases List.mem_append.mp mb with y | y
    ·exact .inl ⟨b',y,z⟩
    ·rw[List.mem_singleton.mp y] at z;unfold Hk at z;exact .inr (by omega)
 ·rintro σ H2 ⟨s2,⟨u4,u5,u6,rfl⟩,kvs,hk,nk,ck⟩;rw[List.length_map,lc,List.take_length] at ck;exact⟨_,rfl,q D kvs H2 s2 hk ck⟩
end
end My
namespace Fl
theorem Tf{bs:List AE}{xs ys:List Int}{k:Nat}(h:∀j,j<xs.length-1->Dv bs xs ys j k=true):DU bs xs ys k=none:=by
 rw[DU,List.find?_eq_none];intro j hj;rw[h j (List.mem_range.mp hj)]; decide
theorem Td{bs:List AE}{xs ys:List Int}{j k:Nat}(hj:j<xs.length-1)(h:∀j',j' < j->Dv bs xs ys j' k=true)(e:Dv bs xs ys j k=false):DU bs xs ys k=some j:=by
 rw[DU,List.find?_range_eq_some];exact⟨by rw[e]; rfl,List.mem_range.mpr hj,λj' z=>by rw[h j' z]; rfl⟩
theorem U7{bs:List AE}{xs ys:List Int}(h:∀k,k<ys.length-1->DU bs xs ys k=none):DN bs xs ys=none:=by
 rw[DN,List.findSome?_eq_none_iff];intro k hk;rw[h k (List.mem_range.mp hk)]; rfl
theorem VI{bs:List AE}{xs ys:List Int}{j k:Nat}(hk:k<ys.length-1)(h:∀k',k' < k->DU bs xs ys k'=none)(e:DU bs xs ys k=some j):DN bs xs ys=some (Et xs ys j k):=by
 rw[DN,List.findSome?_eq_some_iff];refine⟨List.range k,k,(List.range (ys.length-1)).drop (k+1),?_,by rw[e]; rfl,λx hx=>by rw[h x (List.mem_range.mp hx)]; rfl⟩;have hl:k<(List.range (ys.length-1)).length:=by rw[List.length_range]; exact hk
 have t1:(List.range (ys.length-1)).take k=List.range k:=by rw[List.take_range]; congr 1; omega
 have t2:(List.range (ys.length-1)).drop k=k :: (List.range (ys.length-1)).drop (k+1):=by rw[List.drop_eq_getElem_cons hl,List.getElem_range]
 rw[<-t1,<-t2,List.take_append_drop]
end Fl
namespace My
open PySem L2 Mth Wd Fl
section
variable {P:Program} {w:World} {K:PySem.W.Frag} {mg:Str->Option Value} {base:Heap} {f g h C0 f1 f2 f3 f4 f5:Addr} {fd gd hd d1 d2 d3 d4 d5:FuncData}
def GG(b:AE):List V:=[.int b.l,.int b.d,.int b.r,.int b.u]
inductive Rh(vs:List V)(H:Hp)(Q:VK):Prop
 | mk (m n:Int) (a:Addr) (bs:List AE) (h_0:vs=[.int m,.int n,.ref a]) (h_1:Bi DX H a bs) (h_2:bs.length<=30) (h_3:∀xs ys,Bd m (E5 bs) xs->Bd n (E1 bs) ys->(∀b p H',DN bs xs ys=some b->AQ H H'->H' p=some (.AH (GG b))->Q (.ref p) H')/\(DN bs xs ys=none->∀H',AQ H H'->Q .Ay H')):Rh vs H Q
def NW:Sp:=λvs H Q _=>Rh vs H Q
theorem IY:Ak ["width","height","rectangles","columns","rows","covered","row","column"] ["width","height","rectangles"] (Af s_first_gap):=Ap
theorem ZF (F : Ag K "first_gap" "first_gap" s_first_gap f fd) (G1 : AG P w K mg base AM 1 f1 d1 ["rectangles", "at", "most"] N2) (b1 : AV K d1 ["rectangles", "at", "most"] []) (k1 : KP K f1) (m1 : mg "borders" = some (.ref f1))
    (G2 : AG P w K mg base AM 1 f2 d2 ["columns", "rows", "rectangles"] M6) (b2 : AV K d2 ["columns", "rows", "rectangles"] []) (k2 : KP K f2) (m2 : mg "covered_cells" = some (.ref f2))
    (mr : mg "range" = none) (ml : mg "len" = none) : AG P w K mg base AM 2 f fd ["width", "height", "rectangles"] NW := by
  refine F.ok IY (λvs H Q E h => ?_) (λcdv A outer s H vs Q E hr h => ?_)
  · obtain⟨m, n, a, bs, rfl, _⟩ := h;rfl
  obtain⟨m, n, a, bs, rfl, hA, hl, q⟩ := h;have hu := R5 hr;refine⟨_, AR (Ab (i := 3) IY.nd rfl (Or.inl rfl) (Ad G1 hr (by rfl) m1 k1 b1 .nil AZ (AA (pv 2) (AA AF (AA (pv 0) AI)))))
    (AR (Ab (i := 4) IY.nd rfl (Or.inl rfl) (Ad G1 hr (by rfl) m1 k1 b1 .nil AZ (AA (pv 2) (AA AF (AA (pv 1) AI)))))
    (AR (Ab (i := 5) IY.nd rfl (Or.inl rfl) (Ad G2 hr (by rfl) m2 k2 b2 .nil AZ (AA (pv 3) (AA (pv 4) (AA (pv 2) AI)))))
    (AR (DE PassesOwn.never rfl (KJ (by rfl) mr (AA (AW CI (BJ (Ci (K := K)) (by rfl) ml Cj (AA (pv 4) AI)) AF) AI)) (A8 (i := 6) IY.nd rfl (Or.inl rfl))
      (AU (DE PassesOwn.never rfl (KJ (by rfl) mr (AA (AW CI (BJ (Ci (K := K)) (by rfl) ml Cj (AA (pv 3) AI)) AF) AI)) (A8 (i := 7) IY.nd rfl (Or.inl rfl))
        (AU (A3 (JP (VG hu (A0 (AA (pv 7) (AA (pv 6) AI))) (pv 5)))
          (AU (AY (A0 (AA (pL K (pv 3) (pv 7)) (AA (pL K (pv 4) (pv 6))
            (AA (pL K (pv 3) (AW BW (pv 7) AF)) (AA (pL K (pv 4) (AW BW (pv 6) AF)) AI))))))) A6)))))
    (AU (AY K1))))), ?_⟩
  refine⟨_, rfl, _, rfl, a, bs, 0, m, rfl, hA, hl, Nat.zero_le _, λc xs H1 s1 hc lx bx => ?_⟩;have hA1 := HS (R := DX) (λs h => LC s h) s1 hA;refine⟨_, rfl, _, rfl, a, bs, 1, n, rfl, hA1, hl, Nat.le_refl _, λr ys H2 s2 hrr ly by' => ?_⟩;have hA2 := HS (R := DX) (λs h => LC s h) s2 hA1;rw[ZX] at bx;rw[ZD] at by'
  have hm : ∀b ∈ bs, b.l ∈ xs /\ b.r ∈ xs /\ b.d ∈ ys /\ b.u ∈ ys := λb hb =>
    ⟨(bx.mem _).mpr (.inr (.inr (List.mem_append_left _ (List.mem_map.mpr ⟨b, hb, rfl⟩)))), (bx.mem _).mpr (.inr (.inr (List.mem_append_right _ (List.mem_map.mpr ⟨b, hb, rfl⟩)))),
     (by'.mem _).mpr (.inr (.inr (List.mem_append_left _ (List.mem_map.mpr ⟨b, hb, rfl⟩)))), (by'.mem _).mpr (.inr (.inr (List.mem_append_right _ (List.mem_map.mpr ⟨b, hb, rfl⟩))))⟩
  refine⟨_, rfl, _, rfl, _, rfl, c, r, a, xs, ys, bs, rfl, s2 _ _ hc, hrr, hA2, hl, lx, ly, hm, λD kvs H3 s3 hD ck => ?_⟩;obtain⟨q1, q2⟩ := q xs ys bx by'
  have hc3 : H3 c = some (.AN (xs.map V.int)) := s3 _ _ (s2 _ _ hc);have hr3 : H3 r = some (.AN (ys.map V.int)) := s3 _ _ hrr;have s03 := (s1.trans s2).trans s3;have cv : ∀j k, j < xs.length - 1 → k < ys.length - 1 → (B6 kvs (kC j k)).isSome = Dv bs xs ys j k := λj k hj hk => by
    rw[Bool.eq_iff_iff, ck j k, YD bx.up by'.up hm (by omega) (by omega)]
  refine⟨_, rfl, r, _, rfl, .inl (AS.of hr3), _, _, rfl, rfl, _, rfl, by rw[List.length_map]; omega, by rw[List.length_map]; omega, ?_⟩;rw[List.length_map, show((ys.length : Int) - 1).toNat = ys.length - 1 by omega];refine HI (λk σ H4 => AQ H3 H4 /\ (∃u6 u7, σ = [some (.int m), some (.int n), some (.ref a), some (.ref c), some (.ref r), some (.ref D), u6, u7]) /\ ∀k', k' < k → DU bs xs ys k' = none)
    ⟨AQ.refl _, ⟨none, none, rfl⟩, λk' z => absurd z (Nat.not_lt_zero _)⟩ ?_ ?_
  · rintro k σ H4 hk ⟨s4, ⟨u6, u7, rfl⟩, nk⟩;rw[Int.zero_add];refine⟨_, rfl, c, _, rfl, .inl (AS.of (s4 _ _ hc3)), _, _, rfl, rfl, _, rfl, by rw[List.length_map]; omega, by rw[List.length_map]; omega, ?_⟩;rw[List.length_map, show((xs.length : Int) - 1).toNat = xs.length - 1 by omega];refine HI (λj σ H5 => AQ H3 H5 /\ (∃u7, σ = [some (.int m), some (.int n), some (.ref a), some (.ref c), some (.ref r), some (.ref D), some (.int (k : Int)), u7]) /\ ∀j', j' < j → Dv bs xs ys j' k = true)
      ⟨s4, ⟨u7, rfl⟩, λj' z => absurd z (Nat.not_lt_zero _)⟩ ?_ ?_
    · rintro j σ H5 hj ⟨s5, ⟨u7, rfl⟩, nj⟩;rw[Int.zero_add];refine⟨_, rfl, _, rfl, by exact sz2, λtp htp => ?_⟩;have s6 := Ae htp (.AH [.int (j : Int), .int (k : Int)]);have g6 : (AK H5 tp (.AH [.int (j : Int), .int (k : Int)])) tp = some (.AH ((kC j k).map kV)) := AX;generalize AK H5 tp (.AH [.int (j : Int), .int (k : Int)]) = H6 at s6 g6;have s36 := s5.trans s6;refine⟨_, rfl, D, _, rfl, Jc.t (s36 _ _ hD) g6, _, rfl, ?_⟩;rw[cv j k hj hk];refine Ey (λov => ?_) (λov => ?_)
      · have e : Dv bs xs ys j k = false := by simpa using ov
        refine⟨_, rfl, _, rfl, c, _, _, _, rfl, rfl, AS.of (s36 _ _ hc3), Kf (by omega), _, rfl, _, rfl, r, _, _, _, rfl, rfl, AS.of (s36 _ _ hr3), Kf (by omega), ?_⟩;refine⟨_, rfl, _, rfl, _, _, rfl, rfl, c, _, _, _, rfl, rfl, AS.of (s36 _ _ hc3), Kf (i := j + 1) (by omega), ?_⟩;refine⟨_, rfl, _, rfl, _, _, rfl, rfl, r, _, _, _, rfl, rfl, AS.of (s36 _ _ hr3), Kf (i := k + 1) (by omega), ?_⟩;refine⟨by exact B7, λt ht => ?_⟩;exact q1 (Et xs ys j k) t _ (VI hk nk (Td hj nj e)) ((s03.trans s36).trans (Ae ht _)) AX
      · have e : Dv bs xs ys j k = true := by simpa using ov
        refine⟨s36, ⟨_, rfl⟩, λj' z => ?_⟩;rcases(show j' < j \/ j' = j by omega) with y | rfl
        · exact nj j' y
        · exact e
    · rintro σ H5 ⟨s5, ⟨u7, rfl⟩, nj⟩;refine⟨s5, ⟨_, _, rfl⟩, λk' z => ?_⟩;rcases(show k' < k \/ k' = k by omega) with y | rfl
      · exact nk k' y
      · exact Tf nj
  · rintro σ H4 ⟨s4, ⟨u6, u7, rfl⟩, nk⟩;exact q2 (U7 nk) _ (s03.trans s4)
inductive Cn(m n:Int)(bs:List AE):List V->Prop
 | no (k:Nat) (b:AE):bs[k]?=some b->Cw b=true->(∀k' b',k' < k->bs[k']?=some b'->Cw b'=false)->Cn m n bs [.str "no",.int (k:Int)]
 | out (k:Nat) (b:AE):(∀b∈bs,Cw b=false)->bs[k]?=some b->CY m n b=true->(∀k' b',k' < k->bs[k']?=some b'->CY m n b'=false)->Cn m n bs [.str "out",.int (k:Int)]
 | ov (j k:Nat):(∀b∈bs,Cw b=false)->(∀b∈bs,CY m n b=false)->Fst bs j k->Cn m n bs [.str "overlap",.int (j:Int),.int (k:Int)]
 | Hf (b:AE) (xs ys:List Int):(∀b∈bs,Cw b=false)->(∀b∈bs,CY m n b=false)->CZ bs->Bd m (E5 bs) xs->Bd n (E1 bs) ys->DN bs xs ys=some b->Cn m n bs (.str "gap" :: GG b)
 | E8 (xs ys:List Int):(∀b∈bs,Cw b=false)->(∀b∈bs,CY m n b=false)->CZ bs->Bd m (E5 bs) xs->Bd n (E1 bs) ys->DN bs xs ys=none->Cn m n bs [.str "covers"]
theorem Q4{α:Type}{l:List α}{p:α->Prop}(h:∀(k:Nat) (b:α),k<l.length->l[k]?=some b->p b):∀b∈l,p b:=λb hb=>by
 obtain⟨k,hk,rfl⟩:=List.getElem_of_mem hb;exact h k _ hk (List.getElem?_eq_getElem hk)
inductive R6(vs:List V)(H:Hp)(Q:VK):Prop
 | mk (m n:Int) (a:Addr) (bs:List AE) (h_0:vs=[.int m,.int n,.ref a]) (h_1:Bi DX H a bs) (h_2:bs.length<=30) (h_3:∀ws p H',Cn m n bs ws->AQ H H'->H' p=some (.AH ws)->Q (.ref p) H'):R6 vs H Q
def Nd:Sp:=λvs H Q _=>R6 vs H Q
theorem HZ:Ak ["width","height","rectangles","k","rectangle","pair","gap"] ["width","height","rectangles"] (Af s_looked_whole):=Ap
theorem NU(h:X.K=K:=by rfl):BZ X (binaryOp .Add) (R7 K):=h ▸ XT
theorem ZQ (F:Ag K "looked_whole" "looked_whole" s_looked_whole f fd) (G1:AG P w K mg base AM 1 f1 d1 ["rectangle"] Na) (b1:AV K d1 ["rectangle"] []) (k1:KP K f1) (m1:mg "is_neither" = some (.ref f1))
  (G2:AG P w K mg base AM 1 f2 d2 ["rectangle","width","height"] NG) (b2:AV K d2 ["rectangle","width","height"] []) (k2:KP K f2) (m2:mg "is_out" = some (.ref f2))
  (G3:AG P w K mg base AM 2 f3 d3 ["rectangles"] Nq) (b3:AV K d3 ["rectangles"] []) (k3:KP K f3) (m3:mg "first_overlap" = some (.ref f3))
  (G4:AG P w K mg base AM 2 f4 d4 ["width","height","rectangles"] NW) (b4:AV K d4 ["width","height","rectangles"] []) (k4:KP K f4) (m4:mg "first_gap" = some (.ref f4))
  (me:mg "enumerate" = none):AG P w K mg base AM 3 f fd ["width","height","rectangles"] Nd:=by
 refine F.ok HZ (λvs H Q E h=>?_) (λcdv A outer s H vs Q E hr h=>?_)
 ·obtain⟨m,n,a,bs,rfl,_⟩:=h;rfl
 obtain⟨m,n,a,bs,rfl,hA,hl,q⟩:=h;have r1:A9 1 _:=hr.mono (by decide);refine⟨_,AR (DE PassesOwn.never rfl (KS (by rfl) me (AA (pv 2) AI)) (FQ (n:=2) (K:=K) rfl (Bp (A8 (i:=3) HZ.nd rfl (Or.inl rfl)) (Bp (A8 (i:=4) HZ.nd rfl (Or.inl rfl)) FG)))
   (AU (A3 (DC (Ad G1 r1 (by rfl) m1 k1 b1 .nil AZ (AA (pv 4) AI))) (AU (AY (A0 (AA Bk (AA (pv 3) AI))))) A6)))
  (AR (DE PassesOwn.never rfl (KS (by rfl) me (AA (pv 2) AI)) (FQ (n:=2) (K:=K) rfl (Bp (A8 (i:=3) HZ.nd rfl (Or.inl rfl)) (Bp (A8 (i:=4) HZ.nd rfl (Or.inl rfl)) FG)))
   (AU (A3 (DC (Ad G2 r1 (by rfl) m2 k2 b2 .nil AZ (AA (pv 4) (AA (pv 0) (AA (pv 1) AI))))) (AU (AY (A0 (AA Bk (AA (pv 3) AI))))) A6)))
  (AR (Ab (i:=5) HZ.nd rfl (Or.inl rfl) (Ad G3 hr (by rfl) m3 k3 b3 .nil AZ (AA (pv 2) AI)))
  (AR (A3 (JP (QV (pv 5))) (AU (AY (AW (NU (K:=K)) (A0 (AA Bk AI)) (pv 5)))) A6)
  (AR (Ab (i:=6) HZ.nd rfl (Or.inl rfl) (Ad G4 hr (by rfl) m4 k4 b4 .nil AZ (AA (pv 0) (AA (pv 1) (AA (pv 2) AI)))))
  (AR (A3 (JP (QV (pv 6))) (AU (AY (AW (NU (K:=K)) (A0 (AA Bk AI)) (pv 6)))) A6)
  (AU (AY (A0 (AA Bk AI))))))))),?_⟩
 obtain⟨cs,ha,hC⟩:=id hA;have lc:cs.length=bs.length:=hC.1;refine⟨_,rfl,a,_,rfl,ha,?_⟩;refine KH (xs:=cs.map V.ref) (λi σ H2=>AQ H H2/\(∃u3 u4,σ=[some (.int m),some (.int n),some (.ref a),u3,u4,none,none])/\∀k' b',k' < i->bs[k']?=some b'->Cw b'=false)
  ⟨AQ.refl _,⟨none,none,rfl⟩,λ_ _ z=>absurd z (Nat.not_lt_zero _)⟩ (λi σ H2 _ ⟨s2,_⟩=>s2 _ _ ha) ?_ ?_
 ·rintro i x σ H2 p hx ⟨s2,⟨u3,u4,rfl⟩,no⟩ hp;obtain⟨c,b,rfl,_,hy,fb⟩:=hC.ref hx;have s3:=Ae hp (.AH [.int ((i:Nat):Int),.ref c]);have g3:(AK H2 p (.AH [.int ((i:Nat):Int),.ref c])) p=some (.AH [.int ((i:Nat):Int),.ref c]):=AX;generalize AK H2 p (.AH [.int ((i:Nat):Int),.ref c])=H3 at s3 g3;have s03:=s2.trans s3;refine⟨p,_,rfl,AJ.of g3,rfl,_,_,rfl,_,_,rfl,rfl,?_⟩;refine⟨_,rfl,c,b,rfl,s03 _ _ fb,_,rfl,?_⟩;refine Ey (λe=>?_) (λe=>?_)
  ·refine⟨_,rfl,by exact sz2,λt ht=>?_⟩;exact q _ t _ (.no i b hy e no) (s03.trans (Ae ht _)) AX
  ·refine⟨s03,⟨_,_,rfl⟩,λk' b' z1 z2=>?_⟩;rcases(show k' < i\/k'=i by omega) with y | rfl
   ·exact no k' b' y z2
   ·rw[hy] at z2; cases z2; simpa using e
 rintro σ H1 ⟨s1,⟨u3,u4,rfl⟩,no⟩;rw[List.length_map,lc] at no;have no':∀b∈bs,Cw b=false:=Q4 no;clear no;refine⟨_,rfl,a,_,rfl,s1 _ _ ha,?_⟩;refine KH (xs:=cs.map V.ref) (λi σ H2=>AQ H H2/\(∃u3 u4,σ=[some (.int m),some (.int n),some (.ref a),u3,u4,none,none])/\∀k' b',k' < i->bs[k']?=some b'->CY m n b'=false)
  ⟨s1,⟨u3,u4,rfl⟩,λ_ _ z=>absurd z (Nat.not_lt_zero _)⟩ (λi σ H2 _ ⟨s2,_⟩=>s2 _ _ ha) ?_ ?_
 ·rintro i x σ H2 p hx ⟨s2,⟨u3,u4,rfl⟩,no⟩ hp;obtain⟨c,b,rfl,_,hy,fb⟩:=hC.ref hx;have s3:=Ae hp (.AH [.int ((i:Nat):Int),.ref c]);have g3:(AK H2 p (.AH [.int ((i:Nat):Int),.ref c])) p=some (.AH [.int ((i:Nat):Int),.ref c]):=AX;generalize AK H2 p (.AH [.int ((i:Nat):Int),.ref c])=H3 at s3 g3;have s03:=s2.trans s3;refine⟨p,_,rfl,AJ.of g3,rfl,_,_,rfl,_,_,rfl,rfl,?_⟩;refine⟨_,rfl,_,rfl,_,rfl,c,b,m,n,rfl,s03 _ _ fb,_,rfl,?_⟩;refine Ey (λe=>?_) (λe=>?_)
  ·refine⟨_,rfl,by exact sz2,λt ht=>?_⟩;exact q _ t _ (.out i b no' hy e no) (s03.trans (Ae ht _)) AX
  ·refine⟨s03,⟨_,_,rfl⟩,λk' b' z1 z2=>?_⟩;rcases(show k' < i\/k'=i by omega) with y | rfl
   ·exact no k' b' y z2
   ·rw[hy] at z2; cases z2; simpa using e
 rintro σ H2 ⟨s2,⟨v3,v4,rfl⟩,no⟩;rw[List.length_map,lc] at no;have out':∀b∈bs,CY m n b=false:=Q4 no;clear no;have hA2:=HS (R:=DX) (λs h=>LC s h) s2 hA;refine⟨_,rfl,a,bs,rfl,hA2,by omega,λj k p H3 fst s3 hp=>?_,λnov H3 s3=>?_⟩
 ·refine⟨_,rfl,_,rfl,?_⟩;refine CL ?_;refine⟨by exact sz1,λt ht=>?_⟩;have s4:=Ae ht (.AH [.str "overlap"]);have g4:(AK H3 t (.AH [.str "overlap"])) t=some (.AH [.str "overlap"]):=AX;generalize AK H3 t (.AH [.str "overlap"])=H4 at s4 g4;refine⟨_,rfl,t,p,_,_,rfl,rfl,AJ.of g4,AJ.of (s4 _ _ hp),by simp,by exact EF,(λz=>by cases z),λ_ t2 ht2=>?_⟩;exact q _ t2 _ (.ov j k no' out' fst) (s2.trans (s3.trans (s4.trans (Ae ht2 _)))) AX
 refine⟨_,rfl,_,rfl,?_⟩;refine Bh ?_;have hA3:=HS (R:=DX) (λs h=>LC s h) s3 hA2;refine⟨_,rfl,_,rfl,_,rfl,m,n,a,bs,rfl,hA3,hl,λxs ys bx by'=>⟨λb p H4 gp s4 hp=>?_,λgp H4 s4=>?_⟩⟩
 ·refine⟨_,rfl,_,rfl,?_⟩;refine CL ?_;refine⟨by exact sz1,λt ht=>?_⟩;have s5:=Ae ht (.AH [.str "gap"]);have g5:(AK H4 t (.AH [.str "gap"])) t=some (.AH [.str "gap"]):=AX;generalize AK H4 t (.AH [.str "gap"])=H5 at s5 g5;refine⟨_,rfl,t,p,_,_,rfl,rfl,AJ.of g5,AJ.of (s5 _ _ hp),by simp,by exact L5,(λz=>by cases z),λ_ t2 ht2=>?_⟩;exact q _ t2 _ (.Hf b xs ys no' out' nov bx by' gp) (s2.trans (s3.trans (s4.trans (s5.trans (Ae ht2 _))))) AX
 ·refine⟨_,rfl,_,rfl,?_⟩;refine Bh ?_;refine⟨by exact sz1,λt ht=>?_⟩;exact q _ t _ (.E8 xs ys no' out' nov bx by' gp) (s2.trans (s3.trans (s4.trans (Ae ht _)))) AX
def Jv(r:List Int):AE:=(r.getD 0 0,r.getD 1 0,r.getD 2 0,r.getD 3 0)
theorem XW{r:List Int}(h:r.length=4):r=[(Jv r).l,(Jv r).d,(Jv r).r,(Jv r).u]:=by
 match r,h with
 | [a,b,c,d],_=>rfl
def Ep(B:Int)(rows:List (List Rat)):List AE:=rows.map λr=>Jv (r.map (wh B))
theorem VV{H:Hp}{l:Addr}{B:Int}{rows:List (List Rat)}(four:∀r∈rows,r.length=4)(h:Bi FP H l (rows.map λr=>r.map (wh B))):Bi DX H l (Ep B rows):=by
 obtain⟨cs,h1,h2,h3⟩:=h;refine⟨cs,h1,by rw[h2,Ep,List.length_map,List.length_map],λi c b e1 e2=>?_⟩;rw[Ep,List.getElem?_map] at e2;obtain⟨r,e3,rfl⟩:=Option.map_eq_some_iff.mp e2
 have:=h3 i c (r.map (wh B)) e1 (by rw[List.getElem?_map,e3]; rfl)
 have f4:=XW (r:=r.map (wh B)) (by rw[List.length_map]; exact four r (List.mem_of_getElem? e3));unfold FP at this;rw[f4] at this;exact this
structure FZ(W U:Rat)(rows:List (List Rat)):Prop where
 len:rows.length<=30
 four:∀r∈rows,r.length=4
 sz:∀q∈BK W U rows,q.den<=2 ^ 16/\q.num.natAbs<=2 ^ 64
theorem FZ.Su{W U:Rat}{rows:List (List Rat)}(k:FZ W U rows):(BK W U rows).length<=122:=by
 have:=k.len
 rw[List.length_cons,List.length_cons,M8 k.four]; omega
theorem FZ.cb{W U:Rat}{rows:List (List Rat)}(k:FZ W U rows):0<cb (BK W U rows)/\(∀q∈BK W U rows,(q.den:Int) ∣ cb (BK W U rows))/\(Mth.cb (BK W U rows)).natAbs<=2 ^ 1952:=by
 obtain⟨h1,_,h2,h3⟩:=Rm (BK W U rows) (c:=1) (D:=0) (d:=16) (by decide) (by decide) (λq hq=>(k.sz q hq).1);exact⟨h1,h2,Nat.le_trans h3 (Nat.pow_le_pow_right (by decide) (by have:=k.Su; omega))⟩
theorem FZ.N8{W U:Rat}{rows:List (List Rat)}(k:FZ W U rows):∀q∈BK W U rows,B3 q.num/\B3 (q.den:Int)/\B3 ((Mth.cb (BK W U rows)).fdiv q.den):=λq hq=>by
 obtain⟨h1,h2,h3⟩:=k.cb;obtain⟨s1,s2⟩:=k.sz q hq;refine⟨EX s2 (by decide),EX (n:=16) (by rw[Int.natAbs_natCast]; exact s1) (by decide),EX (n:=1952) (Nat.le_trans ?_ h3) (by decide)⟩;rw[Int.fdiv_eq_ediv_of_dvd (h2 q hq)];exact Int.natAbs_ediv_le_natAbs _ _
def Gq(B:Int)(g:AE):List Rat:=[(g.l:Rat) / (B:Rat),(g.d:Rat) / (B:Rat),(g.r:Rat) / (B:Rat),(g.u:Rat) / (B:Rat)]
inductive RT(vs:List V)(H:Hp)(Q:VK):Prop
 | mk (a:Addr) (W U:Rat) (rows:List (List Rat)) (h_0:vs=[.ref a]) (h_1:BV H a W U rows) (h_2:FZ W U rows) (h_3:(∀ws p H',Cn (wh (cb (BK W U rows)) W) (wh (cb (BK W U rows)) U) (Ep (cb (BK W U rows)) rows) ws->ws.head?≠some (.str "gap")->AQ H H'->H' p=some (.AH ws)->Q (.ref p) H')) (h_4:(∀g p ts H',Cn (wh (cb (BK W U rows)) W) (wh (cb (BK W U rows)) U) (Ep (cb (BK W U rows)) rows) (.str "gap" :: GG g)->AQ H H'->H' p=some (.AH (.str "gap" :: ts.map V.ref))->At Ac H' ts (Gq (cb (BK W U rows)) g)->Q (.ref p) H')):RT vs H Q
def N6:Sp:=λvs H Q _=>RT vs H Q
theorem Lf:Ak ["floor","bottom","whole","found"] ["floor"] (Af s_looked):=Ap
theorem Zk:(["number","bottom"]:List Str).Nodup:=by decide +kernel
theorem Cn.head{m n:Int}{bs:List AE}{ws:List V}(h:Cn m n bs ws):(∃s t,ws=.str s :: t/\s≠"gap")\/∃g,ws=.str "gap" :: GG g:=by
 cases h with
 | no=>exact .inl ⟨_,_,rfl,by decide⟩
 | out=>exact .inl ⟨_,_,rfl,by decide⟩
 | ov=>exact .inl ⟨_,_,rfl,by decide⟩
 | Hf b=>exact .inr ⟨b,rfl⟩
 | E8=>exact .inl ⟨_,_,rfl,by decide⟩
theorem hd0(x:V)(t:List V):BN (x :: t) 0=some x:=Al (j:=0) rfl
theorem ZT:HT.Ao 5 0 (some 1)=1:=by simp[HT.Ao]
theorem VJ (F:Ag K "looked" "looked" s_looked f fd) (G1:AG P w K mg base AM 1 f1 d1 ["floor"] Mp) (b1:AV K d1 ["floor"] []) (k1:KP K f1) (m1:mg "numbers_of" = some (.ref f1))
  (G2:AG P w K mg base AM 2 f2 d2 ["top","bottom"] (LJ C0)) (b2:AV K d2 ["top","bottom"] []) (k2:KP K f2) (m2:mg "fraction" = some (.ref f2))
  (G3:AG P w K mg base AM 2 f3 d3 ["row"] M4) (b3:AV K d3 ["row"] []) (k3:KP K f3) (m3:mg "common_bottom" = some (.ref f3))
  (G4:AG P w K mg base AM 3 f4 d4 ["width","height","rectangles"] Nd) (b4:AV K d4 ["width","height","rectangles"] []) (k4:KP K f4) (m4:mg "looked_whole" = some (.ref f4))
  (G5:AG P w K mg base AM 2 f5 d5 ["floor","bottom"] N0) (b5:AV K d5 ["floor","bottom"] []) (k5:KP K f5) (m5:mg "whole_floor" = some (.ref f5)) (mt:mg "tuple" = none) :
  AG P w K mg base AM 4 f fd ["floor"] N6:=by
 refine F.ok Lf (λvs H Q E h=>?_) (λcdv A outer s H vs Q E hr h=>?_)
 ·obtain⟨a,W,U,rows,rfl,_⟩:=h;rfl
 obtain⟨a,W,U,rows,rfl,hF,k,q1,q2⟩:=h;have r1:=hr.mono (show 1<=3 by decide);have r2:=hr.mono (show 2<=3 by decide);refine⟨_,AR (Ab (i:=1) Lf.nd rfl (Or.inr rfl) (Ad G3 r2 (by rfl) m3 k3 b3 .nil AZ (AA (Ad G1 r1 (by rfl) m1 k1 b1 .nil AZ (AA (pv 0) AI)) AI)))
  (AR (Ab (i:=2) Lf.nd rfl (Or.inl rfl) (Ad G5 r2 (by rfl) m5 k5 b5 .nil AZ (AA (pv 0) (AA (pv 1) AI))))
  (AR (Ab (i:=3) Lf.nd rfl (Or.inl rfl) (Ad G4 hr (by rfl) m4 k4 b4 .nil AZ (AA (pT K (pv 2) AF) (AA (pT K (pv 2) AF) (AA (pT K (pv 2) AF) AI)))))
  (AR (A3 (Aw CQ (pT K (pv 3) AF) Bk (Ai _))
   (AU (AY (AW (NU (K:=K)) (A0 (AA Bk AI)) (EJ (Qd (K:=K)) (by rfl) mt Hr (AA (Ht (Nc:=["number","bottom"]) (cap:=[(1,1)]) (g:=CW 0) (te:=Es (LJ C0) [] E0 (Ax (Ar 0) (Ax (Ar 1) BH))) rfl (NI (K:=K) (EK (bJ (K:=K)) (pv 3) (D4 AF) Ej))
    (Ek rfl rfl (by decide +kernel) (by decide +kernel) (List.forall_mem_cons.mpr ⟨⟨rfl,rfl⟩,List.forall_mem_nil _⟩) rfl (List.forall_mem_cons.mpr ⟨⟨_,_,rfl,rfl,rfl,rfl,rfl⟩,List.forall_mem_nil _⟩))
    (λ_ _ _ _ _=>A8 (i:=0) Zk rfl (Or.inl rfl)) (λ_ _ _ _ _=>Ad (CX:=AM) G2 r2 (by rfl) m2 k2 b2 .nil AZ (AA (pv 0) (AA (pv 1) AI)))) AI))))) A6)
  (AU (AY (pv 3)))))),?_⟩
 have l40:=k.len;refine⟨_,rfl,a,W,U,rows,rfl,hF,by omega,k.four,λpn H1 s1 hN=>⟨pn,_,16,rfl,hN,λy hy=>(k.sz y hy).1,by have:=k.Su; omega,?_⟩⟩;refine⟨_,rfl,_,rfl,a,_,W,U,rows,rfl,BO s1 hF,by omega,k.four,k.N8,λpw l H2 s2 hw hL=>?_⟩;have hB:=VV k.four hL;obtain⟨B0,_,BL⟩:=k.cb;generalize cb (BK W U rows)=B at *;have Bb:B3 B:=EX BL (by decide);have Bn:B≠0:=by omega
 refine⟨_,rfl,pw,_,_,_,rfl,rfl,AJ.of hw,EY _ _ _,_,rfl,pw,_,_,_,rfl,rfl,AJ.of hw,E3 _ _ _,_,rfl,pw,_,_,_,rfl,rfl,AJ.of hw,B5 _ _ _,?_⟩;refine⟨_,_,l,_,rfl,hB,by rw[Ep,List.length_map]; exact l40,λws p H3 lk s3 hp=>?_⟩;have s03:=(s1.trans s2).trans s3;rcases lk.head with ⟨z,t,rfl,ne⟩ | ⟨g,rfl⟩
 ·refine⟨_,rfl,p,_,_,_,rfl,rfl,AJ.of hp,hd0 _ _,rfl,_,rfl,BU (λe=>ne (V.str.inj e)) ?_⟩;exact⟨_,rfl,q1 _ p _ lk (λe=>ne (by injection e with e; injection e)) s03 hp⟩
 refine⟨_,rfl,p,_,_,_,rfl,rfl,AJ.of hp,hd0 _ _,rfl,_,rfl,BQ rfl ?_⟩;refine⟨by exact sz1,λt ht=>?_⟩;have s4:=Ae ht (.AH [.str "gap"]);have g4:(AK H3 t (.AH [.str "gap"])) t=some (.AH [.str "gap"]):=AX;generalize AK H3 t (.AH [.str "gap"])=H4 at s4 g4;refine⟨_,rfl,1,rfl,p,_,rfl,AJ.of (s4 _ _ hp),λz=>?_,λp1 hp1=>?_⟩
 ·have:=z.1
  rw[show(V.str "gap" :: GG g).length=5 from rfl,ZT] at this;cases this
 rw[show Bv (V.str "gap" :: GG g) (some 1) none=[g.l,g.d,g.r,g.u].map V.int by rw[show(some (1:Int))=some ((1:Nat):Int) from rfl,Ir _ (by show 1<=5; decide)]; rfl];have s5:=Ae hp1 (.AH ([g.l,g.d,g.r,g.u].map V.int));have g5:(AK H4 p1 (.AH ([g.l,g.d,g.r,g.u].map V.int))) p1=some (.AH ([g.l,g.d,g.r,g.u].map V.int)):=AX;generalize AK H4 p1 (.AH ([g.l,g.d,g.r,g.u].map V.int))=H5 at s5 g5;refine⟨p1,rfl,⟨_,AJ.of g5⟩,λacc hacc=>?_⟩;refine Fj (JC g5) (by show 4<=1000; decide) hacc (λi ys σ hp=>∃ds:List Addr,ys=ds.map V.ref/\At Ac hp ds ((Gq B g).take i)/\∃u,σ=[u,some (.int B)]) ⟨[],rfl,At.nil,none,rfl⟩ ?_ ?_
 ·rintro i ys σ H6 x H7 hi sm hac6 ⟨ds,rfl,hD,u,rfl⟩ ⟨rfl,hx⟩ Cc hC;obtain⟨e,rfl,he⟩:=Qm hx;have eg:(Gq B g)[i]?=some ((e:Rat) / (B:Rat)):=by
   have:Gq B g=[g.l,g.d,g.r,g.u].map λe:Int=>(e:Rat) / (B:Rat):=rfl
   rw[this,List.getElem?_map,he]; rfl
  refine⟨_,rfl,_,rfl,e,B,rfl,Bb,λz=>absurd z Bn,λ_ p5 hp5=>?_⟩;have s8:=Ae hp5 (.AH [.int (BB e B).1,.int (BB e B).2]);have g8:Ac (AK H7 p5 (.AH [.int (BB e B).1,.int (BB e B).2])) p5 ((e:Rat) / (B:Rat)):=by
   rw[Iu e B Bn]; exact AX
  have ne:p5≠acc:=λz=>by rw[z,hac6] at hp5; cases hp5
  refine hC _ _ _ s8 ⟨ds++[p5],by simp,?_,_,rfl⟩;rw[EG eg];exact(hD.keep ET (HJ acc s8)).snoc (Fp g8 ne)
 rintro ys σ2 H6 s6 hac6 _ ⟨ds,rfl,hD,u,rfl⟩;have ld:ds.length=4:=hD.1;rw[show(Gq B g).take ([g.l,g.d,g.r,g.u].map V.int).length=Gq B g from rfl] at hD;refine⟨acc,_,rfl,.inl ⟨AS.of hac6,λp7 hp7=>?_⟩⟩;have s7:=Ae hp7 (.AH (ds.map V.ref));have g7:(AK H6 p7 (.AH (ds.map V.ref))) p7=some (.AH (ds.map V.ref)):=AX;generalize AK H6 p7 (.AH (ds.map V.ref))=H7 at s7 g7;have s47:=(s5.trans s6).trans s7;refine⟨t,p7,_,_,rfl,rfl,AJ.of (s47 _ _ g4),AJ.of g7,by simp,by rw[List.length_map,ld]; show 5<=sizeLine; decide,(λz=>by rw[List.map_eq_nil_iff] at z; rw[z] at ld; cases ld),λ_ p8 hp8=>?_⟩;refine q2 g p8 ds _ lk (s03.trans (s4.trans (s47.trans (Ae hp8 _)))) AX ?_;exact((hD.keep ET (HL H6 acc)).keep ET s7).keep ET (Ae hp8 _)
def Cr(q:Rat):PyData:=.tuple [.int q.num,.int (q.den:Int)]
theorem Ky(q:Rat):(Cr q).canLay0=true:=by
 simp only[Cr,PyData.canLay0];refine El λd hd=>?_
 simp only[List.mem_cons,List.not_mem_nil,or_false] at hd;rcases hd with rfl | rfl <;> rfl
theorem Km(q:Rat):(Cr q).depth<=2:=by simp[Cr,PyData.depth,PyData.depthAll]
theorem JV{H:Hp}{p:Addr}{q:Rat}(h:Ac H p q):BX H (.ref p) (Cr q):=by
 refine .AH h rfl λi x d e1 e2=>?_
 match i,e1,e2 with
 | 0,e1,e2=>cases e1; cases e2; exact .int _
 | 1,e1,e2=>cases e1; cases e2; exact .int _
 | n+2,e1,e2=>simp at e1
def covD:PyData:=.tuple [.str "covers"]
theorem Iy:covD.canLay0=true:=by first | rfl | decide +kernel | (simp only[covD,PyData.canLay0,PyData.canLayAll0]; decide)
theorem KL:covD.depth<=64:=by first | decide | (simp[covD,PyData.depth,PyData.depthAll])
theorem K0{H:Hp}{p:Addr}(h:H p=some (.AH [.str "covers"])):BX H (.ref p) covD:=by
 refine .AH h rfl λi x d e1 e2=>?_
 match i,e1,e2 with
 | 0,e1,e2=>cases e1; cases e2; exact .str _
 | n+1,e1,e2=>simp at e1
def Gw(qs:List Rat):PyData:=.tuple (.str "gap" :: qs.map Cr)
theorem V6(qs:List Rat):(Gw qs).canLay0=true:=by
 simp only[Gw,PyData.canLay0];refine El λd hd=>?_
 rcases List.mem_cons.mp hd with rfl | hd
 ·first | rfl | decide +kernel | (simp only[PyData.canLay0]; decide)
 ·obtain⟨q,_,rfl⟩:=List.mem_map.mp hd; exact Ky q
theorem Uo(qs:List Rat):(Gw qs).depth<=64:=by
 have:=FF (n:=2) (ds:=.str "gap" :: qs.map Cr) λd hd=>by
  rcases List.mem_cons.mp hd with rfl | hd
  ·simp[PyData.depth]
  ·obtain⟨q,_,rfl⟩:=List.mem_map.mp hd; exact Km q
 simp only[Gw,PyData.depth]; omega
theorem YX{H:Hp}{p:Addr}{ts:List Addr}{qs:List Rat}(h:H p=some (.AH (.str "gap" :: ts.map V.ref)))(hT:At Ac H ts qs):BX H (.ref p) (Gw qs):=by
 refine .AH h (by simp[hT.1]) λi x d e1 e2=>?_
 cases i with
 | zero=>cases e1; cases e2; exact .str _
 | succ i =>
  rw[List.getElem?_cons_succ,List.getElem?_map] at e1 e2;obtain⟨c,ec,rfl⟩:=Option.map_eq_some_iff.mp e1;obtain⟨y,ey,rfl⟩:=Option.map_eq_some_iff.mp e2;exact JV (hT.2 i c y ec ey)
theorem YE(qs:List Rat)(h:0<qs.length):PyData.eqv (Gw qs) covD=false:=by
 match qs,h with
 | q :: r,_=>simp[Gw,covD,PyData.eqv,PyData.eqvAll]
open PySem.Spec PyProof.Rows in
theorem Y2:PyData.eqv covD covD=true:=SeqAt.eqv_refl _ Iy
def Gh(s:Str)(is:List Int):PyData:=.tuple (.str s :: is.map PyData.int)
theorem V1{s:Str}(h:PyData.canLay0 (.str s)=true)(is:List Int):(Gh s is).canLay0=true:=by
 simp only[Gh,PyData.canLay0];refine El λd hd=>?_
 rcases List.mem_cons.mp hd with rfl | hd
 ·exact h
 ·obtain⟨q,_,rfl⟩:=List.mem_map.mp hd; rfl
theorem VM(s:Str)(is:List Int):(Gh s is).depth<=64:=by
 have:=FF (n:=2) (ds:=.str s :: is.map PyData.int) λd hd=>by
  rcases List.mem_cons.mp hd with rfl | hd
  ·simp[PyData.depth]
  ·obtain⟨q,_,rfl⟩:=List.mem_map.mp hd; simp[PyData.depth]
 simp only[Gh,PyData.depth]; omega
theorem Wt{H:Hp}{p:Addr}{s:Str}{is:List Int}(h:H p=some (.AH (.str s :: is.map V.int))):BX H (.ref p) (Gh s is):=by
 refine .AH h (by simp) λi x d e1 e2=>?_
 cases i with
 | zero=>cases e1; cases e2; exact .str _
 | succ i =>
  rw[List.getElem?_cons_succ,List.getElem?_map] at e1 e2;obtain⟨c,ec,rfl⟩:=Option.map_eq_some_iff.mp e1;obtain⟨y,ey,rfl⟩:=Option.map_eq_some_iff.mp e2;rw[ec] at ey;obtain rfl:=Option.some.inj ey;exact .int _
theorem Xu(s:Str)(is:List Int)(h:0<is.length):PyData.eqv (Gh s is) covD=false:=by
 match is,h with
 | q :: r,_=>simp[Gh,covD,PyData.eqv,PyData.eqvAll]
theorem Cn.aU{m n:Int}{bs:List AE}{ws:List V}(h:Cn m n bs ws):ws=[.str "covers"]\/(∃(s:Str) (is:List Int),ws=.str s :: is.map V.int/\0<is.length/\s≠"gap"/\PyData.canLay0 (.str s)=true)\/∃g,ws=.str "gap" :: GG g:=by
 cases h with
 | no k=>exact .inr (.inl ⟨"no",[(k:Int)],rfl,Nat.succ_pos _,by decide,by first | rfl | decide +kernel | (simp only[PyData.canLay0]; decide)⟩)
 | out k=>exact .inr (.inl ⟨"out",[(k:Int)],rfl,Nat.succ_pos _,by decide,by first | rfl | decide +kernel | (simp only[PyData.canLay0]; decide)⟩)
 | ov j k=>exact .inr (.inl ⟨"overlap",[(j:Int),(k:Int)],rfl,Nat.succ_pos _,by decide,by first | rfl | decide +kernel | (simp only[PyData.canLay0]; decide)⟩)
 | Hf b=>exact .inr (.inr ⟨b,rfl⟩)
 | E8=>exact .inl rfl
def Nu:Sp:=λvs H Q _=>∃(a:Addr) (W U:Rat) (rows:List (List Rat)),vs=[.ref a]/\BV H a W U rows/\FZ W U rows /\
 ∀ws H',Cn (wh (cb (BK W U rows)) W) (wh (cb (BK W U rows)) U) (Ep (cb (BK W U rows)) rows) ws->AQ H H'->Q (.bl (decide (ws.length=1))) H'
theorem Z0:Ak ["floor"] ["floor"] (Af s_covers):=Ap
theorem VE(F:Ag K "covers" "covers" s_covers f fd)(G:AG P w K mg base AM 4 g gd ["floor"] N6)(bG:AV K gd ["floor"] [])(kG:KP K g)(mG:mg "looked" = some (.ref g)):AG P w K mg base AM 5 f fd ["floor"] Nu:=by
 refine F.ok Z0 (λvs H Q E h=>?_) (λcdv A outer s H vs Q E hr h=>?_)
 ·obtain⟨a,W,U,rows,rfl,_⟩:=h;rfl
 obtain⟨a,W,U,rows,rfl,hF,k,q⟩:=h;refine⟨_,AU (AY (Bq (JL hr.units) (Ad G hr (by rfl) mG kG bG .nil AZ (AA (pv 0) AI)) (A0 (AA Bk AI)) (Ai _))),?_⟩;refine⟨_,rfl,a,W,U,rows,rfl,hF,k,λws p H1 lk ng s1 hp=>?_,λgb p ts H1 lk s1 hp hT=>?_⟩
 ·refine⟨by exact sz1,λc hc=>?_⟩;have s2:=Ae hc (.AH [.str "covers"]);have hc2:AK H1 c (.AH [.str "covers"]) c=some (.AH [.str "covers"]):=AX;generalize AK H1 c (.AH [.str "covers"])=H2 at s2 hc2;rcases lk.aU with rfl | ⟨z,is,rfl,n,_,l⟩ | ⟨b,rfl⟩
  ·refine⟨covD,covD,K0 (s2 _ _ hp),K0 hc2,⟨Iy,KL⟩,⟨Iy,KL⟩,?_⟩;rw[Y2];exact q _ _ lk (s1.trans s2)
  ·refine⟨Gh z is,covD,Wt (s2 _ _ hp),K0 hc2,⟨V1 l is,VM z is⟩,⟨Iy,KL⟩,?_⟩;rw[Xu z is n]
   have:=q _ _ lk (s1.trans s2)
   rwa [decide_eq_false (by rw[List.length_cons,List.length_map]; omega)] at this
  ·exact(ng rfl).elim
 ·refine⟨by exact sz1,λc hc=>?_⟩;have s2:=Ae hc (.AH [.str "covers"]);have hc2:AK H1 c (.AH [.str "covers"]) c=some (.AH [.str "covers"]):=AX;generalize AK H1 c (.AH [.str "covers"])=H2 at s2 hc2;refine⟨Gw (Gq _ gb),covD,YX (s2 _ _ hp) (hT.keep (λs x=>s _ _ x) s2),K0 hc2,⟨V6 _,Uo _⟩,⟨Iy,KL⟩,?_⟩;rw[YE (Gq _ gb) (by show 0<4; decide)]
  have:=q _ _ lk (s1.trans s2)
  rwa [decide_eq_false (by simp[GG])] at this
def Dc(r:List Rat):PyData:=.tuple (r.map Cr)
def EO(W U:Rat)(rows:List (List Rat)):PyData:=.tuple [Cr W,Cr U,.tuple (rows.map Dc)]
theorem Qg(r:List Rat):(Dc r).canLay0=true:=by
 simp only[Dc,PyData.canLay0];refine El λd hd=>?_
 obtain⟨q,_,rfl⟩:=List.mem_map.mp hd; exact Ky q
theorem Oi(W U:Rat)(rows:List (List Rat)):(EO W U rows).canLay0=true:=by
 simp only[EO,PyData.canLay0];refine El λd hd=>?_
 simp only[List.mem_cons,List.not_mem_nil,or_false] at hd;rcases hd with rfl | rfl | rfl
 ·exact Ky W
 ·exact Ky U
 ·simp only[PyData.canLay0];refine El λd hd=>?_
  obtain⟨q,_,rfl⟩:=List.mem_map.mp hd; exact Qg q
theorem Pc(r:List Rat):(Dc r).depth<=3:=by
 have:=FF (n:=2) (ds:=r.map Cr) λd hd=>by obtain⟨q,_,rfl⟩:=List.mem_map.mp hd; exact Km q
 simp only[Dc,PyData.depth]; omega
theorem Ut(rows:List (List Rat)):(PyData.tuple (rows.map Dc)).depth<=4:=by
 have:=FF (n:=3) (ds:=rows.map Dc) λd hd=>by obtain⟨q,_,rfl⟩:=List.mem_map.mp hd; exact Pc q
 simp only[PyData.depth]; omega
theorem UD(W U:Rat)(rows:List (List Rat)):(EO W U rows).depth<=64:=by
 have:=FF (n:=4) (ds:=[Cr W,Cr U,.tuple (rows.map Dc)]) λd hd=>by
  simp only[List.mem_cons,List.not_mem_nil,or_false] at hd;rcases hd with rfl | rfl | rfl
  ·have:=Km W; omega
  ·have:=Km U; omega
  ·exact Ut rows
 simp only[EO,PyData.depth]; omega
theorem M5{α:Type}{R:Hp->Addr->α->Prop}{D:α->PyData}(hR:∀{H p x},R H p x->BX H (.ref p) (D x)){H:Hp}{p:Addr}{xs:List α}(h:A7 R H p xs):BX H (.ref p) (.tuple (xs.map D)):=by
 obtain⟨cs,hp,hC⟩:=h;refine .AH hp (by rw[List.length_map,List.length_map,hC.1]) λi x d e1 e2=>?_
 rw[List.getElem?_map] at e1 e2;obtain⟨c,ec,rfl⟩:=Option.map_eq_some_iff.mp e1;obtain⟨y,ey,rfl⟩:=Option.map_eq_some_iff.mp e2;exact hR (hC.2 i c y ec ey)
theorem Dh{H:Hp}{a:Addr}{W U:Rat}{rows:List (List Rat)}(h:BV H a W U rows):BX H (.ref a) (EO W U rows):=by
 obtain⟨p,q,r,ha,fW,fU,fR⟩:=h;refine .AH ha rfl λi x d e1 e2=>?_
 match i,e1,e2 with
 | 0,e1,e2=>cases e1; cases e2; exact JV fW
 | 1,e1,e2=>cases e1; cases e2; exact JV fU
 | 2,e1,e2=>cases e1; cases e2; exact M5 (R:=A7 Ac) (D:=Dc) (λh=>M5 (R:=Ac) (D:=Cr) (λh=>JV h) h) fR
 | n+3,e1,e2=>simp at e1
open PySem.Spec PyProof.Rows in
theorem JH(W U:Rat)(rows:List (List Rat)):PyData.eqv (EO W U rows) (EO W U rows)=true:=SeqAt.eqv_refl _ (Oi W U rows)
theorem Ds(W U:Rat)(rows:List (List Rat)):(EO W U rows).canLay0=true/\(EO W U rows).depth<=64:=⟨Oi W U rows,UD W U rows⟩
end
end My
namespace My
open PySem L2 Mth Wd
abbrev Nr(H:Hp)(Q:VK)(q:Rat):Prop:=∀p,H p=none->Q (.ref p) (AK H p (.AH [.int q.num,.int q.den]))
abbrev Sf(q:Rat):Prop:=Sb 3900 3900 q
theorem Sf.n{q:Rat}(h:Sf q):B3 q.num:=EX h.1 (by decide)
theorem Sf.d{q:Rat}(h:Sf q):B3 (q.den:Int):=EX (n:=3900) (by simpa using h.2) (by decide)
theorem E2{H:Hp}{p:Addr}{r:List Rat}(h:A7 Ac H p r)(n:r.length=4):∃(c0 c1 c2 c3:Addr) (x0 x1 x2 x3:Rat),r=[x0,x1,x2,x3]/\H p=some (.AH [.ref c0,.ref c1,.ref c2,.ref c3])/\Ac H c0 x0/\Ac H c1 x1/\Ac H c2 x2/\Ac H c3 x3:=by
 obtain⟨cs,hp,hC⟩:=h;have lc:cs.length=4:=by rw[hC.1,n]
 match r,n,cs,lc with
 | [x0,x1,x2,x3],_,[c0,c1,c2,c3],_=>exact⟨c0,c1,c2,c3,x0,x1,x2,x3,rfl,hp,hC.2 0 _ _ rfl rfl,hC.2 1 _ _ rfl rfl,hC.2 2 _ _ rfl rfl,hC.2 3 _ _ rfl rfl⟩
end My
namespace L2
open PySem PySem.Spec PyProof.Rows My
section
variable {X:Cx}
theorem Ly{H:Hp}{b:Addr}{q:Rat}(h:Ac H b q):BX H (.ref b) (Ff q):=by
 refine .AH h rfl λi x d e1 e2=>?_
 match i with
 | 0=>obtain rfl:=Option.some.inj e1; obtain rfl:=Option.some.inj e2; exact .int _
 | 1=>obtain rfl:=Option.some.inj e1; obtain rfl:=Option.some.inj e2; exact .int _
 | i+2=>simp at e1
theorem VH(q:Rat):SeqAt.shaped (Ff q)=true:=by
 simp[SeqAt.shaped,Ff,PyData.canLay0,PyData.canLayAll0,PyData.depth,PyData.depthAll]
theorem Lr(q:Rat):(Ff q).canLay0=true/\(Ff q).depth<=64:=by
 have s:=VH q;unfold SeqAt.shaped at s;rw[Bool.and_eq_true] at s;exact⟨s.1,of_decide_eq_true s.2⟩
def Zl:R2:=λx y H Q=>∃(p q:Addr) (a b:Rat),x=.ref p/\y=.ref q/\Ac H p a/\Ac H q b/\Q (.bl (decide (a=b))) H
def Z1:R2:=λx y H Q=>∃(p q:Addr) (a b:Rat),x=.ref p/\y=.ref q/\Ac H p a/\Ac H q b/\Q (.bl (!decide (a=b))) H
theorem Hv(hu:X.A.units+64<cLine):BZ X (compareOp .Eq) Zl:=by
 intro pins s σ H x y v u Q I rx ry h;obtain⟨p,q,a,b,rfl,rfl,hp,hq,k⟩:=h;refine JL hu pins s σ H _ _ v u Q I rx ry ⟨_,_,Ly hp,Ly hq,Lr a,Lr b,?_⟩;rw[Mm]; exact k
theorem Gb(hu:X.A.units+64<cLine):BZ X (compareOp .NotEq) Z1:=by
 intro pins s σ H x y v u Q I rx ry h;obtain⟨p,q,a,b,rfl,rfl,hp,hq,k⟩:=h;refine Ge hu pins s σ H _ _ v u Q I rx ry ⟨_,_,Ly hp,Ly hq,Lr a,Lr b,?_⟩;rw[Mm]; exact k
end
end L2
namespace My
open PySem L2 Mth Wd Fl
section
variable {P:Program} {w:World} {K:PySem.W.Frag} {mg:Str->Option Value} {base:Heap} {f g h f1 f2 f3:Addr} {fd gd hd d1 d2 d3:FuncData}
inductive QY(vs:List V)(H:Hp)(Q:VK):Prop
 | mk (p q:Addr) (x y:Rat) (h_0:vs=[.ref p,.ref q]) (h_1:Ac H p x) (h_2:Ac H q y) (h_3:Sf x) (h_4:Sf y) (h_5:Q (.bl (decide (x<y))) H):QY vs H Q
def IC:Sp:=λvs H Q _=>QY vs H Q
theorem aJ:Ak ["one","other"] ["one","other"] (Af sLess):=Ap
theorem W3(F:Ag K "less" "less" sLess f fd):AG P w K mg base AM 1 f fd ["one","other"] IC:=by
 refine F.ok aJ (λvs H Q E h=>?_) (λcdv A outer s H vs Q E hr h=>?_)
 ·obtain⟨p,q,x,y,rfl,_⟩:=h;rfl
 obtain⟨p,q,x,y,rfl,hp,hq,sx,sy,k⟩:=h;refine⟨_,AU (AY (Bq D7 (AW JD (pT K (pv 0) AF) (pT K (pv 1) AF)) (AW JD (pT K (pv 1) AF) (pT K (pv 0) AF)) (Ai _))),?_⟩;rw[show decide (x<y)=decide (x.num*(y.den:Int)<y.num*(x.den:Int)) from decide_eq_decide.mpr (Rat.lt_iff x y)] at k;exact⟨_,rfl,p,_,_,_,rfl,rfl,AJ.of hp,C8,_,rfl,q,_,_,_,rfl,rfl,AJ.of hq,Cf,_,_,rfl,rfl,⟨sx.n,sy.d⟩,_,rfl,q,_,_,_,rfl,rfl,AJ.of hq,C8,_,rfl,p,_,_,_,rfl,rfl,AJ.of hp,Cf,_,_,rfl,rfl,⟨sy.n,sx.d⟩,_,_,rfl,rfl,k⟩
theorem Zt:Ak ["count","j","k"] ["count","j","k"] (Af s_is_pair):=Ap
def IM(r:List Rat)(x l rr:Rat):Bool:=(decide (r.getD 1 0=x) || decide (r.getD 3 0=x)) && (!decide (r.getD 2 0<l) && !decide (rr<r.getD 0 0))
inductive Q5(vs:List V)(H:Hp)(Q:VK):Prop
 | mk (p a b c:Addr) (r:List Rat) (x l rr:Rat) (h_0:vs=[.ref p,.ref a,.ref b,.ref c]) (h_1:A7 Ac H p r) (h_2:r.length=4) (h_3:(∀y∈r,Sf y)) (h_4:Ac H a x) (h_5:Ac H b l) (h_6:Ac H c rr) (h_7:Sf l) (h_8:Sf rr) (h_9:Q (.bl (IM r x l rr)) H):Q5 vs H Q
def NJ:Sp:=λvs H Q _=>Q5 vs H Q
theorem aC:Ak ["rectangle","level","left","right"] ["rectangle","level","left","right"] (Af s_touches):=Ap
theorem Tv(F:Ag K "touches" "touches" s_touches f fd)(G:AG P w K mg base AM 1 g gd ["one","other"] IC)(bG:AV K gd ["one","other"] [])(kG:KP K g)(mG:mg "less" = some (.ref g)):AG P w K mg base AM 2 f fd ["rectangle","level","left","right"] NJ:=by
 refine F.ok aC (λvs H Q E h=>?_) (λcdv A outer s H vs Q E hr h=>?_)
 ·obtain⟨p,a,b,c,r,x,l,rr,rfl,_⟩:=h;rfl
 obtain⟨p,a,b,c,r,x,l,rr,rfl,hp,n4,sf,hx,hl,hr',sl,sr,q⟩:=h;obtain⟨c0,c1,c2,c3,x0,x1,x2,x3,rfl,hp,h0,h1,h2,h3⟩:=E2 hp n4;refine⟨_,AR (A3 (PW.pt (En (Aw (Gb hr.units) (pT K (pv 0) AF) (pv 1) (Ai _)) (GX (Aw (Gb hr.units) (pT K (pv 0) AF) (pv 1) (Ai _))))) (AU (AY CA)) A6)
  (AU (AY (FL (Q7 (Ad G hr (by rfl) mG kG bG .nil AZ (AA (pT K (pv 0) AF) (AA (pv 2) AI)))) (EM (Q7 (Ad G hr (by rfl) mG kG bG .nil AZ (AA (pv 3) (AA (pT K (pv 0) AF) AI)))))))),?_⟩
 have e:IM [x0,x1,x2,x3] x l rr=((decide (x1=x) || decide (x3=x)) && (!decide (x2<l) && !decide (rr<x0))):=rfl;rw[e] at q;have fin:(decide (x1=x) || decide (x3=x))=true->FU (NB (M9 (Es IC [] E0 (Ax (BG (Ew K) (Ar 0) (tC (.int 2))) (Ax (Ar 2) BH)))) (M9 (Es IC [] E0 (Ax (Ar 3) (Ax (BG (Ew K) (Ar 0) (tC (.int 0))) BH))))) { nx:=λ_ H'=>Q .Ay H',rt:=Q } [some (.ref p),some (.ref a),some (.ref b),some (.ref c)] H:=λz=>by
  rw[z,Bool.true_and] at q;refine⟨_,rfl,p,_,_,_,rfl,rfl,AJ.of hp,DM,_,rfl,c2,b,x2,l,rfl,h2,hl,sf _ (by simp),sl,_,rfl,_,rfl,?_⟩;cases y:decide (x2<l) with
  | true=>rw[y] at q; exact Bh q
  | false =>
   rw[y,Bool.not_false,Bool.true_and] at q;refine CL ?_;exact⟨_,rfl,_,rfl,p,_,_,_,rfl,rfl,AJ.of hp,DL,c,c0,rr,x0,rfl,hr',h0,sr,sf _ (by simp),_,rfl,q⟩
 refine⟨_,rfl,p,_,_,_,rfl,rfl,AJ.of hp,Cm,_,rfl,c1,a,x1,x,rfl,rfl,h1,hx,_,rfl,?_⟩;by_cases z1:x1=x
 ·refine CJ z1 ?_;exact fin (by rw[decide_eq_true z1]; rfl)
 refine CV z1 ?_;refine⟨_,rfl,p,_,_,_,rfl,rfl,AJ.of hp,DJ,_,rfl,c3,a,x3,x,rfl,rfl,h3,hx,_,rfl,?_⟩;by_cases z3:x3=x
 ·refine CJ z3 ?_;exact fin (by rw[decide_eq_true z3,Bool.or_true])
 refine CV z3 ?_;rw[decide_eq_false z1,decide_eq_false z3,Bool.or_false,Bool.false_and] at q;exact q
def Js(r s:List Rat):Option Rat:=if r.getD 1 0=s.getD 3 0 then some (r.getD 1 0) else if s.getD 1 0=r.getD 3 0 then some (s.getD 1 0) else none
def Dn(rows:List (List Rat))(j k:Nat)(x l rr:Rat)(n:Nat):Bool:=decide (n=j) || (decide (n=k) || !IM (rows.getD n []) x l rr)
def Bg(rows:List (List Rat))(j k:Nat):Bool:=match Js (rows.getD j []) (rows.getD k []) with
 | none=>false
 | some x=>(decide ((rows.getD j []).getD 0 0=(rows.getD k []).getD 0 0) && decide ((rows.getD j []).getD 2 0=(rows.getD k []).getD 2 0)) && (List.range rows.length).all (Dn rows j k x ((rows.getD j []).getD 0 0) ((rows.getD j []).getD 2 0))
def BE(rows:List (List Rat))(j k:Nat):Bool:=(decide ((rows.getD j []).getD 1 0=(rows.getD k []).getD 1 0) && decide ((rows.getD j []).getD 3 0=(rows.getD k []).getD 3 0)) && (decide ((rows.getD j []).getD 2 0=(rows.getD k []).getD 0 0) || decide ((rows.getD k []).getD 2 0=(rows.getD j []).getD 0 0))
structure D8(rows:List (List Rat)):Prop where
 n:rows.length<=30
 four:∀r∈rows,r.length=4
 sf:∀r∈rows,∀y∈r,Sf y
theorem B8{rows:List (List Rat)}{j:Nat}(h:j<rows.length):rows[j]?=some (rows.getD j []):=by
 rw[List.getElem?_eq_getElem h]; simp[h]
inductive Rr(vs:List V)(H:Hp)(Q:VK):Prop
 | mk (p q:Addr) (r s:List Rat) (h_0:vs=[.ref p,.ref q]) (h_1:A7 Ac H p r) (h_2:A7 Ac H q s) (h_3:r.length=4) (h_4:s.length=4) (h_5:(∀a x,Js r s=some x->Ac H a x->(x∈r\/x∈s)->Q (.ref a) H)) (h_6:(Js r s=none->Q .Ay H)):Rr vs H Q
def Nf:Sp:=λvs H Q _=>Rr vs H Q
theorem ai:Ak ["one","other"] ["one","other"] (Af s_common_level):=Ap
theorem WI(F:Ag K "common_level" "common_level" s_common_level f fd):AG P w K mg base AM 1 f fd ["one","other"] Nf:=by
 refine F.ok ai (λvs H Q E h=>?_) (λcdv A outer s H vs Q E hr h=>?_)
 ·obtain⟨p,q,r,s,rfl,_⟩:=h;rfl
 obtain⟨p,q,r,s,rfl,hp,hq,n4,m4,qy,qn⟩:=h;obtain⟨c0,c1,c2,c3,x0,x1,x2,x3,rfl,hp,h0,h1,h2,h3⟩:=E2 hp n4;obtain⟨e0,e1,e2,e3,y0,y1,y2,y3,rfl,hq,g0,g1,g2,g3⟩:=E2 hq m4;refine⟨_,AR (A3 (Aw (Hv hr.units) (pT K (pv 0) AF) (pT K (pv 1) AF) (Ai _)) (AU (AY (pT K (pv 0) AF))) A6)
  (AR (A3 (Aw (Hv hr.units) (pT K (pv 1) AF) (pT K (pv 0) AF) (Ai _)) (AU (AY (pT K (pv 1) AF))) A6)
  (AU (AY K1))),?_⟩
 have e:Js [x0,x1,x2,x3] [y0,y1,y2,y3]=if x1=y3 then some x1 else if y1=x3 then some y1 else none:=rfl
 rw[e] at qy qn;refine⟨_,rfl,p,_,_,_,rfl,rfl,AJ.of hp,Cm,_,rfl,q,_,_,_,rfl,rfl,AJ.of hq,DJ,c1,e3,x1,y3,rfl,rfl,h1,g3,_,rfl,?_⟩;by_cases z1:x1=y3
 ·refine BQ z1 ?_;rw[if_pos z1] at qy;exact⟨_,rfl,p,_,_,_,rfl,rfl,AJ.of hp,Cm,qy c1 x1 rfl h1 (.inl (by simp))⟩
 refine BU z1 ?_;rw[if_neg z1] at qy qn;refine⟨_,rfl,q,_,_,_,rfl,rfl,AJ.of hq,Cm,_,rfl,p,_,_,_,rfl,rfl,AJ.of hp,DJ,e1,c3,y1,x3,rfl,rfl,g1,h3,_,rfl,?_⟩;by_cases z2:y1=x3
 ·refine BQ z2 ?_;rw[if_pos z2] at qy;exact⟨_,rfl,q,_,_,_,rfl,rfl,AJ.of hq,Cm,qy e1 y1 rfl g1 (.inr (by simp))⟩
 refine BU z2 ?_;rw[if_neg z2] at qn;exact qn rfl
inductive QJ(t:List (List Rat)->Nat->Nat->Bool)(vs:List V)(H:Hp)(Q:VK):Prop
 | mk (p:Addr) (rows:List (List Rat)) (j k:Nat) (h_0:vs=[.ref p,.int (j:Int),.int (k:Int)]) (h_1:A7 (A7 Ac) H p rows) (h_2:D8 rows) (h_3:j<rows.length) (h_4:k<rows.length) (h_5:∀H',AQ H H'->Q (.bl (t rows j k)) H'):QJ t vs H Q
def IE(t:List (List Rat)->Nat->Nat->Bool):Sp:=λvs H Q _=>QJ t vs H Q
theorem IX:Ak ["rectangles","j","k","one","other"] ["rectangles","j","k"] (Af s_is_beside):=Ap
theorem UZ(F:Ag K "is_beside" "is_beside" s_is_beside f fd):AG P w K mg base AM 1 f fd ["rectangles","j","k"] (IE BE):=by
 refine F.ok IX (λvs H Q E h=>?_) (λcdv A outer s H vs Q E hr h=>?_)
 ·obtain⟨p,rows,j,k,rfl,_⟩:=h;rfl
 obtain⟨p,rows,j,k,rfl,⟨cs,hp,hC⟩,rk,hj,hk,q⟩:=h;have q:=q H (AQ.refl _);obtain⟨a,ea,ha⟩:=hC.get (B8 hj);obtain⟨b,eb,hb⟩:=hC.get (B8 hk);have n4:=rk.four _ (List.mem_of_getElem? (B8 hj));have m4:=rk.four _ (List.mem_of_getElem? (B8 hk));unfold BE at q;generalize rows.getD j []=r at ha n4 q;generalize rows.getD k []=t at hb m4 q;obtain⟨c0,c1,c2,c3,x0,x1,x2,x3,rfl,ha,h0,h1,h2,h3⟩:=E2 ha n4;obtain⟨e0,e1,e2,e3,y0,y1,y2,y3,rfl,hb,g0,g1,g2,g3⟩:=E2 hb m4;refine⟨_,AR (Ab (i:=3) IX.nd rfl (Or.inl rfl) (pT K (pv 0) (pv 1)))
  (AR (Ab (i:=4) IX.nd rfl (Or.inl rfl) (pT K (pv 0) (pv 2)))
  (AR (A3 (PW.pt (D9 (Aw (Gb hr.units) (pT K (pv 3) AF) (pT K (pv 4) AF) (Ai _)) (Gf (Aw (Gb hr.units) (pT K (pv 3) AF) (pT K (pv 4) AF) (Ai _))))) (AU (AY CA)) A6)
  (AU (AY (II (Bq (Hv hr.units) (pT K (pv 3) AF) (pT K (pv 4) AF) (Ai _)) (EM (Bq (Hv hr.units) (pT K (pv 4) AF) (pT K (pv 3) AF) (Ai _)))))))),?_⟩
 refine⟨_,rfl,_,rfl,p,_,_,_,rfl,rfl,AJ.of hp,Al (BA ea),?_⟩;refine⟨_,rfl,_,rfl,p,_,_,_,rfl,rfl,AJ.of hp,Al (BA eb),?_⟩;refine⟨_,rfl,a,_,_,_,rfl,rfl,AJ.of ha,Cm,_,rfl,b,_,_,_,rfl,rfl,AJ.of hb,Cm,c1,e1,x1,y1,rfl,rfl,h1,g1,_,rfl,?_⟩;have q':Q (.bl ((decide (x1=y1) && decide (x3=y3)) && (decide (x2=y0) || decide (y2=x0)))) H:=q;by_cases z1:x1=y1
 case neg =>
  refine CV z1 ?_;rw[decide_eq_false z1,Bool.false_and,Bool.false_and] at q';exact q'
 refine CJ z1 ?_;refine⟨_,rfl,a,_,_,_,rfl,rfl,AJ.of ha,DJ,_,rfl,b,_,_,_,rfl,rfl,AJ.of hb,DJ,c3,e3,x3,y3,rfl,rfl,h3,g3,_,rfl,?_⟩;by_cases z3:x3=y3
 case neg =>
  refine CV z3 ?_;rw[decide_eq_false z3,Bool.and_false,Bool.false_and] at q';exact q'
 refine CJ z3 ?_;rw[decide_eq_true z1,decide_eq_true z3,Bool.true_and,Bool.true_and] at q';refine⟨_,rfl,a,_,_,_,rfl,rfl,AJ.of ha,DM,_,rfl,b,_,_,_,rfl,rfl,AJ.of hb,DL,c2,e0,x2,y0,rfl,rfl,h2,g0,_,rfl,?_⟩;by_cases z2:x2=y0
 ·refine BQ z2 ?_;rw[decide_eq_true z2,Bool.true_or] at q';exact q'
 refine BU z2 ?_;rw[decide_eq_false z2,Bool.false_or] at q';exact⟨_,rfl,b,_,_,_,rfl,rfl,AJ.of hb,DM,_,rfl,a,_,_,_,rfl,rfl,AJ.of ha,DL,e2,c0,y2,x0,rfl,rfl,g2,h0,q'⟩
theorem IV:Ak ["rectangles","j","k","left","right","level","number","third"] ["rectangles","j","k"] (Af s_is_above):=Ap
theorem WR (F:Ag K "is_above" "is_above" s_is_above f fd) (G1:AG P w K mg base AM 1 f1 d1 ["one","other"] Nf) (b1:AV K d1 ["one","other"] []) (k1:KP K f1) (m1:mg "common_level" = some (.ref f1))
  (G2:AG P w K mg base AM 2 f2 d2 ["rectangle","level","left","right"] NJ) (b2:AV K d2 ["rectangle","level","left","right"] []) (k2:KP K f2) (m2:mg "touches" = some (.ref f2)) (me:mg "enumerate" = none) :
  AG P w K mg base AM 3 f fd ["rectangles","j","k"] (IE Bg):=by
 refine F.ok IV (λvs H Q E h=>?_) (λcdv A outer s H vs Q E hr h=>?_)
 ·obtain⟨p,rows,j,k,rfl,_⟩:=h;rfl
 obtain⟨p,rows,j,k,rfl,⟨cs,hp,hC⟩,rk,hj,hk,q⟩:=h;have hr1:=hr.mono (show 1<=2 by decide);have lc:cs.length=rows.length:=hC.1;obtain⟨a,ea,ha0⟩:=hC.get (B8 hj);obtain⟨b,eb,hb0⟩:=hC.get (B8 hk);have n4:=rk.four _ (List.mem_of_getElem? (B8 hj));have m4:=rk.four _ (List.mem_of_getElem? (B8 hk));have sfj:=rk.sf _ (List.mem_of_getElem? (B8 hj));unfold Bg at q;generalize rows.getD j []=r at ha0 n4 q sfj;generalize rows.getD k []=t at hb0 m4 q;obtain⟨c0,c1,c2,c3,x0,x1,x2,x3,rfl,ha,h0,h1,h2,h3⟩:=E2 ha0 n4;obtain⟨e0,e1,e2,e3,y0,y1,y2,y3,rfl,hb,g0,g1,g2,g3⟩:=E2 hb0 m4;refine⟨_,AR (Ab (i:=3) IV.nd rfl (Or.inl rfl) (pT K (pT K (pv 0) (pv 1)) AF))
  (AR (Ab (i:=4) IV.nd rfl (Or.inl rfl) (pT K (pT K (pv 0) (pv 1)) AF))
  (AR (Ab (i:=5) IV.nd rfl (Or.inl rfl) (Ad G1 hr1 (by rfl) m1 k1 b1 .nil AZ (AA (pT K (pv 0) (pv 1)) (AA (pT K (pv 0) (pv 2)) AI))))
  (AR (A3 (PW.pt (D9 (JP (Q9 (pv 5))) (D9 (Aw (Gb hr.units) (pv 3) (pT K (pT K (pv 0) (pv 2)) AF) (Ai _)) (Gf (Aw (Gb hr.units) (pv 4) (pT K (pT K (pv 0) (pv 2)) AF) (Ai _)))))) (AU (AY CA)) A6)
  (AR (DE PassesOwn.never rfl (XY (by rfl) me (AA (pv 0) AI)) (FQ (n:=2) (K:=K) rfl (Bp (A8 (i:=6) IV.nd rfl (Or.inl rfl)) (Bp (A8 (i:=7) IV.nd rfl (Or.inl rfl)) FG)))
   (AU (A3 (PW.pt (En (Aw ER (pv 6) (pv 1) (Ai _)) (En (Aw ER (pv 6) (pv 2) (Ai _)) (GX (DC (Ad G2 hr (by rfl) m2 k2 b2 .nil AZ (AA (pv 7) (AA (pv 5) (AA (pv 3) (AA (pv 4) AI)))))))))) (AU (AY CA)) A6)))
  (AU (AY CA)))))),?_⟩
 refine⟨_,rfl,_,rfl,p,_,_,_,rfl,rfl,AJ.of hp,Al (BA ea),a,_,_,_,rfl,rfl,AJ.of ha,DL,?_⟩;refine⟨_,rfl,_,rfl,p,_,_,_,rfl,rfl,AJ.of hp,Al (BA ea),a,_,_,_,rfl,rfl,AJ.of ha,DM,?_⟩;refine⟨_,rfl,_,rfl,p,_,_,_,rfl,rfl,AJ.of hp,Al (BA ea),_,rfl,_,rfl,p,_,_,_,rfl,rfl,AJ.of hp,Al (BA eb),a,b,_,_,rfl,ha0,hb0,rfl,rfl,λlv x hx hlv hm=>?_,λhx=>?_⟩;rotate_left
 ·rw[hx] at q;refine⟨_,rfl,_,rfl,BQ rfl ?_⟩;exact q H (AQ.refl _)
 rw[hx] at q;refine⟨_,rfl,_,rfl,BU (by intro z; cases z) ?_⟩;have q':∀H',AQ H H'->Q (.bl ((decide (x0=y0) && decide (x2=y2)) && (List.range rows.length).all (Dn rows j k x x0 x2))) H':=q;refine⟨_,rfl,_,rfl,_,rfl,p,_,_,_,rfl,rfl,AJ.of hp,Al (BA eb),b,_,_,_,rfl,rfl,AJ.of hb,DL,c0,e0,x0,y0,rfl,rfl,h0,g0,_,rfl,?_⟩;by_cases z0:x0=y0
 case neg =>
  refine CV z0 ?_;have q2:=q' H (AQ.refl _);rw[decide_eq_false z0,Bool.false_and,Bool.false_and] at q2;exact q2
 refine CJ z0 ?_;refine⟨_,rfl,_,rfl,_,rfl,p,_,_,_,rfl,rfl,AJ.of hp,Al (BA eb),b,_,_,_,rfl,rfl,AJ.of hb,DM,c2,e2,x2,y2,rfl,rfl,h2,g2,_,rfl,?_⟩;by_cases z2:x2=y2
 case neg =>
  refine CV z2 ?_;have q2:=q' H (AQ.refl _);rw[decide_eq_false z2,Bool.and_false,Bool.false_and] at q2;exact q2
 refine CJ z2 ?_;have q3:∀H',AQ H H'->Q (.bl ((List.range rows.length).all (Dn rows j k x x0 x2))) H':=λH' s=>by
  have q2:=q' H' s;rw[decide_eq_true z0,decide_eq_true z2,Bool.true_and,Bool.true_and] at q2;exact q2
 have lm:(cs.map V.ref).length=rows.length:=by rw[List.length_map,lc]
 refine⟨_,rfl,p,_,rfl,hp,?_⟩;refine V2 (λi σ H2=>AQ H H2/\(List.range i).all (Dn rows j k x x0 x2)=true/\∃u6 u7,σ=[some (.ref p),some (.int (j:Int)),some (.int (k:Int)),some (.ref c0),some (.ref c2),some (.ref lv),u6,u7]) ⟨AQ.refl _,rfl,none,none,rfl⟩ (λi σ H2 _ z=>z.1 _ _ hp) ?_ ?_
 ·rintro i v σ H2 pe hi ⟨s2,al,u6,u7,rfl⟩ hpe;have s3:=Ae hpe (.AH [.int (i:Int),v]);have gpe:AK H2 pe (.AH [.int (i:Int),v]) pe=some (.AH [.int (i:Int),v]):=AX;generalize AK H2 pe (.AH [.int (i:Int),v])=H3 at s3 gpe;have s03:=s2.trans s3;obtain⟨c,rw',rfl,hc,hrow,hR⟩:=hC.ref hi;have il:i<rows.length:=(List.getElem?_eq_some_iff.mp hrow).1;obtain rfl:rw'=rows.getD i []:=by
   have:=B8 il
   rw[hrow] at this;exact Option.some.inj this
  refine⟨pe,_,rfl,AJ.of gpe,rfl,_,_,rfl,_,_,rfl,rfl,?_⟩;have nxt:Dn rows j k x x0 x2 i=true->(List.range (i+1)).all (Dn rows j k x x0 x2)=true:=λz=>by
   rw[List.range_succ,List.all_append,al,Bool.true_and,List.all_cons,z]; rfl
  refine⟨_,rfl,_,rfl,rfl,_,rfl,?_⟩;by_cases zj:i=j
  ·refine CJ (by rw[zj]) ?_;exact⟨s03,nxt (by unfold Dn; rw[decide_eq_true zj]; rfl),_,_,rfl⟩
  refine CV (λz=>zj (by have:=V.int.inj z; omega)) ?_;refine⟨_,rfl,_,rfl,rfl,_,rfl,?_⟩;by_cases zk:i=k
  ·refine CJ (by rw[zk]) ?_;exact⟨s03,nxt (by unfold Dn; rw[decide_eq_true zk,Bool.true_or,Bool.or_true]),_,_,rfl⟩
  refine CV (λz=>zk (by have:=V.int.inj z; omega)) ?_;have et:Dn rows j k x x0 x2 i=!IM (rows.getD i []) x x0 x2:=by
   unfold Dn; rw[decide_eq_false zj,decide_eq_false zk,Bool.false_or,Bool.false_or]
  refine⟨_,rfl,_,rfl,_,rfl,_,rfl,c,lv,c0,c2,_,x,x0,x2,rfl,BI s03 hR,rk.four _ (List.mem_of_getElem? hrow),rk.sf _ (List.mem_of_getElem? hrow),s03 _ _ hlv,s03 _ _ h0,s03 _ _ h2,sfj _ (by simp),sfj _ (by simp),_,rfl,?_⟩;cases y:IM (rows.getD i []) x x0 x2 with
  | false =>
   refine Bh ?_;exact⟨s03,nxt (by rw[et,y]; rfl),_,_,rfl⟩
  | true =>
   refine CL ?_;have q4:=q3 H3 s03;have fl:(List.range rows.length).all (Dn rows j k x x0 x2)=false:=by
    rw[Bool.eq_false_iff];intro z
    have:=List.all_eq_true.mp z i (List.mem_range.mpr il)
    rw[et,y] at this;cases this
   rw[fl] at q4;exact q4
 ·rintro σ H2 ⟨s2,al,u6,u7,rfl⟩;rw[lm] at al;have q4:=q3 H2 s2;rw[al] at q4;exact q4
theorem aZ:¬(("one":Str)="other"):=by decide +kernel
def Cd(j k:Int):List (Str×V):=CT "other" (.int k) (CT "one" (.int j) [])
theorem Ef(j k:Int):(Cd j k).lookup ("one":Str)=some (.int j):=by
 unfold Cd;rw[EH,if_neg aZ,EH,if_pos rfl]
theorem Ee(j k:Int):(Cd j k).lookup ("other":Str)=some (.int k):=by
 unfold Cd;rw[EH,if_pos rfl]
theorem QI(j k:Int){m:Str}(h1:¬m="other")(h2:¬m="one"):(Cd j k).lookup m=none:=by
 unfold Cd;rw[EH,if_neg h1,EH,if_neg h2]
 all_goals rfl
theorem Ec{j k:Int}{m:Str}(h1:¬m="other":=by decide +kernel)(h2:¬m="one":=by decide +kernel):(Cd j k).lookup m=none:=QI _ _ h1 h2
structure StC(K:PySem.W.Frag)(C:Addr):Prop where
 cl:Bw K C
 n1:FH K C "one"
 n2:FH K C "other"
variable {C:Addr}
inductive QU(K:PySem.W.Frag)(vs:List V)(H:Hp)(Q:VK):Prop
 | mk (p C dx:Addr) (j k:Int) (h_0:vs=[.ref p,.int j,.int k]) (h_1:StC K C) (h_2:H p=some (.Az C dx [])) (h_3:∀H',H' p=some (.Az C dx (Cd j k))->Bl p H H'->Q .Ay H'):QU K vs H Q
def Hy(K:PySem.W.Frag):Sp:=λvs H Q _=>QU K vs H Q
theorem Zs:Ak ["self","one","other"] ["self","one","other"] (Af sInit):=Ap
theorem W2(F:Ag K "__init__" "Step.__init__" sInit f fd):AG P w K mg base AM 1 f fd ["self","one","other"] (Hy K):=by
 refine F.ok Zs (λvs H Q E h=>?_) (λcdv A outer s H vs Q E hr h=>?_)
 ·obtain⟨p,C,dx,j,k,rfl,_⟩:=h;rfl
 obtain⟨p,C,dx,j,k,rfl,T,hp,q⟩:=h;refine⟨_,AR (K9 (pv 0) (pv 1) rfl) (AU (K9 (pv 0) (pv 2) rfl)),?_⟩;refine⟨_,rfl,_,rfl,p,C,dx,[],rfl,hp,T.cl,T.n1,(by show 0<1000; decide),?_⟩;refine⟨_,rfl,_,rfl,p,C,dx,_,rfl,AX,T.cl,T.n2,(by show 1<1000; decide),?_⟩;exact q _ AX ((Bl.refl p H).put _ |>.put _)
inductive QO(C:Addr)(wd:Str)(vs:List V)(H:Hp)(Q:VK):Prop
 | mk (p dx:Addr) (j k:Int) (h_0:vs=[.ref p]) (h_1:H p=some (.Az C dx (Cd j k))) (h_2:∀t,H t=none->Q (.ref t) (AK H t (.AH [.str wd,.int j,.int k]))):QO C wd vs H Q
def Dp(C:Addr)(wd:Str):Sp:=λvs H Q _=>QO C wd vs H Q
theorem Zi:Ak ["self"] ["self"] (Af sToldA):=Ap
theorem aQ:Ak ["self"] ["self"] (Af sToldB):=Ap
theorem WX(F:Ag K "told" "Above.told" sToldA f fd)(T:StC K C):AG P w K mg base AM 1 f fd ["self"] (Dp C "above"):=by
 refine F.ok Zi (λvs H Q E h=>?_) (λcdv A outer s H vs Q E hr h=>?_)
 ·obtain⟨p,dx,j,k,rfl,_⟩:=h;rfl
 obtain⟨p,dx,j,k,rfl,hp,q⟩:=h;refine⟨_,AU (AY (A0 (AA Bk (AA (BM (pv 0) rfl) (AA (BM (pv 0) rfl) AI))))),?_⟩;exact⟨_,rfl,p,C,dx,_,_,rfl,hp,T.cl,T.n1,Ef _ _,_,rfl,p,C,dx,_,_,rfl,hp,T.cl,T.n2,Ee _ _,by exact EF,q⟩
theorem Vt(F:Ag K "told" "Beside.told" sToldB f fd)(T:StC K C):AG P w K mg base AM 1 f fd ["self"] (Dp C "beside"):=by
 refine F.ok aQ (λvs H Q E h=>?_) (λcdv A outer s H vs Q E hr h=>?_)
 ·obtain⟨p,dx,j,k,rfl,_⟩:=h;rfl
 obtain⟨p,dx,j,k,rfl,hp,q⟩:=h;refine⟨_,AU (AY (A0 (AA Bk (AA (BM (pv 0) rfl) (AA (BM (pv 0) rfl) AI))))),?_⟩;exact⟨_,rfl,p,C,dx,_,_,rfl,hp,T.cl,T.n1,Ef _ _,_,rfl,p,C,dx,_,_,rfl,hp,T.cl,T.n2,Ee _ _,by exact EF,q⟩
theorem Sl:Ak ["self","floor","rectangles"] ["self","floor"] (Af sFitsA):=Ap
theorem Sj:Ak ["self","floor","rectangles"] ["self","floor"] (Af sFitsB):=Ap
def Fb(x y:Rat):Rat:=if y<x then y else x
def Fg(x y:Rat):Rat:=if y<x then x else y
def Gp(r s:List Rat):List Rat:=[Fb (r.getD 0 0) (s.getD 0 0),Fb (r.getD 1 0) (s.getD 1 0),Fg (r.getD 2 0) (s.getD 2 0),Fg (r.getD 3 0) (s.getD 3 0)]
abbrev GI(rows:List (List Rat))(j k:Nat):List (List Rat):=DS Gp [] rows j k
variable {f4 f5 C1 C2:Addr} {d4 d5:FuncData}
def ND:Sp:=λvs H Q _=>∃(p q:Addr) (x y:Rat),vs=[.ref p,.ref q]/\Ac H p x/\Ac H q y/\Sf x/\Sf y/\∀t a b,H t=none->Ac H a (Fb x y)->Ac H b (Fg x y)->Q (.ref t) (AK H t (.AH [.ref a,.ref b]))
theorem Zx:Ak ["one","other"] ["one","other"] (Af s_rising):=Ap
theorem Uu(F:Ag K "rising" "rising" s_rising f fd)(G:AG P w K mg base AM 1 g gd ["one","other"] IC)(bG:AV K gd ["one","other"] [])(kG:KP K g)(mG:mg "less" = some (.ref g)):AG P w K mg base AM 2 f fd ["one","other"] ND:=by
 refine F.ok Zx (λvs H Q E h=>?_) (λcdv A outer s H vs Q E hr h=>?_)
 ·obtain⟨p,q,x,y,rfl,_⟩:=h;rfl
 obtain⟨p,q,x,y,rfl,hp,hq,sx,sy,k⟩:=h;refine⟨_,AU (AY (Wm (DC (Ad G hr (by rfl) mG kG bG .nil AZ (AA (pv 1) (AA (pv 0) AI)))) (A0 (AA (pv 1) (AA (pv 0) AI))) (A0 (AA (pv 0) (AA (pv 1) AI))))),?_⟩;refine⟨_,rfl,_,rfl,q,p,y,x,rfl,hq,hp,sy,sx,_,rfl,?_⟩;unfold Fb Fg at k;by_cases z:y<x
 ·rw[if_pos z,if_pos z] at k;exact BQ z ⟨_,rfl,_,rfl,by exact sz2,λt ht=>k t q p ht hq hp⟩
 ·rw[if_neg z,if_neg z] at k;exact BU z ⟨_,rfl,_,rfl,by exact sz2,λt ht=>k t p q ht hp hq⟩
def NA:Sp:=λvs H Q _=>∃(p q:Addr) (r s:List Rat),vs=[.ref p,.ref q]/\A7 Ac H p r/\A7 Ac H q s/\r.length=4/\s.length=4/\(∀y∈r,Sf y)/\(∀y∈s,Sf y)/\∀t H',AQ H H'->A7 Ac H' t (Gp r s)->Q (.ref t) H'
theorem Jg:Ak ["one","other","left","low","right","high"] ["one","other"] (Af s_together):=Ap
theorem HK{H:Hp}{p:Addr}(hp:H p=none)(vs:List V):∃H',AK H p (.AH vs)=H'/\AQ H H'/\H' p=some (.AH vs):=⟨_,rfl,Ae hp _,AX⟩
theorem Fz{H:Hp}{p:Addr}(hp:H p=none)(vs:List V):∃H',AK H p (.AN vs)=H'/\AQ H H'/\H' p=some (.AN vs):=⟨_,rfl,Ae hp _,AX⟩
theorem Yx(F:Ag K "together" "together" s_together f fd)(G:AG P w K mg base AM 2 g gd ["one","other"] ND)(bG:AV K gd ["one","other"] [])(kG:KP K g)(mG:mg "rising" = some (.ref g)):AG P w K mg base AM 3 f fd ["one","other"] NA:=by
 refine F.ok Jg (λvs H Q E h=>?_) (λcdv A outer s H vs Q E hr h=>?_)
 ·obtain⟨p,q,r,s,rfl,_⟩:=h;rfl
 obtain⟨p,q,r,s,rfl,hp,hq,n4,m4,sr,ss,k⟩:=h;obtain⟨c0,c1,c2,c3,x0,x1,x2,x3,rfl,hp,h0,h1,h2,h3⟩:=E2 hp n4;obtain⟨e0,e1,e2,e3,y0,y1,y2,y3,rfl,hq,g0,g1,g2,g3⟩:=E2 hq m4;refine⟨_,AR (Ab (i:=2) Jg.nd rfl (Or.inl rfl) (pT K (Ad G hr (by rfl) mG kG bG .nil AZ (AA (pT K (pv 0) AF) (AA (pT K (pv 1) AF) AI))) AF))
  (AR (Ab (i:=3) Jg.nd rfl (Or.inl rfl) (pT K (Ad G hr (by rfl) mG kG bG .nil AZ (AA (pT K (pv 0) AF) (AA (pT K (pv 1) AF) AI))) AF))
  (AR (Ab (i:=4) Jg.nd rfl (Or.inl rfl) (pT K (Ad G hr (by rfl) mG kG bG .nil AZ (AA (pT K (pv 0) AF) (AA (pT K (pv 1) AF) AI))) AF))
  (AR (Ab (i:=5) Jg.nd rfl (Or.inl rfl) (pT K (Ad G hr (by rfl) mG kG bG .nil AZ (AA (pT K (pv 0) AF) (AA (pT K (pv 1) AF) AI))) AF))
  (AU (AY (A0 (AA (pv 2) (AA (pv 3) (AA (pv 4) (AA (pv 5) AI))))))))))  ,?_⟩
 refine⟨_,rfl,p,_,_,_,rfl,rfl,AJ.of hp,DL,_,rfl,q,_,_,_,rfl,rfl,AJ.of hq,DL,c0,e0,x0,y0,rfl,h0,g0,sr _ (by simp),ss _ (by simp),λt1 a1 b1 ht1 ha1 _=>?_⟩;obtain⟨H1,z1,s1,k1⟩:=HK ht1 [.ref a1,.ref b1];rw[z1];refine⟨t1,_,_,_,rfl,rfl,AJ.of k1,C8,?_⟩;refine⟨_,rfl,p,_,_,_,rfl,rfl,AJ.of (s1 _ _ hp),Cm,_,rfl,q,_,_,_,rfl,rfl,AJ.of (s1 _ _ hq),Cm,c1,e1,x1,y1,rfl,s1 _ _ h1,s1 _ _ g1,sr _ (by simp),ss _ (by simp),λt2 a2 b2 ht2 ha2 _=>?_⟩;obtain⟨H2,z2,s2,k2⟩:=HK ht2 [.ref a2,.ref b2];rw[z2];have s12:=s1.trans s2;refine⟨t2,_,_,_,rfl,rfl,AJ.of k2,C8,?_⟩;refine⟨_,rfl,p,_,_,_,rfl,rfl,AJ.of (s12 _ _ hp),DM,_,rfl,q,_,_,_,rfl,rfl,AJ.of (s12 _ _ hq),DM,c2,e2,x2,y2,rfl,s12 _ _ h2,s12 _ _ g2,sr _ (by simp),ss _ (by simp),λt3 a3 b3 ht3 _ hb3=>?_⟩;obtain⟨H3,z3,s3,k3⟩:=HK ht3 [.ref a3,.ref b3];rw[z3];have s13:=s12.trans s3;refine⟨t3,_,_,_,rfl,rfl,AJ.of k3,Cf,?_⟩;refine⟨_,rfl,p,_,_,_,rfl,rfl,AJ.of (s13 _ _ hp),DJ,_,rfl,q,_,_,_,rfl,rfl,AJ.of (s13 _ _ hq),DJ,c3,e3,x3,y3,rfl,s13 _ _ h3,s13 _ _ g3,sr _ (by simp),ss _ (by simp),λt4 a4 b4 ht4 _ hb4=>?_⟩;obtain⟨H4,z4,s4,k4⟩:=HK ht4 [.ref a4,.ref b4];rw[z4];have s14:=s13.trans s4;refine⟨t4,_,_,_,rfl,rfl,AJ.of k4,Cf,?_⟩;refine⟨_,rfl,_,rfl,_,rfl,_,rfl,by exact B7,λt ht=>?_⟩;have s5:=Ae ht (.AH [.ref a1,.ref a2,.ref b3,.ref b4]);refine k t _ (s14.trans s5) ⟨[a1,a2,b3,b4],AX,?_⟩;exact(((At.nil.snoc (R:=Ac) (b:=a1) (x:=Fb x0 y0) ((s12.trans (s3.trans (s4.trans s5))) _ _ ha1 |> λz=>z)).snoc (b:=a2) (x:=Fb x1 y1) ((s2.trans (s3.trans (s4.trans s5))) _ _ ha2)).snoc (b:=b3) (x:=Fg x2 y2) ((s3.trans (s4.trans s5)) _ _ hb3)).snoc (b:=b4) (x:=Fg x3 y3) ((s4.trans s5) _ _ hb4)
open PySem.Spec PyProof.Rows
def EW(n j k:Int):Bool:=decide (0<=j) && (decide (j<k) && decide (k<n))
theorem FE{n j k:Int}:EW n j k=true↔0<=j/\j<k/\k<n:=by
 unfold EW;simp only[Bool.and_eq_true,decide_eq_true_eq]
def Ce(t:List (List Rat)->Nat->Nat->Bool)(rows:List (List Rat))(j k:Int):Bool:=EW (rows.length:Int) j k && t rows j.toNat k.toNat
def Ca(j k:Int)(p q:Addr):List (Str×V):=CT "second" (.ref q) (CT "first" (.ref p) (Cd j k))
theorem aN:¬(("first":Str)="second"):=by decide +kernel
theorem MH(j k:Int)(p q:Addr):(Ca j k p q).lookup ("first":Str)=some (.ref p):=by
 unfold Ca;rw[EH,if_neg aN,EH,if_pos rfl]
theorem L8(j k:Int)(p q:Addr):(Ca j k p q).lookup ("second":Str)=some (.ref q):=by
 unfold Ca;rw[EH,if_pos rfl]
theorem MV(j k:Int)(p q:Addr){m:Str}(h1:¬m="second")(h2:¬m="first"):(Ca j k p q).lookup m=(Cd j k).lookup m:=by
 unfold Ca;rw[EH,if_neg h1,EH,if_neg h2]
theorem Iw(j k:Int)(p q:Addr):(Ca j k p q).lookup ("one":Str)=some (.int j):=by rw[MV _ _ _ _ (by decide +kernel) (by decide +kernel),Ef]
theorem Il(j k:Int)(p q:Addr):(Ca j k p q).lookup ("other":Str)=some (.int k):=by rw[MV _ _ _ _ (by decide +kernel) (by decide +kernel),Ee]
theorem Wn(j k:Int)(p q:Addr){m:Str}(h1:¬m="second")(h2:¬m="first")(h3:¬m="other")(h4:¬m="one"):(Ca j k p q).lookup m=none:=by rw[MV _ _ _ _ h1 h2,QI _ _ h3 h4]
theorem GK{j k:Int}{p q:Addr}{m:Str}(h1:¬m="second":=by decide +kernel)(h2:¬m="first":=by decide +kernel)(h3:¬m="other":=by decide +kernel)(h4:¬m="one":=by decide +kernel):(Ca j k p q).lookup m=none:=Wn _ _ _ _ h1 h2 h3 h4
structure DQ(K:PySem.W.Frag)(C:Addr):Prop extends StC K C where
 n3:FH K C "first"
 n4:FH K C "second"
variable {C3 CN CS:Addr}
def JA:Sp:=λvs H Q _=>∃(n j k:Int),vs=[.int n,.int j,.int k]/\Q (.bl (EW n j k)) H
theorem Vp(F:Ag K "is_pair" "is_pair" s_is_pair f fd):AG P w K mg base AM 1 f fd ["count","j","k"] JA:=by
 refine F.ok Zt (λvs H Q E h=>?_) (λcdv A outer s H vs Q E hr h=>?_)
 ·obtain⟨n,j,k,rfl,_⟩:=h;rfl
 obtain⟨n,j,k,rfl,q⟩:=h;refine⟨_,AU (AY (FL (Bq IK AF (pv 1) (Ai _)) (FL (Bq D7 (pv 1) (pv 2) (Ai _)) (EM (Bq D7 (pv 2) (pv 0) (Ai _)))))),?_⟩;refine⟨_,rfl,_,_,rfl,rfl,_,rfl,?_⟩;unfold EW at q;by_cases h1:(0:Int)<=j
 ·rw[decide_eq_true h1,Bool.true_and] at q;refine BQ h1 ⟨_,rfl,_,rfl,_,_,rfl,rfl,_,rfl,?_⟩;by_cases h2:j<k
  ·rw[decide_eq_true h2,Bool.true_and] at q;exact BQ h2 ⟨_,rfl,_,rfl,_,_,rfl,rfl,q⟩
  ·rw[decide_eq_false h2,Bool.false_and] at q;refine BU h2 ?_
   first | exact q | (rw[decide_eq_false h2]; exact q)
 ·rw[decide_eq_false h1,Bool.false_and] at q;refine BU h1 ?_
  first | exact q | (rw[decide_eq_false h1]; exact q)
def Em(C:Addr)(t:List (List Rat)->Nat->Nat->Bool):Sp:=λvs H Q _=>∃(p a dx:Addr) (j k:Int) (W U:Rat) (rows:List (List Rat)),vs=[.ref p,.ref a]/\H p=some (.Az C dx (Cd j k))/\BV H a W U rows/\D8 rows/\∀H',AQ H H'->Q (.bl (Ce t rows j k)) H'
theorem VX (F:Ag K "fits" "Above.fits" sFitsA f fd) (T:StC K C) (G1:AG P w K mg base AM 1 f1 d1 ["count","j","k"] JA) (b1:AV K d1 ["count","j","k"] []) (k1:KP K f1) (m1:mg "is_pair" = some (.ref f1))
  (G2:AG P w K mg base AM 3 f2 d2 ["rectangles","j","k"] (IE Bg)) (b2:AV K d2 ["rectangles","j","k"] []) (k2:KP K f2) (m2:mg "is_above" = some (.ref f2)) (ml:mg "len" = none):AG P w K mg base AM 4 f fd ["self","floor"] (Em C Bg):=by
 refine F.ok Sl (λvs H Q E h=>?_) (λcdv A outer s H vs Q E hr h=>?_)
 ·obtain⟨p,a,dx,j,k,W,U,rows,rfl,_⟩:=h;rfl
 obtain⟨p,a,dx,j,k,W,U,rows,rfl,hp,⟨pw,pu,pr,ha,_,_,hR⟩,rk,q⟩:=h;have hr1:=hr.mono (show 1<=3 by decide);have hr2:=hr.mono (show 3<=3 by decide);obtain⟨cs,hpr,hC⟩:=id hR;have lm:(cs.map V.ref).length=rows.length:=by rw[List.length_map,hC.1]
 refine⟨_,AR (Ab (i:=2) Sl.nd rfl (Or.inl rfl) (pT K (pv 1) AF))
  (AU (AY (FL (Ad G1 hr1 (by rfl) m1 k1 b1 .nil AZ (AA (BJ (Ci (K:=K)) (by rfl) ml Cj (AA (pv 2) AI)) (AA (BM (pv 0) rfl) (AA (BM (pv 0) rfl) AI)))) (EM (Ad G2 hr2 (by rfl) m2 k2 b2 .nil AZ (AA (pv 2) (AA (BM (pv 0) rfl) (AA (BM (pv 0) rfl) AI)))))))),?_⟩
 refine⟨_,rfl,a,_,_,_,rfl,rfl,AJ.of ha,B5 _ _ _,?_⟩;refine⟨_,rfl,pr,_,rfl,.inr (AJ.of hpr),_,rfl,p,C,dx,_,_,rfl,hp,T.cl,T.n1,Ef _ _,_,rfl,p,C,dx,_,_,rfl,hp,T.cl,T.n2,Ee _ _,_,_,_,rfl,?_⟩;rw[lm];refine⟨_,rfl,?_⟩;unfold Ce at q;cases z:EW (rows.length:Int) j k with
 | false =>
  rw[z,Bool.false_and] at q;exact Bh (q H (AQ.refl _))
 | true =>
  rw[z,Bool.true_and] at q;obtain⟨z1,z2,z3⟩:=FE.mp z;obtain⟨j,rfl⟩:=Int.eq_ofNat_of_zero_le z1;obtain⟨k,rfl⟩:=Int.eq_ofNat_of_zero_le (show 0<=k by omega);refine CL ?_;exact⟨_,rfl,_,rfl,p,C,dx,_,_,rfl,hp,T.cl,T.n1,Ef _ _,_,rfl,p,C,dx,_,_,rfl,hp,T.cl,T.n2,Ee _ _,pr,rows,j,k,rfl,hR,rk,by omega,by omega,q⟩
theorem Ux (F:Ag K "fits" "Beside.fits" sFitsB f fd) (T:StC K C) (G1:AG P w K mg base AM 1 f1 d1 ["count","j","k"] JA) (b1:AV K d1 ["count","j","k"] []) (k1:KP K f1) (m1:mg "is_pair" = some (.ref f1))
  (G2:AG P w K mg base AM 1 f2 d2 ["rectangles","j","k"] (IE BE)) (b2:AV K d2 ["rectangles","j","k"] []) (k2:KP K f2) (m2:mg "is_beside" = some (.ref f2)) (ml:mg "len" = none):AG P w K mg base AM 4 f fd ["self","floor"] (Em C BE):=by
 refine F.ok Sj (λvs H Q E h=>?_) (λcdv A outer s H vs Q E hr h=>?_)
 ·obtain⟨p,a,dx,j,k,W,U,rows,rfl,_⟩:=h;rfl
 obtain⟨p,a,dx,j,k,W,U,rows,rfl,hp,⟨pw,pu,pr,ha,_,_,hR⟩,rk,q⟩:=h;have hr1:=hr.mono (show 1<=3 by decide);have hr2:=hr.mono (show 1<=3 by decide);obtain⟨cs,hpr,hC⟩:=id hR;have lm:(cs.map V.ref).length=rows.length:=by rw[List.length_map,hC.1]
 refine⟨_,AR (Ab (i:=2) Sj.nd rfl (Or.inl rfl) (pT K (pv 1) AF))
  (AU (AY (FL (Ad G1 hr1 (by rfl) m1 k1 b1 .nil AZ (AA (BJ (Ci (K:=K)) (by rfl) ml Cj (AA (pv 2) AI)) (AA (BM (pv 0) rfl) (AA (BM (pv 0) rfl) AI)))) (EM (Ad G2 hr2 (by rfl) m2 k2 b2 .nil AZ (AA (pv 2) (AA (BM (pv 0) rfl) (AA (BM (pv 0) rfl) AI)))))))),?_⟩
 refine⟨_,rfl,a,_,_,_,rfl,rfl,AJ.of ha,B5 _ _ _,?_⟩;refine⟨_,rfl,pr,_,rfl,.inr (AJ.of hpr),_,rfl,p,C,dx,_,_,rfl,hp,T.cl,T.n1,Ef _ _,_,rfl,p,C,dx,_,_,rfl,hp,T.cl,T.n2,Ee _ _,_,_,_,rfl,?_⟩;rw[lm];refine⟨_,rfl,?_⟩;unfold Ce at q;cases z:EW (rows.length:Int) j k with
 | false =>
  rw[z,Bool.false_and] at q;exact Bh (q H (AQ.refl _))
 | true =>
  rw[z,Bool.true_and] at q;obtain⟨z1,z2,z3⟩:=FE.mp z;obtain⟨j,rfl⟩:=Int.eq_ofNat_of_zero_le z1;obtain⟨k,rfl⟩:=Int.eq_ofNat_of_zero_le (show 0<=k by omega);refine CL ?_;exact⟨_,rfl,_,rfl,p,C,dx,_,_,rfl,hp,T.cl,T.n1,Ef _ _,_,rfl,p,C,dx,_,_,rfl,hp,T.cl,T.n2,Ee _ _,pr,rows,j,k,rfl,hR,rk,by omega,by omega,q⟩
def LM(sp:Sp):Prop:=∀(vs:List V) (H:Hp) (Q Q':VK) (E:XK),(∀v H',Q v H'->Q' v H')->sp vs H Q E->sp vs H Q' E
theorem OR{t:List (List Rat)->Nat->Nat->Bool}:LM (Em C t):=by
 rintro vs H Q Q' E hq ⟨p,a,dx,j,k,W,U,rows,e,hp,hF,rk,q⟩;exact⟨p,a,dx,j,k,W,U,rows,e,hp,hF,rk,λH' s=>hq _ _ (q H' s)⟩
abbrev Lw:List Value:=[.type "ValueError",.type "Exception",.type "BaseException",.type "object"]
def FI(C CN:Addr)(sp:Sp):Sp:=λvs H Q E=>∃(p a dx:Addr) (fs:List (Str×V)),vs=[.ref p,.ref a]/\H p=some (.Az C dx fs)/\fs.lookup ("fits":Str)=none/\sp [.ref p,.ref a] H (λv H'=>(v=.bl true/\Q .Ay H')\/(v=.bl false/\E (.ref CN) none H')) E0
theorem SE:Ak ["step","floor"] ["step","floor"] (Af s_check_fits):=Ap
theorem QC{n:Nat}{sp:Sp}(F:Ag K "check_fits" "check_fits" s_check_fits f fd)(T:Bw K C)(mo:LM sp)(G:AG P w K mg base AM n g gd ["self","floor"] sp)(bG:AV K gd ["self","floor"] [])(eG:Bc K C "fits" g)(mC:mg "NoFit" = some (.ref CN))(xC:PySem.W.excIn K CN Lw "ValueError.__new__" = true):AG P w K mg base (Aj P w) (n+1) f fd ["step","floor"] (FI C CN sp):=by
 refine EE F SE (λvs H Q E h=>?_) (λcdv A outer s H vs Q E hr h=>?_)
 ·obtain⟨p,a,dx,fs,rfl,_⟩:=h;rfl
 obtain⟨p,a,dx,fs,rfl,hp,hf,q⟩:=h;refine⟨_,AU (A3 (Gd (DC (Kp (E:=E0) (pv 0) T eG G hr bG .nil AZ (AA (pv 1) AI)))) (AU (MW (E:=E) (by rfl) mC xC PySem.F.excBase_ValueError rfl MN (AA Bk AI))) A6),?_⟩;refine⟨_,rfl,p,dx,fs,rfl,hp,hf,_,rfl,mo _ _ _ _ _ (λv H' z=>?_) q⟩;rcases z with ⟨rfl,z⟩ | ⟨rfl,z⟩
 ·exact⟨_,rfl,Bh z⟩
 ·exact⟨_,rfl,CL ⟨by exact sz1,z⟩⟩
def B4(C CN:Addr)(t:List (List Rat)->Nat->Nat->Bool):Sp:=λvs H Q E=>∃(p a dx:Addr) (j k:Int) (W U:Rat) (rows:List (List Rat)),vs=[.ref p,.ref a]/\H p=some (.Az C dx (Cd j k))/\BV H a W U rows/\D8 rows/\(Ce t rows j k=true->∀b H',AQ H H'->BV H' b W U (GI rows j.toNat k.toNat)->Q (.ref b) H')/\(Ce t rows j k=false->∀H',AQ H H'->E (.ref CN) none H')
theorem SX:Ak ["step","floor","rectangles"] ["step","floor"] (Af s_joined):=Ap
theorem Xw{α:Type}{R:Hp->Addr->α->Prop}{H:Hp}{cs:List Addr}{xs:List α}(h:At R H cs xs)(k:Nat):At R H (cs.eraseIdx k) (xs.eraseIdx k):=by
 rw[List.eraseIdx_eq_take_drop_succ,List.eraseIdx_eq_take_drop_succ];exact(h.take k).E7 (h.drop (k+1))
theorem LO{α:Type}{R:Hp->Addr->α->Prop}{H:Hp}{cs:List Addr}{xs:List α}{c:Addr}{x:α}(h:At R H cs xs)(j:Nat)(r:R H c x):At R H (cs.set j c) (xs.set j x):=by
 by_cases hj:j<cs.length
 ·rw[List.set_eq_take_append_cons_drop,List.set_eq_take_append_cons_drop,if_pos hj,if_pos (by rw[<-h.1]; exact hj)]
  have:=((h.take j).snoc r).E7 (h.drop (j+1))
  rw[List.append_assoc,List.append_assoc] at this;exact this
 ·rw[List.set_eq_of_length_le (by omega),List.set_eq_of_length_le (by rw[<-h.1]; omega)];exact h
theorem V4{α β:Type}(g:α->β)(l:List α)(k:Nat):(l.map g).eraseIdx k=(l.eraseIdx k).map g:=by
 rw[List.eraseIdx_eq_take_drop_succ,List.eraseIdx_eq_take_drop_succ,List.map_append,List.map_take,List.map_drop]
theorem Zh{n k:Nat}(h:k<n):seqIndex? (k:Int) n=some k:=by
 unfold seqIndex?;simp only[show ¬((k:Int)<0) by omega,if_false];simp; omega
theorem OT {t:List (List Rat)->Nat->Nat->Bool} (F:Ag K "joined" "joined" s_joined f fd) (T:StC K C) (G1:AG P w K mg base (Aj P w) 5 f1 d1 ["step","floor"] (FI C CN (Em C t))) (b1:AV K d1 ["step","floor"] []) (k1:KP K f1) (m1:mg "check_fits" = some (.ref f1))
  (G2:AG P w K mg base AM 3 f2 d2 ["one","other"] NA) (b2:AV K d2 ["one","other"] []) (k2:KP K f2) (m2:mg "together" = some (.ref f2)) (ml:mg "list" = none) (mt:mg "tuple" = none):AG P w K mg base (Aj P w) 6 f fd ["step","floor"] (B4 C CN t):=by
 refine EE F SX (λvs H Q E h=>?_) (λcdv A outer s H vs Q E hr h=>?_)
 ·obtain⟨p,a,dx,j,k,W,U,rows,rfl,_⟩:=h;rfl
 obtain⟨p,a,dx,j,k,W,U,rows,rfl,hp,hF,rk,q,qn⟩:=h;have hr3:=hr.mono (show 3<=5 by decide);refine⟨_,AR (GV (Ad (CX:=Aj P w) (E:=E) G1 hr (by rfl) m1 k1 b1 .nil D1 (AA (pv 0) (AA (pv 1) AI))))
  (AR (Ab (i:=2) SX.nd rfl (Or.inl rfl) (EJ L6 (by rfl) ml Kt (AA (pT K (pv 1) AF) AI)))
  (AR (JK (Ad G2 hr3 (by rfl) m2 k2 b2 .nil AZ (AA (pL K (pv 2) (BM (pv 0) rfl)) (AA (pL K (pv 2) (BM (pv 0) rfl)) AI))) (Qu (pv 2) (BM (pv 0) rfl) Pg))
  (AR (GV (HU K PySem.F.plainAttrs_list PySem.F.slot_list_pop PySem.F.type_list_pop V7 (pv 2) (AA (BM (pv 0) rfl) AI)))
  (AU (AY (A0 (AA (pT K (pv 1) AF) (AA (pT K (pv 1) AF) (AA (EJ Ik (by rfl) mt Hr (AA (pv 2) AI)) AI))))))))),?_⟩
 refine⟨_,rfl,_,rfl,p,a,dx,_,rfl,hp,Ec,p,a,dx,j,k,W,U,rows,rfl,hp,hF,rk,λH1 s1=>?_⟩;cases z:Ce t rows j k with
 | false=>exact .inr ⟨rfl,qn z H1 s1⟩
 | true =>
 refine .inl ⟨rfl,?_⟩;replace q:=q z;unfold Ce at z;rw[Bool.and_eq_true] at z;obtain⟨zz1,zz2,zz3⟩:=FE.mp z.1;obtain⟨j,rfl⟩:=Int.eq_ofNat_of_zero_le zz1;obtain⟨k,rfl⟩:=Int.eq_ofNat_of_zero_le (show 0<=k by omega);have jk:j<k:=by omega
 have kn:k<rows.length:=by omega
 replace hp:=s1 _ _ hp;obtain⟨pw,pu,pr,ha,hw,hu,cs,hpr,hC⟩:=BO s1 hF;have lc:cs.length=rows.length:=hC.1;refine⟨_,rfl,a,_,_,_,rfl,rfl,AJ.of ha,B5 _ _ _,pr,_,rfl,.inr (AJ.of hpr),λl hl=>?_⟩;obtain⟨H2,z2,s2,gl⟩:=Fz hl (cs.map V.ref);rw[z2];obtain⟨a1,ea,ha1⟩:=hC.get (B8 (show j<rows.length by omega));obtain⟨a2,eb,ha2⟩:=hC.get (B8 kn);have n4:=rk.four _ (List.mem_of_getElem? (B8 (show j<rows.length by omega)));have m4:=rk.four _ (List.mem_of_getElem? (B8 kn));have sfj:=rk.sf _ (List.mem_of_getElem? (B8 (show j<rows.length by omega)));have sfk:=rk.sf _ (List.mem_of_getElem? (B8 kn));have hp2:=s2 _ _ hp;refine⟨_,rfl,_,rfl,p,C,dx,_,_,rfl,hp2,T.cl,T.n1,Ef _ _,l,_,_,_,rfl,rfl,AS.of gl,Al (BA ea),_,rfl,_,rfl,p,C,dx,_,_,rfl,hp2,T.cl,T.n2,Ee _ _,l,_,_,_,rfl,rfl,AS.of gl,Al (BA eb),a1,a2,_,_,rfl,BI s2 ha1,BI s2 ha2,n4,m4,sfj,sfk,λt3 H3 s3 h3=>?_⟩;have s23:=s2.trans s3;have hp3:=s23 _ _ hp;have gl3:=s3 _ _ gl;refine⟨_,rfl,_,rfl,p,C,dx,_,_,rfl,hp3,T.cl,T.n1,Ef _ _,l,_,_,j,rfl,rfl,gl3,Pl (by rw[List.length_map]; omega),?_⟩;rw[show(cs.map V.ref).set j (.ref t3)=(cs.set j t3).map V.ref from (List.map_set ..).symm];have sb4:Bl l H3 (AK H3 l (.AN ((cs.set j t3).map V.ref))):=Bl.one;have gl4:AK H3 l (.AN ((cs.set j t3).map V.ref)) l=some (.AN ((cs.set j t3).map V.ref)):=AX;generalize AK H3 l (.AN ((cs.set j t3).map V.ref))=H4 at sb4 gl4;have s14:AQ H1 H4:=sb4.Jh s23 hl;have hp4:=s14 _ _ hp;have ek:(cs.set j t3)[k]?=some a2:=by rw[List.getElem?_set_ne (by omega)]; exact eb
 refine⟨_,rfl,.inl ⟨rfl,_,AS.of gl4⟩,_,rfl,p,C,dx,_,_,rfl,hp4,T.cl,T.n2,Ee _ _,l,_,_,k,_,rfl,rfl,gl4,by omega,by have:=rk.n; omega,Zh (by rw[List.length_map,List.length_set]; omega),BA ek,?_⟩;rw[show(((cs.set j t3).map V.ref).eraseIdx k)=((cs.set j t3).eraseIdx k).map V.ref from V4 ..];have sb5:Bl l H4 (AK H4 l (.AN (((cs.set j t3).eraseIdx k).map V.ref))):=Bl.one;have gl5:AK H4 l (.AN (((cs.set j t3).eraseIdx k).map V.ref)) l=some (.AN (((cs.set j t3).eraseIdx k).map V.ref)):=AX;generalize AK H4 l (.AN (((cs.set j t3).eraseIdx k).map V.ref))=H5 at sb5 gl5;have s15:AQ H1 H5:=sb5.Jh s14 hl;refine⟨_,rfl,a,_,_,_,rfl,rfl,AJ.of (s15 _ _ ha),EY _ _ _,_,rfl,a,_,_,_,rfl,rfl,AJ.of (s15 _ _ ha),E3 _ _ _,_,rfl,l,_,rfl,.inl ⟨AS.of gl5,λt6 ht6=>?_⟩⟩;obtain⟨H6,z6,s6,g6⟩:=HK ht6 (((cs.set j t3).eraseIdx k).map V.ref);rw[z6];refine⟨by exact EF,λt7 ht7=>?_⟩;have s7:=Ae ht7 (.AH [.ref pw,.ref pu,.ref t6]);have s57:=s6.trans s7;refine q t7 _ (s1.trans (s15.trans s57)) ⟨pw,pu,t6,AX,(s15.trans s57) _ _ hw,(s15.trans s57) _ _ hu,_,s7 _ _ g6,?_⟩;have h5:A7 Ac H5 t3 (Gp (rows.getD j []) (rows.getD k [])):=by
  have d3:A7 Ac (del H3 l) t3 (Gp (rows.getD j []) (rows.getD k [])):=Sw h3 gl3;have sd:AQ (del H3 l) H5:=λb o e=>by
   have nb:b≠l:=λz=>by rw[z] at e; simp[del] at e
   have e3:H3 b=some o:=HL H3 l _ _ e;exact sb5 _ _ nb (sb4 _ _ nb e3)
  exact BI sd d3
 exact(Xw (LO (hC.keep BI s15) j h5) k).keep BI s57
def JF(K:PySem.W.Frag):Sp:=λvs H Q _=>∃(p C dx p1 p2:Addr) (j k:Int),vs=[.ref p,.int j,.int k,.ref p1,.ref p2]/\DQ K C/\H p=some (.Az C dx [])/\∀H',H' p=some (.Az C dx (Ca j k p1 p2))->Bl p H H'->Q .Ay H'
theorem aK:Ak ["self","one","other","first","second"] ["self","one","other","first","second"] (Af sInitS):=Ap
theorem Vv(F:Ag K "__init__" "Split.__init__" sInitS f fd)(mS:mg "Step" = some (.ref CS))(M:M0 K CS "__init__" f1)(G1:AG P w K mg base AM 1 f1 d1 ["self","one","other"] (Hy K))(b1:AV K d1 ["self","one","other"] []):AG P w K mg base AM 2 f fd ["self","one","other","first","second"] (JF K):=by
 refine F.ok aK (λvs H Q E h=>?_) (λcdv A outer s H vs Q E hr h=>?_)
 ·obtain⟨p,C,dx,p1,p2,j,k,rfl,_⟩:=h;rfl
 obtain⟨p,C,dx,p1,p2,j,k,rfl,T,hp,q⟩:=h;refine⟨_,AR (GV (Vg (by rfl) mS M G1 hr b1 AZ (AA (pv 0) (AA (pv 1) (AA (pv 2) AI))))) (AR (K9 (pv 0) (pv 3) rfl) (AU (K9 (pv 0) (pv 4) rfl))),?_⟩;refine⟨_,rfl,_,rfl,_,rfl,p,C,dx,j,k,rfl,T.toStC,hp,λH1 hp1 sb=>?_⟩;refine⟨_,rfl,_,rfl,p,C,dx,_,rfl,hp1,T.cl,T.n3,(by show 2<1000; decide),?_⟩;refine⟨_,rfl,_,rfl,p,C,dx,_,rfl,AX,T.cl,T.n4,(by show 3<1000; decide),?_⟩;exact q _ AX ((sb.put _).put _)
def Cz(C C3 CN:Addr)(t:List (List Rat)->Nat->Nat->Bool):Sp:=λvs H Q E=>∃(p a dx:Addr) (j k:Int) (W U:Rat) (rows:List (List Rat)),vs=[.ref p,.ref a]/\H p=some (.Az C dx (Cd j k))/\BV H a W U rows/\D8 rows/\(Ce t rows j k=true->∀x dx p1 p2 H',AQ H H'->H' x=some (.Az C3 dx (Ca j k p1 p2))->A7 Ac H' p1 (rows.getD j.toNat [])->A7 Ac H' p2 (rows.getD k.toNat [])->Q (.ref x) H')/\(Ce t rows j k=false->∀H',AQ H H'->E (.ref CN) none H')
theorem Z7:Ak ["step","floor"] ["step","floor"] (Af s_parting):=Ap
theorem Oa {t:List (List Rat)->Nat->Nat->Bool} (F:Ag K "parting" "parting" s_parting f fd) (T:StC K C) (T3:DQ K C3) (M3:Mk K C3 f2) (mC3:mg "Split" = some (.ref C3)) (G1:AG P w K mg base (Aj P w) 5 f1 d1 ["step","floor"] (FI C CN (Em C t))) (b1:AV K d1 ["step","floor"] []) (k1:KP K f1) (m1:mg "check_fits" = some (.ref f1))
  (G2:AG P w K mg base AM 2 f2 d2 ["self","one","other","first","second"] (JF K)) (b2:AV K d2 ["self","one","other","first","second"] []):AG P w K mg base (Aj P w) 6 f fd ["step","floor"] (Cz C C3 CN t):=by
 refine EE F Z7 (λvs H Q E h=>?_) (λcdv A outer s H vs Q E hr h=>?_)
 ·obtain⟨p,a,dx,j,k,W,U,rows,rfl,_⟩:=h;rfl
 obtain⟨p,a,dx,j,k,W,U,rows,rfl,hp,hF,rk,q,qn⟩:=h;have hr3:=hr.mono (show 2+1<=5 by decide);refine⟨_,AR (GV (Ad (CX:=Aj P w) (E:=E) G1 hr (by rfl) m1 k1 b1 .nil D1 (AA (pv 0) (AA (pv 1) AI))))
  (AU (AY (Fm M3 G2 hr3 rfl mC3 b2 .nil AZ (AA (BM (pv 0) rfl) (AA (BM (pv 0) rfl) (AA (pT K (pT K (pv 1) AF) (BM (pv 0) rfl)) (AA (pT K (pT K (pv 1) AF) (BM (pv 0) rfl)) AI))))))),?_⟩
 refine⟨_,rfl,_,rfl,p,a,dx,_,rfl,hp,Ec,p,a,dx,j,k,W,U,rows,rfl,hp,hF,rk,λH1 s1=>?_⟩;cases z:Ce t rows j k with
 | false=>exact .inr ⟨rfl,qn z H1 s1⟩
 | true =>
 refine .inl ⟨rfl,?_⟩;replace q:=q z;unfold Ce at z;rw[Bool.and_eq_true] at z;obtain⟨zz1,zz2,zz3⟩:=FE.mp z.1;obtain⟨j,rfl⟩:=Int.eq_ofNat_of_zero_le zz1;obtain⟨k,rfl⟩:=Int.eq_ofNat_of_zero_le (show 0<=k by omega);have jk:j<k:=by omega
 have kn:k<rows.length:=by omega
 replace hp:=s1 _ _ hp;obtain⟨pw,pu,pr,ha,hw,hu,cs,hpr,hC⟩:=BO s1 hF;obtain⟨a1,ea,ha1⟩:=hC.get (B8 (show j<rows.length by omega));obtain⟨a2,eb,ha2⟩:=hC.get (B8 kn);refine⟨_,rfl,p,C,dx,_,_,rfl,hp,T.cl,T.n1,Ef _ _,_,rfl,p,C,dx,_,_,rfl,hp,T.cl,T.n2,Ee _ _,_,rfl,a,_,_,_,rfl,rfl,AJ.of ha,B5 _ _ _,_,rfl,p,C,dx,_,_,rfl,hp,T.cl,T.n1,Ef _ _,pr,_,_,_,rfl,rfl,AJ.of hpr,Al (BA ea),_,rfl,a,_,_,_,rfl,rfl,AJ.of ha,B5 _ _ _,_,rfl,p,C,dx,_,_,rfl,hp,T.cl,T.n2,Ee _ _,pr,_,_,_,rfl,rfl,AJ.of hpr,Al (BA eb),λx dx3 nx ndx nex=>?_⟩;refine⟨x,C3,dx3,a1,a2,_,_,rfl,T3,AX,λH4 hx sb=>⟨rfl,?_⟩⟩;have s4:AQ H1 H4:=λb o e=>sb b o (A5 e nx) (by rw[An (A5 e nx),An (A5 e ndx)]; exact e)
 exact q x dx3 a1 a2 H4 (s1.trans s4) hx (BI s4 ha1) (BI s4 ha2)
theorem Z6:Ak ["self","floor"] ["self","floor"] (Af sDoneA):=Ap
theorem Zr:Ak ["self","floor"] ["self","floor"] (Af sBackA):=Ap
theorem UY{t:List (List Rat)->Nat->Nat->Bool}(F:Ag K "done" "Above.done" sDoneA f fd)(G:AG P w K mg base (Aj P w) 6 g gd ["step","floor"] (B4 C CN t))(bG:AV K gd ["step","floor"] [])(kG:KP K g)(mG:mg "joined" = some (.ref g)):AG P w K mg base (Aj P w) 7 f fd ["self","floor"] (B4 C CN t):=by
 refine EE F Z6 (λvs H Q E h=>?_) (λcdv A outer s H vs Q E hr h=>?_)
 ·obtain⟨p,a,dx,j,k,W,U,rows,rfl,_⟩:=h;rfl
 obtain⟨p,a,dx,j,k,W,U,rows,rfl,h⟩:=h;exact⟨_,AU (AY (Ad (CX:=Aj P w) (E:=E) G hr (by rfl) mG kG bG .nil D1 (AA (pv 0) (AA (pv 1) AI)))),_,rfl,_,rfl,p,a,dx,j,k,W,U,rows,rfl,h⟩
theorem VL{t:List (List Rat)->Nat->Nat->Bool}(F:Ag K "back" "Above.back" sBackA f fd)(G:AG P w K mg base (Aj P w) 6 g gd ["step","floor"] (Cz C C3 CN t))(bG:AV K gd ["step","floor"] [])(kG:KP K g)(mG:mg "parting" = some (.ref g)):AG P w K mg base (Aj P w) 7 f fd ["self","floor"] (Cz C C3 CN t):=by
 refine EE F Zr (λvs H Q E h=>?_) (λcdv A outer s H vs Q E hr h=>?_)
 ·obtain⟨p,a,dx,j,k,W,U,rows,rfl,_⟩:=h;rfl
 obtain⟨p,a,dx,j,k,W,U,rows,rfl,h⟩:=h;exact⟨_,AU (AY (Ad (CX:=Aj P w) (E:=E) G hr (by rfl) mG kG bG .nil D1 (AA (pv 0) (AA (pv 1) AI)))),_,rfl,_,rfl,p,a,dx,j,k,W,U,rows,rfl,h⟩
theorem Zu:Ak ["self","floor"] ["self","floor"] (Af sDoneB):=Ap
theorem Zo:Ak ["self","floor"] ["self","floor"] (Af sBackB):=Ap
theorem Ui{t:List (List Rat)->Nat->Nat->Bool}(F:Ag K "done" "Beside.done" sDoneB f fd)(G:AG P w K mg base (Aj P w) 6 g gd ["step","floor"] (B4 C CN t))(bG:AV K gd ["step","floor"] [])(kG:KP K g)(mG:mg "joined" = some (.ref g)):AG P w K mg base (Aj P w) 7 f fd ["self","floor"] (B4 C CN t):=by
 refine EE F Zu (λvs H Q E h=>?_) (λcdv A outer s H vs Q E hr h=>?_)
 ·obtain⟨p,a,dx,j,k,W,U,rows,rfl,_⟩:=h;rfl
 obtain⟨p,a,dx,j,k,W,U,rows,rfl,h⟩:=h;exact⟨_,AU (AY (Ad (CX:=Aj P w) (E:=E) G hr (by rfl) mG kG bG .nil D1 (AA (pv 0) (AA (pv 1) AI)))),_,rfl,_,rfl,p,a,dx,j,k,W,U,rows,rfl,h⟩
theorem Va{t:List (List Rat)->Nat->Nat->Bool}(F:Ag K "back" "Beside.back" sBackB f fd)(G:AG P w K mg base (Aj P w) 6 g gd ["step","floor"] (Cz C C3 CN t))(bG:AV K gd ["step","floor"] [])(kG:KP K g)(mG:mg "parting" = some (.ref g)):AG P w K mg base (Aj P w) 7 f fd ["self","floor"] (Cz C C3 CN t):=by
 refine EE F Zo (λvs H Q E h=>?_) (λcdv A outer s H vs Q E hr h=>?_)
 ·obtain⟨p,a,dx,j,k,W,U,rows,rfl,_⟩:=h;rfl
 obtain⟨p,a,dx,j,k,W,U,rows,rfl,h⟩:=h;exact⟨_,AU (AY (Ad (CX:=Aj P w) (E:=E) G hr (by rfl) mG kG bG .nil D1 (AA (pv 0) (AA (pv 1) AI)))),_,rfl,_,rfl,p,a,dx,j,k,W,U,rows,rfl,h⟩
theorem MQ{α:Type}[DecidableEq α]{D:α->PyData}(h:∀x y,PyData.eqv (D x) (D y)=decide (x=y)):∀xs ys:List α,PyData.eqv (.tuple (xs.map D)) (.tuple (ys.map D))=decide (xs=ys)
 | [],[]=>by simp[PyData.eqv,PyData.eqvAll]
 | [],y :: ys=>by simp[PyData.eqv,PyData.eqvAll]
 | x :: xs,[]=>by simp[PyData.eqv,PyData.eqvAll]
 | x :: xs,y :: ys=>by
  have ih:=MQ h xs ys;simp only[PyData.eqv] at ih;simp only[PyData.eqv,List.map_cons,PyData.eqvAll,h,ih];by_cases a:x=y <;> by_cases b:xs=ys <;> simp[a,b]
theorem O0(W U:Rat)(r s:List (List Rat)):PyData.eqv (EO W U r) (EO W U s)=decide (r=s):=by
 have e0:∀p q:Rat,PyData.eqv (Cr p) (Cr q)=decide (p=q):=Mm;have e1:=MQ (D:=Dc) (MQ (D:=Cr) e0) r s;unfold EO;simp only[PyData.eqv,PyData.eqvAll,e0,decide_true,Bool.true_and] at e1 ⊢;simp only[e1,Bool.and_true]
def CO(rows:List (List Rat))(j k:Nat)(r s:List Rat):List (List Rat):=(rows.set j r).take k++s :: (rows.set j r).drop k
theorem Y0{rows:List (List Rat)}{j k:Nat}{r s:List Rat}(hk:k<=rows.length):(CO rows j k r s).length=rows.length+1:=by
 unfold CO;rw[List.length_append,List.length_cons,List.length_take,List.length_drop,List.length_set]; omega
variable {f6 f7 f8:Addr} {d6 d7 d8:FuncData}
def Mn(t:List (List Rat)->Nat->Nat->Bool):Sp:=λvs H Q _=>∃(p:Addr) (rows:List (List Rat)) (j k:Nat),vs=[.ref p,.int (j:Int),.int (k:Int)]/\Bi (A7 Ac) H p rows/\D8 rows/\j<rows.length/\k<rows.length/\∀H',AQ H H'->Q (.bl (t rows j k)) H'
theorem UE(F:Ag K "is_beside" "is_beside" s_is_beside f fd):AG P w K mg base AM 1 f fd ["rectangles","j","k"] (Mn BE):=by
 refine F.ok IX (λvs H Q E h=>?_) (λcdv A outer s H vs Q E hr h=>?_)
 ·obtain⟨p,rows,j,k,rfl,_⟩:=h;rfl
 obtain⟨p,rows,j,k,rfl,⟨cs,hp,hC⟩,rk,hj,hk,q⟩:=h;have q:=q H (AQ.refl _);obtain⟨a,ea,ha⟩:=hC.get (B8 hj);obtain⟨b,eb,hb⟩:=hC.get (B8 hk);have n4:=rk.four _ (List.mem_of_getElem? (B8 hj));have m4:=rk.four _ (List.mem_of_getElem? (B8 hk));unfold BE at q;generalize rows.getD j []=r at ha n4 q;generalize rows.getD k []=t at hb m4 q;obtain⟨c0,c1,c2,c3,x0,x1,x2,x3,rfl,ha,h0,h1,h2,h3⟩:=E2 ha n4;obtain⟨e0,e1,e2,e3,y0,y1,y2,y3,rfl,hb,g0,g1,g2,g3⟩:=E2 hb m4;refine⟨_,AR (Ab (i:=3) IX.nd rfl (Or.inl rfl) (pL K (pv 0) (pv 1)))
  (AR (Ab (i:=4) IX.nd rfl (Or.inl rfl) (pL K (pv 0) (pv 2)))
  (AR (A3 (PW.pt (D9 (Aw (Gb hr.units) (pT K (pv 3) AF) (pT K (pv 4) AF) (Ai _)) (Gf (Aw (Gb hr.units) (pT K (pv 3) AF) (pT K (pv 4) AF) (Ai _))))) (AU (AY CA)) A6)
  (AU (AY (II (Bq (Hv hr.units) (pT K (pv 3) AF) (pT K (pv 4) AF) (Ai _)) (EM (Bq (Hv hr.units) (pT K (pv 4) AF) (pT K (pv 3) AF) (Ai _)))))))),?_⟩
 refine⟨_,rfl,_,rfl,p,_,_,_,rfl,rfl,AS.of hp,Al (BA ea),?_⟩;refine⟨_,rfl,_,rfl,p,_,_,_,rfl,rfl,AS.of hp,Al (BA eb),?_⟩;refine⟨_,rfl,a,_,_,_,rfl,rfl,AJ.of ha,Cm,_,rfl,b,_,_,_,rfl,rfl,AJ.of hb,Cm,c1,e1,x1,y1,rfl,rfl,h1,g1,_,rfl,?_⟩;have q':Q (.bl ((decide (x1=y1) && decide (x3=y3)) && (decide (x2=y0) || decide (y2=x0)))) H:=q;by_cases z1:x1=y1
 case neg =>
  refine CV z1 ?_;rw[decide_eq_false z1,Bool.false_and,Bool.false_and] at q';exact q'
 refine CJ z1 ?_;refine⟨_,rfl,a,_,_,_,rfl,rfl,AJ.of ha,DJ,_,rfl,b,_,_,_,rfl,rfl,AJ.of hb,DJ,c3,e3,x3,y3,rfl,rfl,h3,g3,_,rfl,?_⟩;by_cases z3:x3=y3
 case neg =>
  refine CV z3 ?_;rw[decide_eq_false z3,Bool.and_false,Bool.false_and] at q';exact q'
 refine CJ z3 ?_;rw[decide_eq_true z1,decide_eq_true z3,Bool.true_and,Bool.true_and] at q';refine⟨_,rfl,a,_,_,_,rfl,rfl,AJ.of ha,DM,_,rfl,b,_,_,_,rfl,rfl,AJ.of hb,DL,c2,e0,x2,y0,rfl,rfl,h2,g0,_,rfl,?_⟩;by_cases z2:x2=y0
 ·refine BQ z2 ?_;rw[decide_eq_true z2,Bool.true_or] at q';exact q'
 refine BU z2 ?_;rw[decide_eq_false z2,Bool.false_or] at q';exact⟨_,rfl,b,_,_,_,rfl,rfl,AJ.of hb,DM,_,rfl,a,_,_,_,rfl,rfl,AJ.of ha,DL,e2,c0,y2,x0,rfl,rfl,g2,h0,q'⟩
def LD(C3:Addr):Sp:=λvs H Q _=>∃(p a dx p1 p2:Addr) (j k:Nat) (W U:Rat) (rows:List (List Rat)) (r1 r2:List Rat),vs=[.ref p,.ref a]/\H p=some (.Az C3 dx (Ca (j:Int) (k:Int) p1 p2))/\BV H a W U rows/\rows.length<=30/\A7 Ac H p1 r1/\A7 Ac H p2 r2/\j<k/\k<=rows.length/\∀t H',AQ H H'->BV H' t W U (CO rows j k r1 r2)->Q (.ref t) H'
theorem SY:Ak ["self","floor","rectangles"] ["self","floor"] (Af sMadeS):=Ap
theorem XZ(F:Ag K "made" "Split.made" sMadeS f fd)(T:DQ K C3)(ml:mg "list" = none)(mt:mg "tuple" = none):AG P w K mg base AM 1 f fd ["self","floor"] (LD C3):=by
 refine F.ok SY (λvs H Q E h=>?_) (λcdv A outer s H vs Q E hr h=>?_)
 ·obtain⟨p,a,dx,p1,p2,j,k,W,U,rows,r1,r2,rfl,_⟩:=h;rfl
 obtain⟨p,a,dx,p1,p2,j,k,W,U,rows,r1,r2,rfl,hp,hF,n30,h1,h2,jk,kn,q⟩:=h;refine⟨_,(AR (Ab (i:=2) SY.nd rfl (Or.inl rfl) (EJ L6 (by rfl) ml Kt (AA (pT K (pv 1) AF) AI)))
  (AR (JK (BM (pv 0) rfl) (Qu (pv 2) (BM (pv 0) rfl) Pg))
  (AR (GV (HU K PySem.F.plainAttrs_list PySem.F.slot_list_insert PySem.F.type_list_insert Uh (pv 2) (AA (BM (pv 0) rfl) (AA (BM (pv 0) rfl) AI))))
  (AU (AY (A0 (AA (pT K (pv 1) AF) (AA (pT K (pv 1) AF) (AA (EJ Ik (by rfl) mt Hr (AA (pv 2) AI)) AI))))))))),?_⟩
 obtain⟨pw,pu,pr,ha,hw,hu,cs,hpr,hC⟩:=hF;have lc:cs.length=rows.length:=hC.1;refine⟨_,rfl,a,_,_,_,rfl,rfl,AJ.of ha,B5 _ _ _,pr,_,rfl,.inr (AJ.of hpr),λl hl=>?_⟩;obtain⟨H2,z2,s2,gl⟩:=Fz hl (cs.map V.ref);rw[z2];have hp2:=s2 _ _ hp;refine⟨_,rfl,p,C3,dx,_,_,rfl,hp2,T.cl,T.n3,MH _ _ _ _,_,rfl,_,rfl,p,C3,dx,_,_,rfl,hp2,T.cl,T.n1,Iw _ _ _ _,l,_,_,j,rfl,rfl,gl,Pl (by rw[List.length_map]; omega),?_⟩;rw[show(cs.map V.ref).set j (.ref p1)=(cs.set j p1).map V.ref from (List.map_set ..).symm];have sb4:Bl l H2 (AK H2 l (.AN ((cs.set j p1).map V.ref))):=Bl.one;have gl4:AK H2 l (.AN ((cs.set j p1).map V.ref)) l=some (.AN ((cs.set j p1).map V.ref)):=AX;generalize AK H2 l (.AN ((cs.set j p1).map V.ref))=H4 at sb4 gl4;have s14:AQ H H4:=sb4.Jh s2 hl;have hp4:=s14 _ _ hp;have l4:((cs.set j p1).map V.ref).length=rows.length:=by rw[List.length_map,List.length_set,lc]
 refine⟨_,rfl,.inl ⟨rfl,_,AS.of gl4⟩,_,rfl,p,C3,dx,_,_,rfl,hp4,T.cl,T.n2,Il _ _ _ _,_,rfl,p,C3,dx,_,_,rfl,hp4,T.cl,T.n4,L8 _ _ _ _,l,_,_,_,rfl,rfl,gl4,Int.natCast_nonneg _,by rw[l4]; omega,by rw[l4]; omega,?_⟩;rw[Int.toNat_natCast,show((cs.set j p1).map V.ref).take k++V.ref p2 :: ((cs.set j p1).map V.ref).drop k=((cs.set j p1).take k++p2 :: (cs.set j p1).drop k).map V.ref by rw[List.map_append,List.map_cons,List.map_take,List.map_drop]];generalize hcs:(cs.set j p1).take k++p2 :: (cs.set j p1).drop k=cs5;have sb5:Bl l H4 (AK H4 l (.AN (cs5.map V.ref))):=Bl.one;have gl5:AK H4 l (.AN (cs5.map V.ref)) l=some (.AN (cs5.map V.ref)):=AX;generalize AK H4 l (.AN (cs5.map V.ref))=H5 at sb5 gl5;have s15:AQ H H5:=sb5.Jh s14 hl;refine⟨_,rfl,a,_,_,_,rfl,rfl,AJ.of (s15 _ _ ha),EY _ _ _,_,rfl,a,_,_,_,rfl,rfl,AJ.of (s15 _ _ ha),E3 _ _ _,_,rfl,l,_,rfl,.inl ⟨AS.of gl5,λt6 ht6=>?_⟩⟩;obtain⟨H6,z6,s6,g6⟩:=HK ht6 (cs5.map V.ref);rw[z6];refine⟨by exact EF,λt7 ht7=>?_⟩;have s7:=Ae ht7 (.AH [.ref pw,.ref pu,.ref t6]);have s57:=s15.trans (s6.trans s7);refine q t7 _ s57 ⟨pw,pu,t6,AX,s57 _ _ hw,s57 _ _ hu,_,s7 _ _ g6,?_⟩;rw[<-hcs];have a1:=LO (hC.keep BI s57) j (BI s57 h1);have a2:=((a1.take k).snoc (BI s57 h2)).E7 (a1.drop k);rw[List.append_assoc,List.append_assoc] at a2;exact a2
def LZ(C1 C2 C3:Addr):Sp:=λvs H Q _=>∃(p dx p1 p2:Addr) (j k:Int) (r1 r2:List Rat),vs=[.ref p]/\H p=some (.Az C3 dx (Ca j k p1 p2))/\A7 Ac H p1 r1/\A7 Ac H p2 r2/\D8 [r1,r2]/\(BE [r1,r2] 0 1=true->∀x dx H',AQ H H'->H' x=some (.Az C2 dx (Cd j k))->Q (.ref x) H')/\(BE [r1,r2] 0 1=false->∀x dx H',AQ H H'->H' x=some (.Az C1 dx (Cd j k))->Q (.ref x) H')
theorem Z4:Ak ["self"] ["self"] (Af sJoiningS):=Ap
theorem UB (F:Ag K "joining" "Split.joining" sJoiningS f fd) (T1:StC K C1) (T2:StC K C2) (T:DQ K C3) (M1:Mk K C1 f1) (mC1:mg "Above" = some (.ref C1)) (M2:Mk K C2 f1) (mC2:mg "Beside" = some (.ref C2)) (G1:AG P w K mg base AM 1 f1 d1 ["self","one","other"] (Hy K)) (b1:AV K d1 ["self","one","other"] [])
  (G2:AG P w K mg base AM 1 f2 d2 ["rectangles","j","k"] (Mn BE)) (b2:AV K d2 ["rectangles","j","k"] []) (k2:KP K f2) (m2:mg "is_beside" = some (.ref f2)):AG P w K mg base AM 3 f fd ["self"] (LZ C1 C2 C3):=by
 refine F.ok Z4 (λvs H Q E h=>?_) (λcdv A outer s H vs Q E hr h=>?_)
 ·obtain⟨p,dx,p1,p2,j,k,r1,r2,rfl,_⟩:=h;rfl
 obtain⟨p,dx,p1,p2,j,k,r1,r2,rfl,hp,h1,h2,rk,qb,qa⟩:=h;have hr2:=hr.mono (show 1+1<=2 by decide);have hr1:=hr.mono (show 1<=2 by decide);refine⟨_,AR (A3 (DC (Ad G2 hr1 (by rfl) m2 k2 b2 .nil AZ (AA (CU (AA (BM (pv 0) rfl) (AA (BM (pv 0) rfl) AI))) (AA AF (AA AF AI))))) (AU (AY (Fm M2 G1 hr2 rfl mC2 b1 .nil AZ (AA (BM (pv 0) rfl) (AA (BM (pv 0) rfl) AI))))) A6)
  (AU (AY (Fm M1 G1 hr2 rfl mC1 b1 .nil AZ (AA (BM (pv 0) rfl) (AA (BM (pv 0) rfl) AI))))),?_⟩
 refine⟨_,rfl,p,C3,dx,_,_,rfl,hp,T.cl,T.n3,MH _ _ _ _,_,rfl,p,C3,dx,_,_,rfl,hp,T.cl,T.n4,L8 _ _ _ _,by exact sz2,λl hl=>?_⟩;obtain⟨H2,z2,s2,gl⟩:=Fz hl [V.ref p1,V.ref p2];rw[z2];refine⟨l,[r1,r2],0,1,rfl,⟨[p1,p2],gl,rfl,λi c b e1 e2=>?_⟩,rk,by show 0<2; decide,by show 1<2; decide,λH3 s3=>?_⟩
 ·match i,e1,e2 with
  | 0,e1,e2=>cases e1; cases e2; exact BI s2 h1
  | 1,e1,e2=>cases e1; cases e2; exact BI s2 h2
  | n+2,e1,e2=>simp at e1
 have s13:=s2.trans s3;have hp3:=s13 _ _ hp;cases z:BE [r1,r2] 0 1 with
 | true =>
  refine⟨_,rfl,CL ?_⟩;refine⟨_,rfl,p,C3,dx,_,_,rfl,hp3,T.cl,T.n1,Iw _ _ _ _,_,rfl,p,C3,dx,_,_,rfl,hp3,T.cl,T.n2,Il _ _ _ _,λx dx3 nx ndx nex=>?_⟩;refine⟨x,C2,dx3,_,_,rfl,T2,AX,λH4 hx sb=>⟨rfl,?_⟩⟩;have s4:AQ H3 H4:=λb o e=>sb b o (A5 e nx) (by rw[An (A5 e nx),An (A5 e ndx)]; exact e)
  exact qb z x dx3 H4 (s13.trans s4) hx
 | false =>
  refine⟨_,rfl,Bh ?_⟩;refine⟨_,rfl,p,C3,dx,_,_,rfl,hp3,T.cl,T.n1,Iw _ _ _ _,_,rfl,p,C3,dx,_,_,rfl,hp3,T.cl,T.n2,Il _ _ _ _,λx dx3 nx ndx nex=>?_⟩;refine⟨x,C1,dx3,_,_,rfl,T1,AX,λH4 hx sb=>⟨rfl,?_⟩⟩;have s4:AQ H3 H4:=λb o e=>sb b o (A5 e nx) (by rw[An (A5 e nx),An (A5 e ndx)]; exact e)
  exact qa z x dx3 H4 (s13.trans s4) hx
def Jj(m:List (List Rat))(j k:Nat)(r1 r2:List Rat):Bool:=if BE [r1,r2] 0 1=true then BE m j k else Bg m j k
def DV(rows:List (List Rat))(j k:Int)(r1 r2:List Rat)(cv:Bool):Bool :=
 EW ((rows.length:Int)+1) j k && (cv && (Jj (CO rows j.toNat k.toNat r1 r2) j.toNat k.toNat r1 r2 && decide (GI (CO rows j.toNat k.toNat r1 r2) j.toNat k.toNat=rows)))
structure J9(W U:Rat)(rows:List (List Rat))(j k:Int)(r1 r2:List Rat)(cv:Bool):Prop where
 rk:D8 rows
 OF:D8 [r1,r2]
 rm:EW ((rows.length:Int)+1) j k=true->D8 (CO rows j.toNat k.toNat r1 r2)
 lk:EW ((rows.length:Int)+1) j k=true->FZ W U (CO rows j.toNat k.toNat r1 r2)
 cv:EW ((rows.length:Int)+1) j k=true->∀ws,Cn (wh (cb (BK W U (CO rows j.toNat k.toNat r1 r2))) W) (wh (cb (BK W U (CO rows j.toNat k.toNat r1 r2))) U) (Ep (cb (BK W U (CO rows j.toNat k.toNat r1 r2))) (CO rows j.toNat k.toNat r1 r2)) ws->decide (ws.length=1)=cv
def GZ(C3:Addr):Sp:=λvs H Q _=>∃(p a dx p1 p2:Addr) (j k:Int) (W U:Rat) (rows:List (List Rat)) (r1 r2:List Rat) (cv:Bool),vs=[.ref p,.ref a]/\H p=some (.Az C3 dx (Ca j k p1 p2))/\BV H a W U rows/\A7 Ac H p1 r1/\A7 Ac H p2 r2/\J9 W U rows j k r1 r2 cv/\∀H',AQ H H'->Q (.bl (DV rows j k r1 r2 cv)) H'
theorem Vf:LM (GZ C3):=by
 rintro vs H Q Q' E hq ⟨p,a,dx,p1,p2,j,k,W,U,rows,r1,r2,cv,e,hp,hF,h1,h2,sk,q⟩;exact⟨p,a,dx,p1,p2,j,k,W,U,rows,r1,r2,cv,e,hp,hF,h1,h2,sk,λH' s=>hq _ _ (q H' s)⟩
theorem Nz:Ak ["self","floor","made","joining"] ["self","floor"] (Af sFitsS):=Ap
theorem WE (F:Ag K "fits" "Split.fits" sFitsS f fd) (T1:StC K C1) (T2:StC K C2) (T:DQ K C3)
  (G1:AG P w K mg base AM 1 f1 d1 ["count","j","k"] JA) (b1:AV K d1 ["count","j","k"] []) (k1:KP K f1) (m1:mg "is_pair" = some (.ref f1))
  (G2:AG P w K mg base AM 1 f2 d2 ["self","floor"] (LD C3)) (b2:AV K d2 ["self","floor"] []) (e2:Bc K C3 "made" f2)
  (G3:AG P w K mg base AM 3 f3 d3 ["self"] (LZ C1 C2 C3)) (b3:AV K d3 ["self"] []) (e3:Bc K C3 "joining" f3)
  (G4:AG P w K mg base AM 5 f4 d4 ["floor"] Nu) (b4:AV K d4 ["floor"] []) (k4:KP K f4) (m4:mg "covers" = some (.ref f4))
  (G5:AG P w K mg base AM 4 f5 d5 ["self","floor"] (Em C1 Bg)) (b5:AV K d5 ["self","floor"] []) (e5:Bc K C1 "fits" f5)
  (G6:AG P w K mg base AM 4 f6 d6 ["self","floor"] (Em C2 BE)) (b6:AV K d6 ["self","floor"] []) (e6:Bc K C2 "fits" f6)
  (G7:AG P w K mg base (Aj P w) 7 f7 d7 ["self","floor"] (B4 C1 CN Bg)) (b7:AV K d7 ["self","floor"] []) (e7:Bc K C1 "done" f7)
  (G8:AG P w K mg base (Aj P w) 7 f8 d8 ["self","floor"] (B4 C2 CN BE)) (b8:AV K d8 ["self","floor"] []) (e8:Bc K C2 "done" f8)
  (ml:mg "len" = none):AG P w K mg base (Aj P w) 8 f fd ["self","floor"] (GZ C3):=by
 refine EE F Nz (λvs H Q E h=>?_) (λcdv A outer s H vs Q E hr h=>?_)
 ·obtain⟨p,a,dx,p1,p2,j,k,W,U,rows,r1,r2,cv,rfl,_⟩:=h;rfl
 obtain⟨p,a,dx,p1,p2,j,k,W,U,rows,r1,r2,cv,rfl,hp,hF,h1,h2,sk,q⟩:=h;have hr1:=hr.mono (show 1<=7 by decide);have hr3:=hr.mono (show 3<=7 by decide);have hr4:=hr.mono (show 4<=7 by decide);have hr5:=hr.mono (show 5<=7 by decide);refine⟨_,AR (A3 (Gd (DC (Ad G1 hr1 (by rfl) m1 k1 b1 .nil AZ (AA (AW BW (BJ (Ci (K:=K)) (by rfl) ml Cj (AA (pT K (pv 1) AF) AI)) AF) (AA (BM (pv 0) rfl) (AA (BM (pv 0) rfl) AI)))))) (AU (AY CA)) A6)
  (AR (Ab (i:=2) Nz.nd rfl (Or.inl rfl) (Kp (E:=E0) (pv 0) T.cl e2 G2 hr1 b2 .nil AZ (AA (pv 1) AI)))
  (AR (Ab (i:=3) Nz.nd rfl (Or.inl rfl) (P9 (E:=E0) (pv 0) T.cl e3 G3 hr3 b3 .nil AZ))
  (AU (AY (FL (Ad G4 hr5 (by rfl) m4 k4 b4 .nil AZ (AA (pv 2) AI)) (FL (Pb (E:=E0) (pv 3) T1.cl T2.cl e5 e6 G5 G6 hr4 hr4 b5 b6 AZ AZ (AA (pv 2) AI)) (EM (Bq (JL hr.units) (Pb (E:=E) (pv 3) T1.cl T2.cl e7 e8 G7 G8 hr hr b7 b8 D1 D1 (AA (pv 2) AI)) (pv 1) (Ai _))))))))),?_⟩
 obtain⟨pw,pu,pr,ha,hw,hu,cs,hpr,hC⟩:=id hF;have lm:(cs.map V.ref).length=rows.length:=by rw[List.length_map,hC.1]
 refine⟨_,rfl,a,_,_,_,rfl,rfl,AJ.of ha,B5 _ _ _,pr,_,rfl,.inr (AJ.of hpr),_,_,rfl,rfl,_,rfl,p,C3,dx,_,_,rfl,hp,T.cl,T.n1,Iw _ _ _ _,_,rfl,p,C3,dx,_,_,rfl,hp,T.cl,T.n2,Il _ _ _ _,_,_,_,rfl,?_⟩;rw[lm];refine⟨_,rfl,?_⟩;unfold DV at q;cases z:EW ((rows.length:Int)+1) j k with
 | false =>
  rw[z,Bool.false_and] at q;exact CL (q H (AQ.refl _))
 | true =>
 rw[z,Bool.true_and] at q;refine Bh ?_;obtain⟨z1,z2,z3⟩:=FE.mp z;have rm:=sk.rm z;have lk:=sk.lk z;have hcv:=sk.cv z;obtain⟨j,rfl⟩:=Int.eq_ofNat_of_zero_le z1;obtain⟨k,rfl⟩:=Int.eq_ofNat_of_zero_le (show 0<=k by omega);have q:∀H',AQ H H'->Q (.bl (cv && (Jj (CO rows j k r1 r2) j k r1 r2 && decide (GI (CO rows j k r1 r2) j k=rows)))) H':=q;simp only[Int.toNat_natCast] at rm lk hcv;have jk:j<k:=by omega
 have kn:k<=rows.length:=by omega
 have ln:=Y0 (rows:=rows) (j:=j) (r:=r1) (s:=r2) kn;refine⟨_,rfl,p,dx,_,rfl,hp,GK,_,rfl,p,a,dx,p1,p2,j,k,W,U,rows,r1,r2,rfl,hp,hF,sk.rk.n,h1,h2,jk,kn,λt H1 s1 hM=>?_⟩;have hp1:=s1 _ _ hp;generalize CO rows j k r1 r2=m at q rm lk hcv ln hM;have fz:∀b:List (List Rat)->Nat->Nat->Bool,Ce b m (j:Int) (k:Int)=b m j k:=λb=>by
  unfold Ce;rw[FE.mpr ⟨Int.natCast_nonneg _,by omega,by rw[ln]; omega⟩,Bool.true_and]; rfl
 refine⟨_,rfl,p,dx,_,rfl,hp1,GK,p,dx,p1,p2,_,_,r1,r2,rfl,hp1,BI s1 h1,BI s1 h2,sk.OF,λzb x dx' H2 s2 hx=>?_,λzb x dx' H2 s2 hx=>?_⟩
 ·unfold Jj at q;rw[if_pos zb] at q;refine⟨_,rfl,t,W,U,m,rfl,BO s2 hM,lk,λws H3 hl s3=>⟨_,rfl,?_⟩⟩;rw[hcv ws hl];cases cv with
  | false=>exact Bh (q H3 (s1.trans (s2.trans s3)))
  | true =>
  rw[Bool.true_and] at q;refine CL ⟨_,rfl,?_⟩;have hx3:=s3 _ _ hx;have hM3:=BO (s2.trans s3) hM;refine⟨x,dx',_,rfl,Ec,.inr ⟨hx3,_,rfl,x,t,dx',_,_,W,U,m,rfl,hx3,hM3,rm,λH4 s4=>⟨_,rfl,?_⟩⟩⟩;rw[fz];cases y:BE m j k with
  | false =>
   rw[y,Bool.false_and] at q;exact Bh (q H4 (s1.trans (s2.trans (s3.trans s4))))
  | true =>
  rw[y,Bool.true_and] at q;refine CL ⟨_,rfl,?_⟩;have hx4:=s4 _ _ hx3;refine⟨x,dx',_,rfl,Ec,.inr ⟨hx4,_,rfl,x,t,dx',_,_,W,U,m,rfl,hx4,BO s4 hM3,rm,λ_ b H5 s5 hb=>?_,λn=>?_⟩⟩
  ·have s15:=s1.trans (s2.trans (s3.trans (s4.trans s5)));refine⟨_,rfl,_,_,Dh hb,Dh (BO s15 hF),Ds _ _ _,Ds _ _ _,?_⟩;rw[O0];exact q H5 s15
  ·rw[fz,y] at n; cases n
 ·unfold Jj at q;rw[if_neg (by rw[zb]; decide)] at q;refine⟨_,rfl,t,W,U,m,rfl,BO s2 hM,lk,λws H3 hl s3=>⟨_,rfl,?_⟩⟩;rw[hcv ws hl];cases cv with
  | false=>exact Bh (q H3 (s1.trans (s2.trans s3)))
  | true =>
  rw[Bool.true_and] at q;refine CL ⟨_,rfl,?_⟩;have hx3:=s3 _ _ hx;have hM3:=BO (s2.trans s3) hM;refine⟨x,dx',_,rfl,Ec,.inl ⟨hx3,_,rfl,x,t,dx',_,_,W,U,m,rfl,hx3,hM3,rm,λH4 s4=>⟨_,rfl,?_⟩⟩⟩;rw[fz];cases y:Bg m j k with
  | false =>
   rw[y,Bool.false_and] at q;exact Bh (q H4 (s1.trans (s2.trans (s3.trans s4))))
  | true =>
  rw[y,Bool.true_and] at q;refine CL ⟨_,rfl,?_⟩;have hx4:=s4 _ _ hx3;refine⟨x,dx',_,rfl,Ec,.inl ⟨hx4,_,rfl,x,t,dx',_,_,W,U,m,rfl,hx4,BO s4 hM3,rm,λ_ b H5 s5 hb=>?_,λn=>?_⟩⟩
  ·have s15:=s1.trans (s2.trans (s3.trans (s4.trans s5)));refine⟨_,rfl,_,_,Dh hb,Dh (BO s15 hF),Ds _ _ _,Ds _ _ _,?_⟩;rw[O0];exact q H5 s15
  ·rw[fz,y] at n; cases n
variable {CE:Addr}
theorem Wq{sp:Sp}(F:Ag K "check_fits" "check_fits" s_check_fits f fd)(T:Bw K C3)(mo:LM sp)(ie:∀vs H Q E E',sp vs H Q E->sp vs H Q E')(G:AG P w K mg base (Aj P w) 8 g gd ["self","floor"] sp)(bG:AV K gd ["self","floor"] [])(eG:Bc K C3 "fits" g)(mC:mg "NoFit" = some (.ref CN))(xC:PySem.W.excIn K CN Lw "ValueError.__new__" = true):AG P w K mg base (Aj P w) 9 f fd ["step","floor"] (FI C3 CN sp):=by
 refine EE F SE (λvs H Q E h=>?_) (λcdv A outer s H vs Q E hr h=>?_)
 ·obtain⟨p,a,dx,fs,rfl,_⟩:=h;rfl
 obtain⟨p,a,dx,fs,rfl,hp,hf,q⟩:=h;refine⟨_,AU (A3 (Gd (DC (Kp (E:=E) (pv 0) T eG G hr bG .nil D1 (AA (pv 1) AI)))) (AU (MW (E:=E) (by rfl) mC xC PySem.F.excBase_ValueError rfl MN (AA Bk AI))) A6),?_⟩;replace q:=ie _ _ _ _ E q;refine⟨_,rfl,p,dx,fs,rfl,hp,hf,_,rfl,mo _ _ _ _ _ (λv H' z=>?_) q⟩;rcases z with ⟨rfl,z⟩ | ⟨rfl,z⟩
 ·exact⟨_,rfl,Bh z⟩
 ·exact⟨_,rfl,CL ⟨by exact sz1,z⟩⟩
theorem Xm(F:Ag K "check_fits" "check_fits" s_check_fits f fd)(T:Bw K C3)(G:AG P w K mg base (Aj P w) 8 g gd ["self","floor"] (GZ C3))(bG:AV K gd ["self","floor"] [])(eG:Bc K C3 "fits" g)(mC:mg "NoFit" = some (.ref CN))(xC:PySem.W.excIn K CN Lw "ValueError.__new__" = true):AG P w K mg base (Aj P w) 9 f fd ["step","floor"] (FI C3 CN (GZ C3)):=Wq F T Vf (λ_ _ _ _ _ h=>h) G bG eG mC xC
def Gi(C3 CN:Addr):Sp:=λvs H Q E=>∃(p a dx p1 p2:Addr) (j k:Int) (W U:Rat) (rows:List (List Rat)) (r1 r2:List Rat) (cv:Bool),vs=[.ref p,.ref a]/\H p=some (.Az C3 dx (Ca j k p1 p2))/\BV H a W U rows/\A7 Ac H p1 r1/\A7 Ac H p2 r2/\J9 W U rows j k r1 r2 cv/\(DV rows j k r1 r2 cv=true->∀b H',AQ H H'->BV H' b W U (CO rows j.toNat k.toNat r1 r2)->Q (.ref b) H')/\(DV rows j k r1 r2 cv=false->∀H',AQ H H'->E (.ref CN) none H')
def IF(C1 C2 C3 CN:Addr):Sp:=λvs H Q E=>∃(p a dx p1 p2:Addr) (j k:Int) (W U:Rat) (rows:List (List Rat)) (r1 r2:List Rat) (cv:Bool),vs=[.ref p,.ref a]/\H p=some (.Az C3 dx (Ca j k p1 p2))/\BV H a W U rows/\A7 Ac H p1 r1/\A7 Ac H p2 r2/\J9 W U rows j k r1 r2 cv/\(DV rows j k r1 r2 cv=true->∀x dx H',AQ H H'->H' x=some (.Az (if BE [r1,r2] 0 1=true then C2 else C1) dx (Cd j k))->Q (.ref x) H')/\(DV rows j k r1 r2 cv=false->∀H',AQ H H'->E (.ref CN) none H')
theorem aV:Ak ["self","floor"] ["self","floor"] (Af sDoneS):=Ap
theorem ak:Ak ["self","floor"] ["self","floor"] (Af sBackS):=Ap
theorem Vh (F:Ag K "done" "Split.done" sDoneS f fd) (T:DQ K C3) (G1:AG P w K mg base (Aj P w) 9 f1 d1 ["step","floor"] (FI C3 CN (GZ C3))) (b1:AV K d1 ["step","floor"] []) (k1:KP K f1) (m1:mg "check_fits" = some (.ref f1))
  (G2:AG P w K mg base AM 1 f2 d2 ["self","floor"] (LD C3)) (b2:AV K d2 ["self","floor"] []) (e2:Bc K C3 "made" f2):AG P w K mg base (Aj P w) 10 f fd ["self","floor"] (Gi C3 CN):=by
 refine EE F aV (λvs H Q E h=>?_) (λcdv A outer s H vs Q E hr h=>?_)
 ·obtain⟨p,a,dx,p1,p2,j,k,W,U,rows,r1,r2,cv,rfl,_⟩:=h;rfl
 obtain⟨p,a,dx,p1,p2,j,k,W,U,rows,r1,r2,cv,rfl,hp,hF,h1,h2,sk,q,qn⟩:=h;have hr1:=hr.mono (show 1<=9 by decide);refine⟨_,AR (GV (Ad (CX:=Aj P w) (E:=E) G1 hr (by rfl) m1 k1 b1 .nil D1 (AA (pv 0) (AA (pv 1) AI))))
  (AU (AY (Kp (E:=E0) (pv 0) T.cl e2 G2 hr1 b2 .nil AZ (AA (pv 1) AI)))),?_⟩
 refine⟨_,rfl,_,rfl,p,a,dx,_,rfl,hp,GK,p,a,dx,p1,p2,j,k,W,U,rows,r1,r2,cv,rfl,hp,hF,h1,h2,sk,λH1 s1=>?_⟩;cases z:DV rows j k r1 r2 cv with
 | false=>exact .inr ⟨rfl,qn z H1 s1⟩
 | true =>
 refine .inl ⟨rfl,?_⟩;replace q:=q z;have hp1:=s1 _ _ hp;unfold DV at z;rw[Bool.and_eq_true] at z;obtain⟨zz1,zz2,zz3⟩:=FE.mp z.1;obtain⟨j,rfl⟩:=Int.eq_ofNat_of_zero_le zz1;obtain⟨k,rfl⟩:=Int.eq_ofNat_of_zero_le (show 0<=k by omega);exact⟨_,rfl,p,dx,_,rfl,hp1,GK,_,rfl,p,a,dx,p1,p2,j,k,W,U,rows,r1,r2,rfl,hp1,BO s1 hF,sk.rk.n,BI s1 h1,BI s1 h2,by omega,by omega,λt H2 s2 hM=>q t H2 (s1.trans s2) hM⟩
theorem Vq (F:Ag K "back" "Split.back" sBackS f fd) (T:DQ K C3) (G1:AG P w K mg base (Aj P w) 9 f1 d1 ["step","floor"] (FI C3 CN (GZ C3))) (b1:AV K d1 ["step","floor"] []) (k1:KP K f1) (m1:mg "check_fits" = some (.ref f1))
  (G2:AG P w K mg base AM 3 f2 d2 ["self"] (LZ C1 C2 C3)) (b2:AV K d2 ["self"] []) (e2:Bc K C3 "joining" f2):AG P w K mg base (Aj P w) 10 f fd ["self","floor"] (IF C1 C2 C3 CN):=by
 refine EE F ak (λvs H Q E h=>?_) (λcdv A outer s H vs Q E hr h=>?_)
 ·obtain⟨p,a,dx,p1,p2,j,k,W,U,rows,r1,r2,cv,rfl,_⟩:=h;rfl
 obtain⟨p,a,dx,p1,p2,j,k,W,U,rows,r1,r2,cv,rfl,hp,hF,h1,h2,sk,q,qn⟩:=h;have hr1:=hr.mono (show 3<=9 by decide);refine⟨_,AR (GV (Ad (CX:=Aj P w) (E:=E) G1 hr (by rfl) m1 k1 b1 .nil D1 (AA (pv 0) (AA (pv 1) AI))))
  (AU (AY (P9 (E:=E0) (pv 0) T.cl e2 G2 hr1 b2 .nil AZ))),?_⟩
 refine⟨_,rfl,_,rfl,p,a,dx,_,rfl,hp,GK,p,a,dx,p1,p2,j,k,W,U,rows,r1,r2,cv,rfl,hp,hF,h1,h2,sk,λH1 s1=>?_⟩;cases z:DV rows j k r1 r2 cv with
 | false=>exact .inr ⟨rfl,qn z H1 s1⟩
 | true =>
 refine .inl ⟨rfl,?_⟩;replace q:=q z;have hp1:=s1 _ _ hp;exact⟨_,rfl,p,dx,_,rfl,hp1,GK,p,dx,p1,p2,_,_,r1,r2,rfl,hp1,BI s1 h1,BI s1 h2,sk.OF,λy x dx' H2 s2 hx=>q x dx' H2 (s1.trans s2) (by rw[if_pos y]; exact hx),λy x dx' H2 s2 hx=>q x dx' H2 (s1.trans s2) (by rw[if_neg (by rw[y]; decide)]; exact hx)⟩
inductive Ba
 | ab (j k:Int)
 | bs (j k:Int)
 | sp (j k:Int) (r1 r2:List Rat) (cv:Bool)
 | no (s:Str) (j k:Int)
def FW(H:Hp)(p:Addr):Ba->Prop
 | .ab j k=>H p=some (.AH [.str "above",.int j,.int k])
 | .bs j k=>H p=some (.AH [.str "beside",.int j,.int k])
 | .sp j k r1 r2 _=>∃p1 p2,H p=some (.AH [.str "split",.int j,.int k,.ref p1,.ref p2])/\A7 Ac H p1 r1/\A7 Ac H p2 r2
 | .no s j k=>H p=some (.AH [.str s,.int j,.int k])/\s≠"above"/\s≠"beside"/\s≠"split"
theorem D5:Mo FW:=by
 intro H H' p t s h;cases t with
 | ab j k=>exact s _ _ h
 | bs j k=>exact s _ _ h
 | sp j k r1 r2 cv =>
  obtain⟨p1,p2,h0,h1,h2⟩:=h;exact⟨p1,p2,s _ _ h0,BI s h1,BI s h2⟩
 | no z j k=>exact⟨s _ _ h.1,h.2⟩
def EB(C1 C2 C3:Addr)(H:Hp)(x:Addr):Ba->Prop
 | .ab j k=>∃dx,H x=some (.Az C1 dx (Cd j k))
 | .bs j k=>∃dx,H x=some (.Az C2 dx (Cd j k))
 | .sp j k r1 r2 _=>∃dx p1 p2,H x=some (.Az C3 dx (Ca j k p1 p2))/\A7 Ac H p1 r1/\A7 Ac H p2 r2
 | .no _ _ _=>False
def IH(C1 C2 C3 CE:Addr):Sp:=λvs H Q E=>∃(p:Addr) (t:Ba),vs=[.ref p]/\FW H p t/\(∀x H',AQ H H'->EB C1 C2 C3 H' x t->Q (.ref x) H')/\((∃s j k,t=.no s j k)->∀H',AQ H H'->E (.ref CE) none H')
theorem Zz:Ak ["told"] ["told"] (Af s_step_of):=Ap
theorem NX{x y z u v:V}:BN [x,y,z,u,v] 0=some x:=Al (j:=0) rfl
theorem ae{x y z u v:V}:BN [x,y,z,u,v] 1=some y:=Al (j:=1) rfl
theorem aF{x y z u v:V}:BN [x,y,z,u,v] 2=some z:=Al (j:=2) rfl
theorem ay{x y z u v:V}:BN [x,y,z,u,v] 3=some u:=Al (j:=3) rfl
theorem aY{x y z u v:V}:BN [x,y,z,u,v] 4=some v:=Al (j:=4) rfl
theorem Vx (F:Ag K "step_of" "step_of" s_step_of f fd) (T1:StC K C1) (T2:StC K C2) (T3:DQ K C3) (M1:Mk K C1 f1) (M2:Mk K C2 f1) (M3:Mk K C3 f2) (mC1:mg "Above" = some (.ref C1)) (mC2:mg "Beside" = some (.ref C2)) (mC3:mg "Split" = some (.ref C3))
  (G1:AG P w K mg base AM 1 f1 d1 ["self","one","other"] (Hy K)) (b1:AV K d1 ["self","one","other"] []) (G2:AG P w K mg base AM 2 f2 d2 ["self","one","other","first","second"] (JF K)) (b2:AV K d2 ["self","one","other","first","second"] [])
  (mC:mg "NoStep" = some (.ref CE)) (xC:PySem.W.excIn K CE Lw "ValueError.__new__" = true):AG P w K mg base (Aj P w) 4 f fd ["told"] (IH C1 C2 C3 CE):=by
 refine EE F Zz (λvs H Q E h=>?_) (λcdv A outer s H vs Q E hr h=>?_)
 ·obtain⟨p,t,rfl,_⟩:=h;rfl
 obtain⟨p,t,rfl,hp,q,qn⟩:=h;have r1:=hr.mono (show 1+1<=3 by decide);have r2:=hr.mono (show 2+1<=3 by decide);refine⟨_,AR (A3 (Aw CQ (pT K (pv 0) AF) Bk (Ai _)) (AU (AY (Fm M1 G1 r1 rfl mC1 b1 .nil AZ (AA (pT K (pv 0) AF) (AA (pT K (pv 0) AF) AI))))) A6)
  (AR (A3 (Aw CQ (pT K (pv 0) AF) Bk (Ai _)) (AU (AY (Fm M2 G1 r1 rfl mC2 b1 .nil AZ (AA (pT K (pv 0) AF) (AA (pT K (pv 0) AF) AI))))) A6)
  (AR (A3 (Aw CQ (pT K (pv 0) AF) Bk (Ai _)) (AU (AY (Fm M3 G2 r2 rfl mC3 b2 .nil AZ (AA (pT K (pv 0) AF) (AA (pT K (pv 0) AF) (AA (pT K (pv 0) AF) (AA (pT K (pv 0) AF) AI))))))) A6)
  (AU (MW (E:=E) (by rfl) mC xC PySem.F.excBase_ValueError rfl MN (AA Bk AI))))),?_⟩
 cases t with
 | ab j k =>
  have hp:H p=some (.AH [.str "above",.int j,.int k]):=hp;refine⟨_,rfl,p,_,_,_,rfl,rfl,AJ.of hp,EY _ _ _,rfl,_,rfl,BQ (by decide +kernel) ?_⟩;refine⟨_,rfl,p,_,_,_,rfl,rfl,AJ.of hp,E3 _ _ _,_,rfl,p,_,_,_,rfl,rfl,AJ.of hp,B5 _ _ _,λx dx nx ndx nex=>?_⟩;refine⟨x,C1,dx,_,_,rfl,T1,AX,λH4 hx sb=>⟨rfl,?_⟩⟩;exact q x H4 (λb o e=>sb b o (A5 e nx) (by rw[An (A5 e nx),An (A5 e ndx)]; exact e)) ⟨dx,hx⟩
 | bs j k =>
  have hp:H p=some (.AH [.str "beside",.int j,.int k]):=hp;refine⟨_,rfl,p,_,_,_,rfl,rfl,AJ.of hp,EY _ _ _,rfl,_,rfl,BU (by decide +kernel) ?_⟩;refine⟨_,rfl,p,_,_,_,rfl,rfl,AJ.of hp,EY _ _ _,rfl,_,rfl,BQ (by decide +kernel) ?_⟩;refine⟨_,rfl,p,_,_,_,rfl,rfl,AJ.of hp,E3 _ _ _,_,rfl,p,_,_,_,rfl,rfl,AJ.of hp,B5 _ _ _,λx dx nx ndx nex=>?_⟩;refine⟨x,C2,dx,_,_,rfl,T2,AX,λH4 hx sb=>⟨rfl,?_⟩⟩;exact q x H4 (λb o e=>sb b o (A5 e nx) (by rw[An (A5 e nx),An (A5 e ndx)]; exact e)) ⟨dx,hx⟩
 | sp j k r1 r2 cv =>
  obtain⟨p1,p2,hp,h1,h2⟩:=hp;refine⟨_,rfl,p,_,_,_,rfl,rfl,AJ.of hp,NX,rfl,_,rfl,BU (by decide +kernel) ?_⟩;refine⟨_,rfl,p,_,_,_,rfl,rfl,AJ.of hp,NX,rfl,_,rfl,BU (by decide +kernel) ?_⟩;refine⟨_,rfl,p,_,_,_,rfl,rfl,AJ.of hp,NX,rfl,_,rfl,BQ (by decide +kernel) ?_⟩;refine⟨_,rfl,p,_,_,_,rfl,rfl,AJ.of hp,ae,_,rfl,p,_,_,_,rfl,rfl,AJ.of hp,aF,_,rfl,p,_,_,_,rfl,rfl,AJ.of hp,ay,_,rfl,p,_,_,_,rfl,rfl,AJ.of hp,aY,λx dx nx ndx nex=>?_⟩;refine⟨x,C3,dx,p1,p2,_,_,rfl,T3,AX,λH4 hx sb=>⟨rfl,?_⟩⟩;have s4:AQ H H4:=λb o e=>sb b o (A5 e nx) (by rw[An (A5 e nx),An (A5 e ndx)]; exact e)
  exact q x H4 s4 ⟨dx,p1,p2,hx,BI s4 h1,BI s4 h2⟩
 | no z j k =>
  obtain⟨hp,z1,z2,z3⟩:=hp;refine⟨_,rfl,p,_,_,_,rfl,rfl,AJ.of hp,EY _ _ _,rfl,_,rfl,BU (λe=>z1 (by injection e)) ?_⟩;refine⟨_,rfl,p,_,_,_,rfl,rfl,AJ.of hp,EY _ _ _,rfl,_,rfl,BU (λe=>z2 (by injection e)) ?_⟩;refine⟨_,rfl,p,_,_,_,rfl,rfl,AJ.of hp,EY _ _ _,rfl,_,rfl,BU (λe=>z3 (by injection e)) ?_⟩;exact⟨by exact sz1,qn ⟨z,j,k,rfl⟩ H (AQ.refl _)⟩
def CB(rows:List (List Rat)):Ba->Bool
 | .ab j k=>Ce Bg rows j k
 | .bs j k=>Ce BE rows j k
 | .sp j k r1 r2 cv=>DV rows j k r1 r2 cv
 | .no _ _ _=>false
def Ed(rows:List (List Rat)):Ba->List (List Rat)
 | .ab j k=>GI rows j.toNat k.toNat
 | .bs j k=>GI rows j.toNat k.toNat
 | .sp j k r1 r2 _=>CO rows j.toNat k.toNat r1 r2
 | .no _ _ _=>rows
def G0(W U:Rat)(rows:List (List Rat)):Ba->Prop
 | .ab _ _=>D8 rows
 | .bs _ _=>D8 rows
 | .sp j k r1 r2 cv=>J9 W U rows j k r1 r2 cv
 | .no _ _ _=>True
def GN:Ba->Bool
 | .no _ _ _=>true
 | _=>false
inductive Lu
 | fl (rows:List (List Rat))
 | LY
 | LH
def one(rows:List (List Rat))(t:Ba):Lu:=if GN t=true then .LH else if CB rows t=true then .fl (Ed rows t) else .LY
def wk:List Ba->List (List Rat)->Lu
 | [],r=>.fl r
 | t :: ts,r=>if GN t=true then .LH else if CB r t=true then wk ts (Ed r t) else .LY
def J2(W U:Rat):List Ba->List (List Rat)->Prop
 | [],_=>True
 | t :: ts,r=>GN t=true\/(G0 W U r t/\(CB r t=true->J2 W U ts (Ed r t)))
def Jb(CN CE:Addr)(W U:Rat)(H:Hp)(Q:VK)(E:XK):Lu->Prop
 | .fl r=>∀b H',AQ H H'->BV H' b W U r->Q (.ref b) H'
 | .LY=>∀H',AQ H H'->E (.ref CN) none H'
 | .LH=>∀H',AQ H H'->E (.ref CE) none H'
theorem Rl{a x:Addr}{W U:Rat}{rows:List (List Rat)}{t:Ba}{H:Hp}{Q:VK}{E:XK}(hF:BV H a W U rows)(hs:EB C1 C2 C3 H x t)(ok:G0 W U rows t)(q:CB rows t=true->∀b H',AQ H H'->BV H' b W U (Ed rows t)->Q (.ref b) H')(qn:CB rows t=false->∀H',AQ H H'->E (.ref CN) none H'):
  ∃y dx fs,V.ref x=.ref y/\fs.lookup ("done":Str)=none/\((H y=some (.Az C1 dx fs)/\B4 C1 CN Bg [.ref x,.ref a] H Q E)\/(H y=some (.Az C2 dx fs)/\B4 C2 CN BE [.ref x,.ref a] H Q E)\/(H y=some (.Az C3 dx fs)/\Gi C3 CN [.ref x,.ref a] H Q E)):=by
 cases t with
 | ab j k =>
  obtain⟨dx,hx⟩:=hs;exact⟨x,dx,_,rfl,Ec,.inl ⟨hx,x,a,dx,j,k,W,U,rows,rfl,hx,hF,ok,q,qn⟩⟩
 | bs j k =>
  obtain⟨dx,hx⟩:=hs;exact⟨x,dx,_,rfl,Ec,.inr (.inl ⟨hx,x,a,dx,j,k,W,U,rows,rfl,hx,hF,ok,q,qn⟩)⟩
 | sp j k r1 r2 cv =>
  obtain⟨dx,p1,p2,hx,h1,h2⟩:=hs;exact⟨x,dx,_,rfl,GK,.inr (.inr ⟨hx,x,a,dx,p1,p2,j,k,W,U,rows,r1,r2,cv,rfl,hx,hF,h1,h2,ok,q,qn⟩)⟩
 | no s j k=>exact hs.elim
def NL(CN CE:Addr):Sp:=λvs H Q E=>∃(a ps:Addr) (cs:List Addr) (ts:List Ba) (W U:Rat) (rows:List (List Rat)),vs=[.ref a,.ref ps]/\BV H a W U rows/\H ps=some (.AH (cs.map V.ref))/\At FW H cs ts/\J2 W U ts rows/\Jb CN CE W U H Q E (wk ts rows)
theorem Nt:Ak ["floor","steps","told"] ["floor","steps"] (Af s_walked):=Ap
theorem Xg{W U:Rat}{H H':Hp}{Q:VK}{E:XK}{o:Lu}(s:AQ H H')(h:Jb CN CE W U H Q E o):Jb CN CE W U H' Q E o:=by
 cases o with
 | fl r=>exact λb H2 s2 hb=>h b H2 (s.trans s2) hb
 | LY=>exact λH2 s2=>h H2 (s.trans s2)
 | LH=>exact λH2 s2=>h H2 (s.trans s2)
theorem Vn (F:Ag K "walked" "walked" s_walked f fd) (T1:StC K C1) (T2:StC K C2) (T3:DQ K C3)
  (G2:AG P w K mg base (Aj P w) 4 f2 d2 ["told"] (IH C1 C2 C3 CE)) (b2:AV K d2 ["told"] []) (k2:KP K f2) (m2:mg "step_of" = some (.ref f2))
  (G3:AG P w K mg base (Aj P w) 7 f3 d3 ["self","floor"] (B4 C1 CN Bg)) (b3:AV K d3 ["self","floor"] []) (e3:Bc K C1 "done" f3)
  (G4:AG P w K mg base (Aj P w) 7 f4 d4 ["self","floor"] (B4 C2 CN BE)) (b4:AV K d4 ["self","floor"] []) (e4:Bc K C2 "done" f4)
  (G5:AG P w K mg base (Aj P w) 10 f5 d5 ["self","floor"] (Gi C3 CN)) (b5:AV K d5 ["self","floor"] []) (e5:Bc K C3 "done" f5):AG P w K mg base (Aj P w) 11 f fd ["floor","steps"] (NL CN CE):=by
 refine EE F Nt (λvs H Q E h=>?_) (λcdv A outer s H vs Q E hr h=>?_)
 ·obtain⟨a,ps,cs,ts,W,U,rows,rfl,_⟩:=h;rfl
 obtain⟨a,ps,cs,ts,W,U,rows,rfl,hF,hps,hC,ok,q⟩:=h;have r4:=hr.mono (show 4<=10 by decide);have r7:=hr.mono (show 7<=10 by decide);refine⟨_,AR (DE PassesOwn.leaving rfl (NI (K:=K) (pv 1)) (A8 (i:=2) Nt.nd rfl (Or.inl rfl))
   (AU (Ab (i:=0) Nt.nd rfl (Or.inl rfl) (Ho (E:=E) (Ad (CX:=Aj P w) (E:=E) G2 r4 (by rfl) m2 k2 b2 .nil D1 (AA (pv 2) AI)) T1.cl T2.cl T3.cl e3 e4 e5 G3 G4 G5 r7 r7 hr b3 b4 b5 D1 (AA (pv 0) AI)))))
  (AU (AY (pv 0))),?_⟩
 have lc:cs.length=ts.length:=hC.1;refine⟨_,rfl,ps,rfl,⟨_,AJ.of hps⟩,?_⟩;refine Qa (K:=K) (xs:=cs.map V.ref) (λi σ H2=>AQ H H2/\∃(b:Addr) (u:Option V) (ri:List (List Rat)),σ=[some (.ref b),some (.ref ps),u]/\BV H2 b W U ri/\J2 W U (ts.drop i) ri/\Jb CN CE W U H Q E (wk (ts.drop i) ri)) ⟨AQ.refl _,a,none,rows,rfl,hF,ok,q⟩ (λi σ H2 _ z=>AJ.of (z.1 _ _ hps)) ?_ ?_
 ·rintro i y σ H2 hi ⟨s2,b,u,ri,rfl,hb,oi,qi⟩;obtain⟨d,t,rfl,_,ht,hR⟩:=hC.ref hi;have il:i<ts.length:=(List.getElem?_eq_some_iff.mp ht).1;have dr:ts.drop i=t :: ts.drop (i+1):=by
   rw[List.drop_eq_getElem_cons il];rw[List.getElem?_eq_getElem il] at ht;rw[Option.some.inj ht]
  rw[dr] at oi qi;unfold wk at qi;unfold J2 at oi;have q0:=qi;replace qi:=Xg s2 qi;refine⟨_,rfl,d,t,rfl,D5 s2 hR,λx H5 s5 hx=>?_,λz=>?_⟩
  ·have nn:GN t=false:=by cases t <;> first | rfl | exact hx.elim
   rw[if_neg (by rw[nn]; decide)] at qi q0;rw[nn] at oi;obtain⟨ok1,ok2⟩:=oi.resolve_left (by decide);have hF5:=BO s5 hb;obtain⟨y,dx,fs,e,l,z⟩:=Rl (CN:=CN) (Q:=λv H6=>∃b',v=.ref b'/\AQ H5 H6/\BV H6 b' W U (Ed ri t)/\CB ri t=true) (E:=E) hF5 hx ok1 (λy b' H6 s6 h6=>⟨b',rfl,s6,h6,y⟩) (λy H6 s6=>by rw[if_neg (by rw[y]; decide)] at qi; exact qi H6 (s5.trans s6));cases e;have fin:∀(v:V) (H6:Hp),(∃b',v=.ref b'/\AQ H5 H6/\BV H6 b' W U (Ed ri t)/\CB ri t=true)->∃b',v=.ref b'/\AQ H H6/\BV H6 b' W U (Ed ri t)/\J2 W U (ts.drop (i+1)) (Ed ri t)/\Jb CN CE W U H Q E (wk (ts.drop (i+1)) (Ed ri t)):=by
    rintro v H6 ⟨b',rfl,s6,h6,ft⟩;rw[if_pos ft] at q0;exact⟨b',rfl,s2.trans (s5.trans s6),h6,ok2 ft,q0⟩
   rcases z with ⟨hy,z⟩ | ⟨hy,z⟩ | ⟨hy,z⟩
   ·obtain⟨p',a',dx',j,k,W',U',rows',ez,g1,g2,g3,gq,gn⟩:=z;refine⟨x,dx,fs,rfl,l,.inl ⟨hy,_,rfl,p',a',dx',j,k,W',U',rows',ez,g1,g2,g3,λy b2 H6 s6 h6=>?_,gn⟩⟩;obtain⟨b',eb,s6,hb6,o6,q6⟩:=fin _ H6 (gq y b2 H6 s6 h6);cases eb;exact⟨s6,b2,_,_,rfl,hb6,o6,q6⟩
   ·obtain⟨p',a',dx',j,k,W',U',rows',ez,g1,g2,g3,gq,gn⟩:=z;refine⟨x,dx,fs,rfl,l,.inr (.inl ⟨hy,_,rfl,p',a',dx',j,k,W',U',rows',ez,g1,g2,g3,λy b2 H6 s6 h6=>?_,gn⟩)⟩;obtain⟨b',eb,s6,hb6,o6,q6⟩:=fin _ H6 (gq y b2 H6 s6 h6);cases eb;exact⟨s6,b2,_,_,rfl,hb6,o6,q6⟩
   ·obtain⟨p',a',dx',p1,p2,j,k,W',U',rows',r1,r2,cv,ez,g1,g2,g3,g4,g5,gq,gn⟩:=z;refine⟨x,dx,fs,rfl,l,.inr (.inr ⟨hy,_,rfl,p',a',dx',p1,p2,j,k,W',U',rows',r1,r2,cv,ez,g1,g2,g3,g4,g5,λy b2 H6 s6 h6=>?_,gn⟩)⟩;obtain⟨b',eb,s6,hb6,o6,q6⟩:=fin _ H6 (gq y b2 H6 s6 h6);cases eb;exact⟨s6,b2,_,_,rfl,hb6,o6,q6⟩
  ·obtain⟨z1,z2,z3,rfl⟩:=z;exact λH6 s6=>qi H6 s6
 ·rintro σ H2 ⟨s2,b,u,ri,rfl,hb,_,qi⟩;rw[List.drop_of_length_le (by rw[List.length_map]; omega)] at qi;exact⟨_,rfl,qi b H2 s2 hb⟩
end
abbrev R4(z:Int):Prop:=0<=z/\z<2147483629
theorem NC{T R:Prop}(m:T->R)(r:T):R:=m r
abbrev Bx:Type:=AE
def A4(H:Hp)(p:Addr)(b:Bx):Prop:=H p=some (.AH [.int b.1,.int b.2.1,.int b.2.2.1,.int b.2.2.2])
theorem Dk:Mo A4:=λs h=>s _ _ h
theorem A4.del{H:Hp}{a p:Addr}{b:Bx}{ys:List V}(h:A4 H p b)(e:H a=some (.AN ys)):A4 (del H a) p b:=Fp h (λz=>by rw[z] at h; unfold A4 at h; rw[e] at h; cases h)
theorem Hs{H:Hp}{p:Addr}(hp:H p=none)(a b c d:Int):∃H',AK H p (.AH [.int a,.int b,.int c,.int d])=H'/\AQ H H'/\A4 H' p (a,b,c,d):=⟨_,rfl,Ae hp _,AX⟩
theorem Cg{H:Hp}{p:Addr}(hp:H p=none)(vs:List V):∃H',AK H p (.AN vs)=H'/\AQ H H'/\H' p=some (.AN vs):=⟨_,rfl,Ae hp _,AX⟩
theorem Gz(x y z u:V):BN [x,y,z,u] 0=some x:=Al (j:=0) rfl
theorem GD(x y z u:V):BN [x,y,z,u] 1=some y:=Al (j:=1) rfl
theorem Gx(x y z u:V):BN [x,y,z,u] 2=some z:=Al (j:=2) rfl
theorem He(x y z u:V):BN [x,y,z,u] 3=some u:=Al (j:=3) rfl
section
variable {P:Program} {w:World} {K:PySem.W.Frag} {mg:Str->Option Value} {base:Heap} {f g h f1 f2 f3:Addr} {fd gd hd d1 d2 d3:FuncData}
inductive QP(K:PySem.W.Frag)(vs:List V)(H:Hp)(Q:VK):Prop
 | mk (a:Addr) (ns:List Int) (k:Int) (h_0:vs=[.ref a,.int k]) (h_1:Lv K H a ns) (h_2:0<=k) (h_3:∀z,R4 z->Q (.int z) H):QP K vs H Q
def Hz(K:PySem.W.Frag):Sp:=λvs H Q _=>QP K vs H Q
theorem Nw:Ak ["_law_script","_law_k","_law_cell"] ["_law_script","_law_k"] (Af sCellAt):=Ap
theorem XO(F:Ag K "_law_cell_at" "_law_cell_at" sCellAt f fd)(ml:mg "len" = none):AG P w K mg base AM 1 f fd ["_law_script","_law_k"] (Hz K):=by
 refine F.ok Nw (λvs H Q E h=>?_) (λcdv A outer s H vs Q E hr h=>?_)
 ·obtain⟨a,ns,k,rfl,_⟩:=h;rfl
 obtain⟨a,ns,k,rfl,⟨hS,hl⟩,h0,q⟩:=h;refine⟨_,AR (Ab (i:=2) Nw.nd rfl (Or.inl rfl) AF)
  (AR (A3 (Aw D7 (pv 1) (BJ (Ci (K:=K)) (by rfl) ml Cj (AA (pv 0) AI)) (Ai _))
   (AU (Ab (i:=2) Nw.nd rfl (Or.inl rfl) (AW Bs (pL K (pv 0) (pv 1)) (AW X5 AF AF)))) A6)
  (AU (AY (AW Bs (AW Mx (AW Bs (AW BW (AW Mx (pv 2) AF) (AW Mx AF (pv 1))) AF) AF) AF)))),?_⟩
 refine⟨_,rfl,_,rfl,a,_,rfl,.inl hS,_,_,rfl,rfl,_,rfl,?_⟩;have fin:∀x:Int,FU (BG (rI (λ_ j=>0<j) λi j=>.int (i % j)) (BG (rI IZ λi j=>.int (i*j)) (BG (rI (λ_ j=>0<j) λi j=>.int (i % j)) (BG (GQ λi j=>.int (i+j)) (BG (rI IZ λi j=>.int (i*j)) (Ar 2) (tC (.int 48271))) (BG (rI IZ λi j=>.int (i*j)) (tC (.int 16807)) (Ar 1))) (tC (.int 2147483647))) (tC (.int 69621))) (tC (.int 2147483629)))
   { nx:=λ_ H'=>Q .Ay H',rt:=Q } [some (.ref a),some (.int k),some (.int x)] H:=λx =>
  ⟨_,rfl,_,_,rfl,rfl,.inr ⟨by decide,by decide⟩,_,rfl,_,_,rfl,rfl,.inl ⟨by decide,by decide⟩,_,_,rfl,rfl,_,_,rfl,rfl,(show(0:Int)<2147483647 by decide),_,_,rfl,rfl,.inr ⟨by decide,by decide⟩,_,_,rfl,rfl,(show(0:Int)<2147483629 by decide),q _ ⟨Int.emod_nonneg _ (by decide),Int.emod_lt_of_pos _ (by decide)⟩⟩
 by_cases hk:k<(((ns.map V.int).length:Nat):Int)
 ·refine BQ hk ?_;rw[List.length_map] at hk;have hk':k.toNat<ns.length:=by omega
  have e:BN (ns.map V.int) ((k.toNat:Nat):Int)=some (.int ns[k.toNat]):=Al (by rw[List.getElem?_map,List.getElem?_eq_getElem hk']; rfl);rw[show((k.toNat:Nat):Int)=k by omega] at e;exact⟨_,rfl,_,rfl,a,_,_,_,rfl,rfl,hS,e,_,_,rfl,rfl,⟨by decide,by decide,by decide⟩,_,_,rfl,rfl,(show(0:Int)<10 ^ ((18:Int).toNat) by decide),fin _⟩
 ·exact BU hk (fin _)
inductive RK(vs:List V)(H:Hp)(Q:VK):Prop
 | mk (t b:Int) (h_0:vs=[.int t,.int b]) (h_1:0<b) (h_2:B3 b) (h_3:Nr H Q ((t:Rat) / (b:Rat))):RK vs H Q
def LK:Sp:=λvs H Q _=>RK vs H Q
theorem IT:Ak ["_law_top","_law_bottom","_law_a","_law_b","_law_rest"] ["_law_top","_law_bottom"] (Af s_law_lowest):=Ap
theorem Ye(a:Int):(if a<0 then -a else a)=(a.natAbs:Int):=by split <;> omega
theorem WA{x y:Int}(hy:0<y):Int.gcd y (x % y)=Int.gcd x y:=by
 have:=Pp x y
 rwa [Int.fmod_eq_emod_of_nonneg x (Int.le_of_lt hy)] at this
theorem Yv(F:Ag K "_law_lowest" "_law_lowest" s_law_lowest f fd)(ma:mg "abs" = none):AG P w K mg base AM 1 f fd ["_law_top","_law_bottom"] LK:=by
 refine F.ok IT (λvs H Q E h=>?_) (λcdv A outer s H vs Q E hr h=>?_)
 ·obtain⟨t,b,rfl,_⟩:=h;rfl
 obtain⟨t,b,rfl,hb,bb,q⟩:=h;refine⟨_,AR (Ab (i:=2) IT.nd rfl (Or.inl rfl) (BJ P6 (by rfl) ma YJ (AA (pv 0) AI)))
  (AR (Ab (i:=3) IT.nd rfl (Or.inl rfl) (pv 1))
  (AR (Py PassesOwn.never (Aw EV (pv 3) AF (Ai _))
   (AR (Ab (i:=4) IT.nd rfl (Or.inl rfl) (AW Bs (pv 2) (pv 3)))
   (AR (Ab (i:=2) IT.nd rfl (Or.inl rfl) (pv 3))
   (AU (Ab (i:=3) IT.nd rfl (Or.inl rfl) (pv 4))))))
  (AU (AY (A0 (AA (AW Hn (pv 0) (pv 2)) (AA (AW Hn (pv 1) (pv 2)) AI))))))),?_⟩
 refine⟨_,rfl,t,rfl,_,rfl,?_⟩;rw[Ye];refine Pk (λσ H2=>∃x y r,σ=[some (.int t),some (.int b),some (.int x),some (.int y),r]/\H2=H/\0<=x/\0<=y/\Int.gcd x y=Int.gcd t b) (λσ _=>match σ with | [_,_,_,some (.int y),_]=>y.natAbs | _=>0) ⟨_,_,none,rfl,rfl,by omega,by omega,by unfold Int.gcd; simp⟩ ?_ ?_
 ·rintro σ H2 ⟨x,y,r,rfl,rfl,x0,y0,gg⟩;refine⟨_,rfl,_,_,rfl,rfl,_,rfl,?_⟩;by_cases hy:(0:Int)<y
  ·refine BQ hy ?_;have m0:=Int.emod_nonneg x (Int.ne_of_gt hy);have m1:=Int.emod_lt_of_pos x hy;refine⟨_,rfl,_,rfl,_,_,rfl,rfl,hy,_,rfl,_,rfl,⟨y,x % y,_,rfl,rfl,y0,m0,(WA hy).trans gg⟩,?_⟩;show(x % y).natAbs<y.natAbs;omega
  ·refine BU hy ?_;have hy:y=0:=by omega
   subst hy;have gx:x=(Int.gcd t b:Int):=by
    have:=QG gg
    rw[if_neg (by omega)] at this;exact this
   have pe:Mth.part t b=x:=by unfold Mth.part; rw[if_neg (by omega),gx]
   have gp:0<Int.gcd t b:=Mth.Kr t b (by omega);have hx:IG t x:=⟨by omega,by rw[<-pe]; exact Nat.lt_of_le_of_lt (QF t b (by omega)) bb⟩;have ef:=Iu t b (by omega);unfold BB at ef;rw[pe] at ef;have e1:=congrArg Prod.fst ef;have e2:=congrArg Prod.snd ef;simp only at e1 e2;refine⟨_,rfl,_,rfl,_,_,rfl,rfl,hx,_,rfl,_,rfl,_,_,rfl,rfl,hx,by exact sz2,?_⟩
   (try dsimp only)
   rw[e1,e2];exact q
 ·rintro σ H2 Q1 Q2 hq ⟨v,e,i,j,e1,e2,b,eb,z⟩;exact⟨v,e,i,j,e1,e2,b,eb,hq _ _ z⟩
inductive Qs(vs:List V)(H:Hp)(Q:VK):Prop
 | mk (lo hi c:Int) (h_0:vs=[.int lo,.int hi,.int c]) (h_1:lo+3<=hi) (h_2:∀x y:Int,lo<x->x<y->y<hi->∀p,H p=none->Q (.ref p) (AK H p (.AH [.int x,.int y]))):Qs vs H Q
def M7:Sp:=λvs H Q _=>Qs vs H Q
theorem SM:Ak ["_law_low","_law_high","_law_cell","_law_first"] ["_law_low","_law_high","_law_cell"] (Af s_law_two):=Ap
theorem Yg(F:Ag K "_law_two" "_law_two" s_law_two f fd):AG P w K mg base AM 1 f fd ["_law_low","_law_high","_law_cell"] M7:=by
 refine F.ok SM (λvs H Q E h=>?_) (λcdv A outer s H vs Q E hr h=>?_)
 ·obtain⟨lo,hi,c,rfl,_⟩:=h;rfl
 obtain⟨lo,hi,c,rfl,hlh,q⟩:=h;refine⟨_,AR (Ab (i:=3) SM.nd rfl (Or.inl rfl) (AW BW (AW BW (pv 0) AF) (AW Bs (pv 2) (AW CI (AW CI (pv 1) (pv 0)) AF))))
  (AU (AY (A0 (AA (pv 3) (AA (AW BW (AW BW (pv 3) AF) (AW Bs (AW EL (pv 2) AF) (AW CI (AW CI (pv 1) (pv 3)) AF))) AI))))),?_⟩
 have h1:(0:Int)<hi-lo-2:=by omega
 have a0:=Int.emod_nonneg c (Int.ne_of_gt h1);have a1:=Int.emod_lt_of_pos c h1;refine⟨_,rfl,_,_,rfl,rfl,_,rfl,_,rfl,_,rfl,_,_,rfl,rfl,_,_,rfl,rfl,_,_,rfl,rfl,h1,_,_,rfl,rfl,?_⟩
 (try dsimp only)
 generalize hx:lo+1+c % (hi-lo-2)=x;have h2:(0:Int)<hi-x-1:=by omega
 have b0:=Int.emod_nonneg (c / 7) (Int.ne_of_gt h2);have b1:=Int.emod_lt_of_pos (c / 7) h2;exact⟨_,rfl,_,rfl,_,_,rfl,rfl,_,rfl,_,_,rfl,rfl,⟨by decide,by decide⟩,_,rfl,_,rfl,_,_,rfl,rfl,_,_,rfl,rfl,_,_,rfl,rfl,h2,_,_,rfl,rfl,by exact sz2,q x _ (by omega) (by omega) (by omega)⟩
abbrev S8(H:Hp)(Q:VK)(b:Bx)(n m:Nat):Prop:=∀(p:Addr) (H':Hp) (bs:List Bx),AQ H H'->Bi A4 H' p bs->n<=bs.length->bs.length<=m->ES b bs->Q (.ref p) H'
inductive Ph(vs:List V)(H:Hp)(Q:VK):Prop
 | mk (pb px py:Addr) (b:Bx) (x0 x1 y0 y1 way:Int) (h_0:vs=[.ref pb,.ref px,.ref py,.int way]) (h_1:A4 H pb b) (h_2:H px=some (.AH [.int x0,.int x1])) (h_3:H py=some (.AH [.int y0,.int y1])) (h_4:(b.l<x0/\x0<x1/\x1<b.r/\b.d<y0/\y0<y1/\y1<b.u)) (h_5:S8 H Q b 5 5):Ph vs H Q
def Mf:Sp:=λvs H Q _=>Ph vs H Q
theorem Hb:Ak ["_law_box","_law_x","_law_y","_law_way_here","_law_left","_law_low","_law_right","_law_high","_law_outer"] ["_law_box","_law_x","_law_y","_law_way_here"] (Af s_law_wheel):=Ap
set_option maxHeartbeats 4000000 in
theorem Vs(F:Ag K "_law_wheel" "_law_wheel" s_law_wheel f fd):AG P w K mg base AM 1 f fd ["_law_box","_law_x","_law_y","_law_way_here"] Mf:=by
 refine F.ok Hb (λvs H Q E h=>?_) (λcdv A outer s H vs Q E hr h=>?_)
 ·obtain⟨pb,px,py,b,x0,x1,y0,y1,way,rfl,_⟩:=h;rfl
 obtain⟨pb,px,py,⟨l,lo,r,hi⟩,x0,x1,y0,y1,way,rfl,hb,hx,hy,⟨i1,i2,i3,i4,i5,i6⟩,q⟩:=h;dsimp only[AE.l,AE.d,AE.r,AE.u] at i1 i2 i3 i4 i5 i6;refine⟨_,AR (JK (pv 0) (FQ (n:=4) (K:=K) rfl (Bp (A8 (i:=4) Hb.nd rfl (Or.inl rfl)) (Bp (A8 (i:=5) Hb.nd rfl (Or.inl rfl)) (Bp (A8 (i:=6) Hb.nd rfl (Or.inl rfl)) (Bp (A8 (i:=7) Hb.nd rfl (Or.inl rfl)) FG))))))
  (AR (A3 (Aw CQ (pv 3) AF (Ai _))
   (AU (Ab (i:=8) Hb.nd rfl (Or.inl rfl) (CU (AA (A0 (AA (pv 4) (AA (pv 5) (AA (pT K (pv 1) AF) (AA (pT K (pv 2) AF) AI)))))
    (AA (A0 (AA (pT K (pv 1) AF) (AA (pv 5) (AA (pv 6) (AA (pT K (pv 2) AF) AI)))))
    (AA (A0 (AA (pT K (pv 1) AF) (AA (pT K (pv 2) AF) (AA (pv 6) (AA (pv 7) AI)))))
    (AA (A0 (AA (pv 4) (AA (pT K (pv 2) AF) (AA (pT K (pv 1) AF) (AA (pv 7) AI))))) AI)))))))
   (AU (Ab (i:=8) Hb.nd rfl (Or.inl rfl) (CU (AA (A0 (AA (pT K (pv 1) AF) (AA (pv 5) (AA (pv 6) (AA (pT K (pv 2) AF) AI)))))
    (AA (A0 (AA (pT K (pv 1) AF) (AA (pT K (pv 2) AF) (AA (pv 6) (AA (pv 7) AI)))))
    (AA (A0 (AA (pv 4) (AA (pT K (pv 2) AF) (AA (pT K (pv 1) AF) (AA (pv 7) AI)))))
    (AA (A0 (AA (pv 4) (AA (pv 5) (AA (pT K (pv 1) AF) (AA (pT K (pv 2) AF) AI))))) AI))))))))
  (AU (AY (AW DT (pv 8) (CU (AA (A0 (AA (pT K (pv 1) AF) (AA (pT K (pv 2) AF) (AA (pT K (pv 1) AF) (AA (pT K (pv 2) AF) AI))))) AI)))))),?_⟩
 refine⟨_,rfl,pb,_,rfl,AJ.of hb,rfl,_,_,rfl,_,_,rfl,_,_,rfl,_,_,rfl,rfl,?_⟩;have fin:∀(H1:Hp) (p:Addr) (cs:List Addr) (bs:List Bx),AQ H H1->H1 p=some (.AN (cs.map V.ref))->At A4 H1 cs bs->bs.length=4->ES (l,lo,r,hi) (bs++[(x0,y0,x1,y1)]) →
   FU (BG SN (Ar 8) (Jm (Ax (Gs (Ax (BG (Ew K) (Ar 1) (tC (.int 0))) (Ax (BG (Ew K) (Ar 2) (tC (.int 0))) (Ax (BG (Ew K) (Ar 1) (tC (.int 1))) (Ax (BG (Ew K) (Ar 2) (tC (.int 1))) BH))))) BH)))
   { nx:=λ_ H'=>Q .Ay H',rt:=Q } [some (.ref pb),some (.ref px),some (.ref py),some (.int way),some (.int l),some (.int lo),some (.int r),some (.int hi),some (.ref p)] H1:=by
  intro H1 p cs bs s1 hp hA h4 hk;refine⟨_,rfl,_,rfl,px,_,_,_,rfl,rfl,AJ.of (s1 _ _ hx),C8,_,rfl,py,_,_,_,rfl,rfl,AJ.of (s1 _ _ hy),C8,_,rfl,px,_,_,_,rfl,rfl,AJ.of (s1 _ _ hx),Cf,_,rfl,py,_,_,_,rfl,rfl,AJ.of (s1 _ _ hy),Cf,by exact B7,λc hc=>?_⟩;have s2:=Ae hc (.AH [.int x0,.int y0,.int x1,.int y1]);have f2:A4 (AK H1 c (.AH [.int x0,.int y0,.int x1,.int y1])) c (x0,y0,x1,y1):=AX
  (try dsimp only)
  generalize AK H1 c (.AH [.int x0,.int y0,.int x1,.int y1])=H2 at s2 f2;refine⟨by exact sz1,λc2 hc2=>?_⟩;have s3:=Ae hc2 (.AN [.ref c]);have f3:(AK H2 c2 (.AN [.ref c])) c2=some (.AN [.ref c]):=AX
  try dsimp only
  generalize AK H2 c2 (.AN [.ref c])=H3 at s3 f3;have s23:=s2.trans s3;have lc:cs.length=4:=by rw[hA.1]; exact h4
  refine⟨p,c2,_,_,rfl,rfl,s23 _ _ hp,f3,by rw[List.length_map]; exact DO (by simp; omega),λc4 hc4=>?_⟩;have s4:=Ae hc4 (.AN (cs.map V.ref++[.ref c]));refine q c4 _ (bs++[(x0,y0,x1,y1)]) (s1.trans (s23.trans s4)) ⟨cs++[c],by rw[AX]; simp,((hA.keep Dk s23).snoc (s3 _ _ f2)).keep Dk s4⟩ (by simp[h4]) (by simp[h4]) hk
 refine⟨_,rfl,rfl,_,rfl,?_⟩;refine Ey (λ_=>?_) (λ_=>?_)
 ·refine⟨_,rfl,_,rfl,_,rfl,px,_,_,_,rfl,rfl,AJ.of hx,Cf,_,rfl,py,_,_,_,rfl,rfl,AJ.of hy,C8,by exact B7,λc1 hc1=>?_⟩;have s1:=Ae hc1 (.AH [.int l,.int lo,.int x1,.int y0]);have g1:A4 (AK H c1 (.AH [.int l,.int lo,.int x1,.int y0])) c1 (l,lo,x1,y0):=AX
  (try dsimp only)
  generalize AK H c1 (.AH [.int l,.int lo,.int x1,.int y0])=H1 at s1 g1;refine⟨_,rfl,px,_,_,_,rfl,rfl,AJ.of (s1 _ _ hx),Cf,_,rfl,_,rfl,_,rfl,py,_,_,_,rfl,rfl,AJ.of (s1 _ _ hy),Cf,by exact B7,λc2 hc2=>?_⟩;have s2:=Ae hc2 (.AH [.int x1,.int lo,.int r,.int y1]);have g2:A4 (AK H1 c2 (.AH [.int x1,.int lo,.int r,.int y1])) c2 (x1,lo,r,y1):=AX
  (try dsimp only)
  generalize AK H1 c2 (.AH [.int x1,.int lo,.int r,.int y1])=H2 at s2 g2;have s12:=s1.trans s2;refine⟨_,rfl,px,_,_,_,rfl,rfl,AJ.of (s12 _ _ hx),C8,_,rfl,py,_,_,_,rfl,rfl,AJ.of (s12 _ _ hy),Cf,_,rfl,_,rfl,by exact B7,λc3 hc3=>?_⟩;have s3:=Ae hc3 (.AH [.int x0,.int y1,.int r,.int hi]);have g3:A4 (AK H2 c3 (.AH [.int x0,.int y1,.int r,.int hi])) c3 (x0,y1,r,hi):=AX
  (try dsimp only)
  generalize AK H2 c3 (.AH [.int x0,.int y1,.int r,.int hi])=H3 at s3 g3;have s13:=s12.trans s3;refine⟨_,rfl,_,rfl,py,_,_,_,rfl,rfl,AJ.of (s13 _ _ hy),C8,_,rfl,px,_,_,_,rfl,rfl,AJ.of (s13 _ _ hx),C8,_,rfl,by exact B7,λc4 hc4=>?_⟩;have s4:=Ae hc4 (.AH [.int l,.int y0,.int x0,.int hi]);have g4:A4 (AK H3 c4 (.AH [.int l,.int y0,.int x0,.int hi])) c4 (l,y0,x0,hi):=AX
  (try dsimp only)
  generalize AK H3 c4 (.AH [.int l,.int y0,.int x0,.int hi])=H4 at s4 g4;refine⟨by exact B7,λc5 hc5=>?_⟩;have s5:=Ae hc5 (.AN [.ref c1,.ref c2,.ref c3,.ref c4]);have g5:(AK H4 c5 (.AN [.ref c1,.ref c2,.ref c3,.ref c4])) c5=some (.AN [.ref c1,.ref c2,.ref c3,.ref c4]):=AX
  try dsimp only
  generalize AK H4 c5 (.AN [.ref c1,.ref c2,.ref c3,.ref c4])=H5 at s5 g5;have A:At A4 H5 [c1,c2,c3,c4] [(l,lo,x1,y0),(x1,lo,r,y1),(x0,y1,r,hi),(l,y0,x0,hi)] :=
   (((At.nil.snoc (R:=A4) (b:=c1) (x:=(l,lo,x1,y0)) ((s2.trans (s3.trans (s4.trans s5))) _ _ g1)).snoc (b:=c2) (x:=(x1,lo,r,y1)) ((s3.trans (s4.trans s5)) _ _ g2)).snoc (b:=c3) (x:=(x0,y1,r,hi)) ((s4.trans s5) _ _ g3)).snoc (b:=c4) (x:=(l,y0,x0,hi)) (s5 _ _ g4)
  refine fin H5 c5 [c1,c2,c3,c4] _ (s13.trans (s4.trans s5)) g5 A rfl (Y3 (b:=(l,lo,r,hi)) i1 i2 i3 i4 i5 i6)
 ·refine⟨_,rfl,px,_,_,_,rfl,rfl,AJ.of hx,C8,_,rfl,_,rfl,_,rfl,py,_,_,_,rfl,rfl,AJ.of hy,C8,by exact B7,λc1 hc1=>?_⟩;have s1:=Ae hc1 (.AH [.int x0,.int lo,.int r,.int y0]);have g1:A4 (AK H c1 (.AH [.int x0,.int lo,.int r,.int y0])) c1 (x0,lo,r,y0):=AX
  (try dsimp only)
  generalize AK H c1 (.AH [.int x0,.int lo,.int r,.int y0])=H1 at s1 g1;refine⟨_,rfl,px,_,_,_,rfl,rfl,AJ.of (s1 _ _ hx),Cf,_,rfl,py,_,_,_,rfl,rfl,AJ.of (s1 _ _ hy),C8,_,rfl,_,rfl,by exact B7,λc2 hc2=>?_⟩;have s2:=Ae hc2 (.AH [.int x1,.int y0,.int r,.int hi]);have g2:A4 (AK H1 c2 (.AH [.int x1,.int y0,.int r,.int hi])) c2 (x1,y0,r,hi):=AX
  (try dsimp only)
  generalize AK H1 c2 (.AH [.int x1,.int y0,.int r,.int hi])=H2 at s2 g2;have s12:=s1.trans s2;refine⟨_,rfl,_,rfl,py,_,_,_,rfl,rfl,AJ.of (s12 _ _ hy),Cf,_,rfl,px,_,_,_,rfl,rfl,AJ.of (s12 _ _ hx),Cf,_,rfl,by exact B7,λc3 hc3=>?_⟩;have s3:=Ae hc3 (.AH [.int l,.int y1,.int x1,.int hi]);have g3:A4 (AK H2 c3 (.AH [.int l,.int y1,.int x1,.int hi])) c3 (l,y1,x1,hi):=AX
  (try dsimp only)
  generalize AK H2 c3 (.AH [.int l,.int y1,.int x1,.int hi])=H3 at s3 g3;have s13:=s12.trans s3;refine⟨_,rfl,_,rfl,_,rfl,px,_,_,_,rfl,rfl,AJ.of (s13 _ _ hx),C8,_,rfl,py,_,_,_,rfl,rfl,AJ.of (s13 _ _ hy),Cf,by exact B7,λc4 hc4=>?_⟩;have s4:=Ae hc4 (.AH [.int l,.int lo,.int x0,.int y1]);have g4:A4 (AK H3 c4 (.AH [.int l,.int lo,.int x0,.int y1])) c4 (l,lo,x0,y1):=AX
  (try dsimp only)
  generalize AK H3 c4 (.AH [.int l,.int lo,.int x0,.int y1])=H4 at s4 g4;refine⟨by exact B7,λc5 hc5=>?_⟩;have s5:=Ae hc5 (.AN [.ref c1,.ref c2,.ref c3,.ref c4]);have g5:(AK H4 c5 (.AN [.ref c1,.ref c2,.ref c3,.ref c4])) c5=some (.AN [.ref c1,.ref c2,.ref c3,.ref c4]):=AX
  try dsimp only
  generalize AK H4 c5 (.AN [.ref c1,.ref c2,.ref c3,.ref c4])=H5 at s5 g5;have A:At A4 H5 [c1,c2,c3,c4] [(x0,lo,r,y0),(x1,y0,r,hi),(l,y1,x1,hi),(l,lo,x0,y1)] :=
   (((At.nil.snoc (R:=A4) (b:=c1) (x:=(x0,lo,r,y0)) ((s2.trans (s3.trans (s4.trans s5))) _ _ g1)).snoc (b:=c2) (x:=(x1,y0,r,hi)) ((s3.trans (s4.trans s5)) _ _ g2)).snoc (b:=c3) (x:=(l,y1,x1,hi)) ((s4.trans s5) _ _ g3)).snoc (b:=c4) (x:=(l,lo,x0,y1)) (s5 _ _ g4)
  refine fin H5 c5 [c1,c2,c3,c4] _ (s13.trans (s4.trans s5)) g5 A rfl (Ys (b:=(l,lo,r,hi)) i1 i2 i3 i4 i5 i6)
inductive PB(vs:List V)(H:Hp)(Q:VK):Prop
 | mk (pb:Addr) (b:Bx) (c:Int) (h_0:vs=[.ref pb,.int c]) (h_1:A4 H pb b) (h_2:b.l<b.r) (h_3:b.d<b.u) (h_4:S8 H Q b 1 5):PB vs H Q
def MP:Sp:=λvs H Q _=>PB vs H Q
theorem Ex:Ak ["_law_box","_law_cell","_law_left","_law_low","_law_right","_law_high","_law_how","_law_x","_law_y"] ["_law_box","_law_cell"] (Af s_law_broken):=Ap
set_option maxHeartbeats 4000000 in
theorem VP (F:Ag K "_law_broken" "_law_broken" s_law_broken f fd) (G1:AG P w K mg base AM 1 f1 d1 ["_law_low","_law_high","_law_cell"] M7) (b1:AV K d1 ["_law_low","_law_high","_law_cell"] []) (k1:KP K f1) (m1:mg "_law_two" = some (.ref f1))
  (G2:AG P w K mg base AM 1 f2 d2 ["_law_box","_law_x","_law_y","_law_way_here"] Mf) (b2:AV K d2 ["_law_box","_law_x","_law_y","_law_way_here"] []) (k2:KP K f2) (m2:mg "_law_wheel" = some (.ref f2)) :
  AG P w K mg base AM 2 f fd ["_law_box","_law_cell"] MP:=by
 refine F.ok Ex (λvs H Q E h=>?_) (λcdv A outer s H vs Q E hr h=>?_)
 ·obtain⟨pb,b,c,rfl,_⟩:=h;rfl
 obtain⟨pb,⟨l,lo,r,hi⟩,c,rfl,hb,t1,t2,q⟩:=h;dsimp only[AE.l,AE.d,AE.r,AE.u] at t1 t2;refine⟨_,AR (JK (pv 0) (FQ (n:=4) (K:=K) rfl (Bp (A8 (i:=2) Ex.nd rfl (Or.inl rfl)) (Bp (A8 (i:=3) Ex.nd rfl (Or.inl rfl)) (Bp (A8 (i:=4) Ex.nd rfl (Or.inl rfl)) (Bp (A8 (i:=5) Ex.nd rfl (Or.inl rfl)) FG))))))
  (AR (Ab (i:=6) Ex.nd rfl (Or.inl rfl) (AW Bs (pv 1) AF))
  (AR (Ab (i:=1) Ex.nd rfl (Or.inl rfl) (AW EL (pv 1) AF))
  (AR (A3 (PW.pt (En (Aw CQ (pv 6) AF (Ai _)) (En (Aw EV (AW CI (pv 4) (pv 2)) AF (Ai _)) (GX (Aw EV (AW CI (pv 5) (pv 3)) AF (Ai _))))))
   (AR (Ab (i:=7) Ex.nd rfl (Or.inl rfl) (Ad G1 hr (by rfl) m1 k1 b1 .nil AZ (AA (pv 2) (AA (pv 4) (AA (AW EL (pv 1) AF) AI)))))
   (AR (Ab (i:=8) Ex.nd rfl (Or.inl rfl) (Ad G1 hr (by rfl) m1 k1 b1 .nil AZ (AA (pv 3) (AA (pv 5) (AA (AW EL (pv 1) AF) AI)))))
   (AU (AY (Ad G2 hr (by rfl) m2 k2 b2 .nil AZ (AA (pv 0) (AA (pv 7) (AA (pv 8) (AA (AW Bs (pv 1) AF) AI))))))))) A6)
  (AR (A3 (PW.pt (En (Aw CQ (AW Bs (pv 6) AF) AF (Ai _)) (GX (Aw EV (AW CI (pv 4) (pv 2)) AF (Ai _)))))
   (AR (Ab (i:=7) Ex.nd rfl (Or.inl rfl) (AW BW (AW BW (pv 2) AF) (AW Bs (pv 1) (AW CI (AW CI (pv 4) (pv 2)) AF))))
   (AU (AY (CU (AA (A0 (AA (pv 2) (AA (pv 3) (AA (pv 7) (AA (pv 5) AI))))) (AA (A0 (AA (pv 7) (AA (pv 3) (AA (pv 4) (AA (pv 5) AI))))) AI)))))) A6)
  (AR (A3 (Aw EV (AW CI (pv 5) (pv 3)) AF (Ai _))
   (AR (Ab (i:=8) Ex.nd rfl (Or.inl rfl) (AW BW (AW BW (pv 3) AF) (AW Bs (pv 1) (AW CI (AW CI (pv 5) (pv 3)) AF))))
   (AU (AY (CU (AA (A0 (AA (pv 2) (AA (pv 3) (AA (pv 4) (AA (pv 8) AI))))) (AA (A0 (AA (pv 2) (AA (pv 8) (AA (pv 4) (AA (pv 5) AI))))) AI)))))) A6)
  (AU (AY (CU (AA (pv 0) AI))))))))),?_⟩
 refine⟨_,rfl,pb,_,rfl,AJ.of hb,rfl,_,_,rfl,_,_,rfl,_,_,rfl,_,_,rfl,rfl,?_⟩;refine⟨_,rfl,_,_,rfl,rfl,(show(0:Int)<5 by decide),_,rfl,_,_,rfl,rfl,⟨by decide,by decide⟩,?_⟩;have fin2:∀(a1 b1 c1 d1 a2 b2 c2 d2:Int),ES (l,lo,r,hi) [(a1,b1,c1,d1),(a2,b2,c2,d2)]->∀p,H p=none->∀p2,(AK H p (.AH [.int a1,.int b1,.int c1,.int d1])) p2=none->∀p3,(AK (AK H p (.AH [.int a1,.int b1,.int c1,.int d1])) p2 (.AH [.int a2,.int b2,.int c2,.int d2])) p3=none →
   Q (.ref p3) (AK (AK (AK H p (.AH [.int a1,.int b1,.int c1,.int d1])) p2 (.AH [.int a2,.int b2,.int c2,.int d2])) p3 (.AN [.ref p,.ref p2])):=by
  intro a1 b1 c1 d1 a2 b2 c2 d2 pt p hp p2 hp2 p3 hp3;obtain⟨H1,e1,s1,g1⟩:=Hs hp a1 b1 c1 d1;rw[e1] at hp2 hp3 ⊢;obtain⟨H2,e2,s2,g2⟩:=Hs hp2 a2 b2 c2 d2;rw[e2] at hp3 ⊢;have s3:=Ae hp3 (.AN [.ref p,.ref p2]);refine q p3 _ [(a1,b1,c1,d1),(a2,b2,c2,d2)] (s1.trans (s2.trans s3)) ⟨[p,p2],AX,(At.nil.snoc (R:=A4) (b:=p) (x:=(a1,b1,c1,d1)) ((s2.trans s3) _ _ g1)).snoc (b:=p2) (x:=(a2,b2,c2,d2)) (s3 _ _ g2)⟩ (by simp) (by simp) pt
 refine⟨_,rfl,rfl,_,rfl,?_⟩;apply NC
 case m =>
  intro rest;refine Ey (λ_=>⟨_,rfl,_,rfl,_,_,rfl,rfl,_,_,rfl,rfl,_,rfl,?_⟩) (λ_=>rest);by_cases h2:(2:Int)<r-l
  ·refine BQ h2 ⟨_,rfl,_,rfl,_,_,rfl,rfl,_,_,rfl,rfl,_,rfl,?_⟩;by_cases h3:(2:Int)<hi-lo
   ·refine BQ h3 ?_;refine⟨_,rfl,_,rfl,_,rfl,_,_,rfl,rfl,⟨by decide,by decide⟩,l,r,_,rfl,by omega,λx0 x1 q1 q2 q3 px hpx=>?_⟩;have s1:=Ae hpx (.AH [.int x0,.int x1]);have g1:(AK H px (.AH [.int x0,.int x1])) px=some (.AH [.int x0,.int x1]):=AX;generalize AK H px (.AH [.int x0,.int x1])=H1 at s1 g1;refine⟨_,rfl,_,rfl,_,rfl,_,_,rfl,rfl,⟨by decide,by decide⟩,lo,hi,_,rfl,by omega,λy0 y1 q4 q5 q6 py hpy=>?_⟩;have s2:=Ae hpy (.AH [.int y0,.int y1]);have g2:(AK H1 py (.AH [.int y0,.int y1])) py=some (.AH [.int y0,.int y1]):=AX;generalize AK H1 py (.AH [.int y0,.int y1])=H2 at s2 g2;exact⟨_,rfl,_,rfl,_,rfl,_,rfl,_,_,rfl,rfl,(show(0:Int)<2 by decide),pb,px,py,(l,lo,r,hi),x0,x1,y0,y1,_,rfl,Dk (s1.trans s2) hb,s2 _ _ g1,g2,⟨q1,q2,q3,q4,q5,q6⟩,λp H' bs s3 hL n1 n2 hk=>q p H' bs ((s1.trans s2).trans s3) hL (by omega) n2 hk⟩
   ·exact BU h3 rest
  ·exact BU h2 rest
 case r =>
  refine⟨_,rfl,_,_,rfl,rfl,(show(0:Int)<2 by decide),rfl,_,rfl,?_⟩;apply NC
  case m =>
   intro rest;refine Ey (λ_=>⟨_,rfl,_,rfl,_,_,rfl,rfl,_,_,rfl,rfl,_,rfl,?_⟩) (λ_=>rest);by_cases h2:(1:Int)<r-l
   ·refine BQ h2 ?_;have h1:(0:Int)<r-l-1:=by omega
    have a0:=Int.emod_nonneg (c / 5) (Int.ne_of_gt h1);have a1:=Int.emod_lt_of_pos (c / 5) h1;refine⟨_,rfl,_,_,rfl,rfl,_,rfl,_,rfl,_,rfl,_,_,rfl,rfl,_,_,rfl,rfl,_,_,rfl,rfl,h1,_,_,rfl,rfl,?_⟩
    (try dsimp only)
    generalize hx:l+1+c / 5 % (r-l-1)=x;refine⟨_,rfl,_,rfl,_,rfl,_,rfl,by exact B7,λp hp=>⟨_,rfl,_,rfl,_,rfl,_,rfl,by exact B7,λp2 hp2=>⟨by exact sz2,λp3 hp3=>?_⟩⟩⟩;exact fin2 l lo x hi x lo r hi (LQ (b:=(l,lo,r,hi)) (by show l<x; omega) (by show x<r; omega) t2) p hp p2 hp2 p3 hp3
   ·exact BU h2 rest
  case r =>
   refine⟨_,rfl,_,rfl,_,_,rfl,rfl,_,_,rfl,rfl,_,rfl,?_⟩;by_cases h2:(1:Int)<hi-lo
   ·refine BQ h2 ?_;have h1:(0:Int)<hi-lo-1:=by omega
    have a0:=Int.emod_nonneg (c / 5) (Int.ne_of_gt h1);have a1:=Int.emod_lt_of_pos (c / 5) h1;refine⟨_,rfl,_,_,rfl,rfl,_,rfl,_,rfl,_,rfl,_,_,rfl,rfl,_,_,rfl,rfl,_,_,rfl,rfl,h1,_,_,rfl,rfl,?_⟩
    (try dsimp only)
    generalize hy:lo+1+c / 5 % (hi-lo-1)=y;refine⟨_,rfl,_,rfl,_,rfl,_,rfl,by exact B7,λp hp=>⟨_,rfl,_,rfl,_,rfl,_,rfl,by exact B7,λp2 hp2=>⟨by exact sz2,λp3 hp3=>?_⟩⟩⟩;exact fin2 l lo r y l y r hi (LW (b:=(l,lo,r,hi)) (by show lo<y; omega) (by show y<hi; omega) t1) p hp p2 hp2 p3 hp3
   ·refine BU h2 ⟨_,rfl,by exact sz1,λp hp=>?_⟩;have s1:=Ae hp (.AN [.ref pb]);refine q p _ [(l,lo,r,hi)] s1 ⟨[pb],AX,At.nil.snoc (R:=A4) (b:=pb) (x:=(l,lo,r,hi)) (s1 _ _ hb)⟩ (by simp) (by simp) (Ud t1 t2)
theorem XN{xs:List V}{x:V}(h:xs[xs.length-1]?=some x)(n:0<xs.length):BN xs (-1)=some x:=by
 unfold BN Fc;rw[if_neg (by omega),if_pos (by omega),show((-1:Int)+(xs.length:Int)).toNat=xs.length-1 by omega];exact h
theorem WL(xs:List V)(n:0<xs.length):Bv xs none (some (-1))=xs.dropLast:=by
 unfold Bv;have e1:HT.Ao xs.length 0 none=0:=rfl;have e2:HT.Ao xs.length xs.length (some (-1))=xs.length-1:=by
  simp only[HT.Ao];split <;> omega
 rw[e1,e2,List.dropLast_eq_take]; simp
structure GL(w h:Int)(bs:List Bx):Prop where
 Fw:CC w h bs
 tru:∀b∈bs,b.l<b.r/\b.d<b.u
theorem GL.Lq{w h:Int}{bs ps:List Bx}{b pL:Bx}{j:Nat}(t:GL w h bs)(eb:bs[j]?=some b)(p:ES b ps)(pl:ps[ps.length-1]?=some pL):GL w h (bs.take j++[pL]++bs.drop (j+1)++ps.dropLast):=by
 obtain⟨hj,ej⟩:=List.getElem?_eq_some_iff.mp eb;have e1:bs=bs.take j++b :: bs.drop (j+1):=by rw[<-ej,<-List.drop_eq_getElem_cons hj]; exact(List.take_append_drop j bs).symm
 have hn:ps≠[]:=by rintro rfl; simp at pl
 have e2:ps=ps.dropLast++[pL]:=by
  have:=List.dropLast_concat_getLast hn
  rw[List.getLast_eq_getElem] at this;obtain⟨q1,q2⟩:=List.getElem?_eq_some_iff.mp pl;rw[q2] at this;exact this.symm
 have tt:=t.Fw;rw[e1] at tt;have t2:=tt.Lq p;have pm:(bs.take j++[pL]++bs.drop (j+1)++ps.dropLast).Perm (bs.take j++ps++bs.drop (j+1)):=by
  conv=>rhs; rw[e2]
  rw[List.append_assoc,List.append_assoc,List.append_assoc];refine List.Perm.append_left _ ?_;rw[<-List.append_assoc];refine(List.perm_append_comm).trans ?_;rw[List.append_assoc,<-List.append_assoc]
 refine⟨t2.Gm pm,λc hc=>?_⟩;have hc2:=pm.mem_iff.mp hc;simp only[List.mem_append] at hc2;rcases hc2 with (z | z) | z
 ·exact t.tru c (List.mem_of_mem_take z)
 ·exact p.ok c z
 ·exact t.tru c (List.mem_of_mem_drop z)
abbrev bP(H:Hp)(Q:VK)(w h:Int)(n m:Nat):Prop:=∀(p:Addr) (H':Hp) (bs:List Bx),AQ H H'->Bi A4 H' p bs->n<=bs.length->bs.length<=m->GL w h bs->Q (.ref p) H'
inductive Pa(K:PySem.W.Frag)(vs:List V)(H:Hp)(Q:VK):Prop
 | mk (a:Addr) (ns:List Int) (wd hg:Int) (h_0:vs=[.ref a,.int 4,.int 30,.int wd,.int hg,.int 12]) (h_1:Lv K H a ns) (h_2:0<wd) (h_3:0<hg) (h_4:bP H Q wd hg 1 12):Pa K vs H Q
def Mc(K:PySem.W.Frag):Sp:=λvs H Q _=>Pa K vs H Q
theorem Ha:Ak ["_law_script","_law_first","_law_last","_law_wide","_law_high","_law_most","_law_boxes","_law_k","_law_cell","_law_at","_law_parts"] ["_law_script","_law_first","_law_last","_law_wide","_law_high","_law_most"] (Af s_law_built):=Ap
set_option maxHeartbeats 4000000 in
theorem V5 (F:Ag K "_law_built" "_law_built" s_law_built f fd) (G1:AG P w K mg base AM 1 f1 d1 ["_law_script","_law_k"] (Hz K)) (b1:AV K d1 ["_law_script","_law_k"] []) (k1:KP K f1) (m1:mg "_law_cell_at" = some (.ref f1))
  (G2:AG P w K mg base AM 2 f2 d2 ["_law_box","_law_cell"] MP) (b2:AV K d2 ["_law_box","_law_cell"] []) (k2:KP K f2) (m2:mg "_law_broken" = some (.ref f2)) (ml:mg "len" = none) (mn:mg "min" = none) (mr:mg "range" = none) :
  AG P w K mg base AM 3 f fd ["_law_script","_law_first","_law_last","_law_wide","_law_high","_law_most"] (Mc K):=by
 refine F.ok Ha (λvs H Q E h=>?_) (λcdv A outer s H vs Q E hr h=>?_)
 ·obtain⟨a,ns,wd,hg,rfl,_⟩:=h;rfl
 obtain⟨a,ns,wd,hg,rfl,hS,kw,kh,q⟩:=h;have hr1:=hr.mono (show 1<=2 by decide);refine⟨_,AR (Ab (i:=6) Ha.nd rfl (Or.inl rfl) (CU (AA (A0 (AA AF (AA AF (AA (pv 3) (AA (pv 4) AI))))) AI)))
  (AR (DE PassesOwn.never rfl (KI (by rfl) mr (AA (pv 1) (AA (BJ (Io rfl) (by rfl) mn JM (AA (BJ (Ci (K:=K)) (by rfl) ml Cj (AA (pv 0) AI)) (AA (pv 2) AI))) AI))) (A8 (i:=7) Ha.nd rfl (Or.inl rfl))
   (AR (Ab (i:=8) Ha.nd rfl (Or.inl rfl) (Ad G1 hr1 (by rfl) m1 k1 b1 .nil AZ (AA (pv 0) (AA (pv 7) AI))))
   (AR (Ab (i:=9) Ha.nd rfl (Or.inl rfl) (AW Bs (pv 8) (BJ (Ci (K:=K)) (by rfl) ml Cj (AA (pv 6) AI))))
   (AR (Ab (i:=10) Ha.nd rfl (Or.inl rfl) (Ad G2 hr (by rfl) m2 k2 b2 .nil AZ (AA (pL K (pv 6) (pv 9)) (AA (AW EL (pv 8) AF) AI))))
   (AU (A3 (Aw IK (AW BW (BJ (Ci (K:=K)) (by rfl) ml Cj (AA (pv 6) AI)) (BJ (Ci (K:=K)) (by rfl) ml Cj (AA (pv 10) AI))) (AW BW (pv 5) AF) (Ai _))
    (AU (Ab (i:=6) Ha.nd rfl (Or.inl rfl) (AW DT (AW DT (AW DT (EK (FY (K:=K)) (pv 6) Ej (D4 (pv 9))) (CU (AA (pL K (pv 10) (NF Mr AF)) AI))) (EK (FY (K:=K)) (pv 6) (D4 (AW BW (pv 9) AF)) Ej)) (EK (FY (K:=K)) (pv 10) Ej (D4 (NF Mr AF)))))) A6))))))
  (AU (AY (pv 6)))),?_⟩
 refine⟨_,rfl,_,rfl,by exact B7,λc0 hc0=>?_⟩;obtain⟨H1,e1,s1,g1⟩:=Hs hc0 0 0 wd hg;rw[e1];refine⟨by exact sz1,λL0 hL0=>?_⟩;obtain⟨H2,e2,s2,g2⟩:=Cg hL0 [.ref c0];rw[e2];have s12:=s1.trans s2;refine⟨_,rfl,_,rfl,a,_,rfl,.inl (s12.seq hS.1),_,rfl,_,_,rfl,?_⟩;obtain⟨L,hL,L0',L1⟩:∃L:Int,(if (30:Int)<(((ns.map V.int).length:Nat):Int) then (30:Int) else (((ns.map V.int).length:Nat):Int))=L/\0<=L/\L<=30:=⟨_,rfl,by split <;> omega,by split <;> omega⟩;rw[hL];refine⟨_,_,rfl,⟨by omega,by omega,by omega,by omega⟩,?_⟩;refine HI (lo:=4) (n:=(L-4).toNat) (λi σ H3=>AQ H H3/\∃(p:Addr) (bs:List Bx) (u7 u8 u9 u10:Option V),σ=[some (.ref a),some (.int 4),some (.int 30),some (.int wd),some (.int hg),some (.int 12),some (.ref p),u7,u8,u9,u10]/\Bi A4 H3 p bs/\1<=bs.length/\bs.length<=12/\GL wd hg bs)
  ⟨s12,L0,[(0,0,wd,hg)],none,none,none,none,rfl,⟨[c0],g2,At.nil.snoc (R:=A4) (b:=c0) (x:=(0,0,wd,hg)) (s2 _ _ g1)⟩,by simp,by simp,⟨UC kw kh,λb hb=>by rw[List.mem_singleton.mp hb]; exact⟨kw,kh⟩⟩⟩ ?_ ?_
 ·rintro i σ H3 hi ⟨s3,p,bs,u7,u8,u9,u10,rfl,⟨cs,hp,hC⟩,n1,n2,kb⟩;have lc:cs.length=bs.length:=hC.1;have lm:(cs.map V.ref).length=bs.length:=by rw[List.length_map,lc]
  refine⟨_,rfl,_,rfl,a,ns,_,rfl,⟨s3.seq hS.1,hS.2⟩,by omega,λz hz=>?_⟩;have zp:(0:Int)<((cs.map V.ref).length:Int):=by omega
  refine⟨_,rfl,_,rfl,p,_,rfl,.inl (AS.of hp),_,_,rfl,rfl,zp,?_⟩;have y0:=Int.emod_nonneg z (Int.ne_of_gt zp);have y1:=Int.emod_lt_of_pos z zp;obtain⟨j,hj⟩:=Int.eq_ofNat_of_zero_le y0;rw[hj] at y1;have jl:j<bs.length:=by omega
  have eb:bs[j]?=some bs[j]:=List.getElem?_eq_getElem jl;generalize bs[j]=b at eb;obtain⟨c,hc,fb⟩:=hC.get eb;have hat:BN (cs.map V.ref) (z % ((cs.map V.ref).length:Int))=some (.ref c):=by rw[hj]; exact Al (BA hc)
  refine⟨_,rfl,_,rfl,p,_,_,_,rfl,rfl,AS.of hp,hat,_,rfl,_,_,rfl,rfl,⟨by decide,by decide⟩,c,b,_,rfl,fb,(kb.tru b (List.mem_of_getElem? eb)).1,(kb.tru b (List.mem_of_getElem? eb)).2,λpp H4 ps s4 ⟨ds,hpp,hD⟩ m1' m5 kp=>?_⟩;have ld:ds.length=ps.length:=hD.1;have hp4:=s4 _ _ hp;refine⟨_,rfl,p,_,rfl,.inl (AS.of hp4),_,rfl,pp,_,rfl,.inl (AS.of hpp),_,_,rfl,rfl,_,rfl,_,_,rfl,rfl,_,_,rfl,rfl,_,rfl,?_⟩;by_cases hle:(((cs.map V.ref).length:Nat):Int)+(((ds.map V.ref).length:Nat):Int)<=12+1
  ·refine BQ hle ?_;rw[lm,List.length_map,ld] at hle;refine⟨_,rfl,_,rfl,_,rfl,p,_,rfl,AS.of hp4,λq1 hq1=>?_⟩;rw[show Bv (cs.map V.ref) none (some (z % ((cs.map V.ref).length:Int)))=(cs.take j).map V.ref by rw[hj]; exact(Iz _ (by omega)).trans (List.map_take ..).symm];obtain⟨H5,e5,s5,g5⟩:=Cg hq1 ((cs.take j).map V.ref);rw[e5];have dl:ds[ds.length-1]?=some ds[ds.length-1]:=List.getElem?_eq_getElem (by omega);generalize ds[ds.length-1]=dL at dl;refine⟨_,rfl,_,rfl,pp,_,_,_,rfl,rfl,AS.of (s5 _ _ hpp),XN (by rw[List.length_map]; exact BA dl) (by rw[List.length_map]; omega),by exact sz1,λq2 hq2=>?_⟩;obtain⟨H6,e6,s6,g6⟩:=Cg hq2 [.ref dL];rw[e6];refine⟨q1,q2,_,_,rfl,rfl,s6 _ _ g5,g6,by simp; exact DO (by omega),λq3 hq3=>?_⟩;obtain⟨H7,e7,s7,g7⟩:=Cg hq3 ((cs.take j).map V.ref++[.ref dL]);rw[e7];have s57:=s5.trans (s6.trans s7);refine⟨_,rfl,_,rfl,_,_,rfl,rfl,_,rfl,p,_,rfl,AS.of (s57 _ _ hp4),λq4 hq4=>?_⟩;rw[show Bv (cs.map V.ref) (some (z % ((cs.map V.ref).length:Int)+1)) none=(cs.drop (j+1)).map V.ref by rw[hj]; exact(Ir (j:=j+1) _ (by omega)).trans (List.map_drop ..).symm];obtain⟨H8,e8,s8,g8⟩:=Cg hq4 ((cs.drop (j+1)).map V.ref);rw[e8];refine⟨q3,q4,_,_,rfl,rfl,s8 _ _ g7,g8,by simp; exact DO (by omega),λq5 hq5=>?_⟩;obtain⟨H9,e9,s9,g9⟩:=Cg hq5 ((cs.take j).map V.ref++[.ref dL]++(cs.drop (j+1)).map V.ref);rw[e9];have s59:=s57.trans (s8.trans s9);refine⟨_,rfl,_,rfl,_,rfl,pp,_,rfl,AS.of (s59 _ _ hpp),λq6 hq6=>?_⟩;rw[WL _ (by rw[List.length_map]; omega),<-List.map_dropLast];obtain⟨H10,e10,s10,g10⟩:=Cg hq6 (ds.dropLast.map V.ref);rw[e10];refine⟨q5,q6,_,_,rfl,rfl,s10 _ _ g9,g10,by simp; exact DO (by omega),λq7 hq7=>?_⟩;have s11:=Ae hq7 (.AN ((cs.take j).map V.ref++[.ref dL]++(cs.drop (j+1)).map V.ref++ds.dropLast.map V.ref));have s511:=s59.trans (s10.trans s11);have pl:ps[ps.length-1]?=some ps[ps.length-1]:=List.getElem?_eq_getElem (by omega);generalize ps[ps.length-1]=pL at pl;have hdL:A4 H4 dL pL:=hD.2 _ _ _ dl (by rw[ld]; exact pl);have A1:At A4 H4 (cs.take j++[dL]++cs.drop (j+1)++ds.dropLast) (bs.take j++[pL]++bs.drop (j+1)++ps.dropLast):=by
    refine((((hC.keep Dk s4).take j).snoc hdL).E7 ((hC.keep Dk s4).drop (j+1))).E7 ?_;rw[List.dropLast_eq_take,List.dropLast_eq_take,ld];exact hD.take _
   refine⟨s3.trans (s4.trans s511),q7,bs.take j++[pL]++bs.drop (j+1)++ps.dropLast,_,_,_,_,rfl,⟨_,by rw[AX]; simp,A1.keep Dk s511⟩,by simp; omega,by simp; omega,kb.Lq eb kp pl⟩
  ·exact BU hle ⟨s3.trans s4,p,bs,_,_,_,_,rfl,⟨cs,hp4,hC.keep Dk s4⟩,n1,n2,kb⟩
 ·rintro σ H3 ⟨s3,p,bs,u7,u8,u9,u10,rfl,hL3,n1,n2,kb⟩;exact⟨_,rfl,q p H3 bs s3 hL3 n1 n2 kb⟩
inductive RG(vs:List V)(H:Hp)(Q:VK):Prop
 | mk (n:Int) (p:Addr) (c:Rat) (h_0:vs=[.int n,.ref p]) (h_1:Ac H p c) (h_2:Sb 7 13 c) (h_3:n.natAbs<=2 ^ 20) (h_4:Nr H Q ((n:Rat)*c)):RG vs H Q
def Ja:Sp:=λvs H Q _=>RG vs H Q
theorem aD:Ak ["_law_number","_law_scale"] ["_law_number","_law_scale"] (Af s_law_scaled_one):=Ap
theorem Q6(n:Int)(c:Rat):(((n*c.num:Int)):Rat) / ((c.den:Int):Rat)=(n:Rat)*c:=by
 rw[Rat.intCast_mul,Rat.div_def,Rat.mul_assoc,<-Rat.div_def,RN]
theorem Yh(F:Ag K "_law_scaled_one" "_law_scaled_one" s_law_scaled_one f fd)(G:AG P w K mg base AM 1 g gd ["_law_top","_law_bottom"] LK)(bG:AV K gd ["_law_top","_law_bottom"] [])(kG:KP K g)(mG:mg "_law_lowest" = some (.ref g)):
  AG P w K mg base AM 2 f fd ["_law_number","_law_scale"] Ja:=by
 refine F.ok aD (λvs H Q E h=>?_) (λcdv A outer s H vs Q E hr h=>?_)
 ·obtain⟨n,p,c,rfl,_⟩:=h;rfl
 obtain⟨n,p,c,rfl,hp,sc,nb,q⟩:=h;refine⟨_,AU (AY (Ad G hr (by rfl) mG kG bG .nil AZ (AA (AW JD (pv 0) (pT K (pv 1) AF)) (AA (pT K (pv 1) AF) AI)))),?_⟩;have dn:=c.den_nz;refine⟨_,rfl,_,rfl,p,_,_,_,rfl,rfl,AJ.of hp,C8,_,_,rfl,rfl,⟨EX nb (by decide),EX sc.1 (by decide)⟩,_,rfl,p,_,_,_,rfl,rfl,AJ.of hp,Cf,_,_,rfl,by omega,EX (n:=13) (by rw[Int.natAbs_natCast]; exact sc.2) (by decide),?_⟩;rw[Q6];exact q
abbrev Dy(b:Bx):List Int:=[b.1,b.2.1,b.2.2.1,b.2.2.2]
abbrev CP(b:Bx):Prop:=∀x∈Dy b,x.natAbs<=2 ^ 20
inductive RE(vs:List V)(H:Hp)(Q:VK):Prop
 | mk (pb p:Addr) (b:Bx) (c:Rat) (h_0:vs=[.ref pb,.ref p]) (h_1:A4 H pb b) (h_2:Ac H p c) (h_3:Sb 7 13 c) (h_4:CP b) (h_5:∀t H',AQ H H'->A7 Ac H' t ((Dy b).map λ(x:Int)=>(x:Rat)*c)->Q (.ref t) H'):RE vs H Q
def LV:Sp:=λvs H Q _=>RE vs H Q
theorem Zn:Ak ["_law_box","_law_scale"] ["_law_box","_law_scale"] (Af s_law_scaled):=Ap
theorem Z5:(["_law_part","_law_scale"]:List Str).Nodup:=by decide +kernel
theorem YM(F:Ag K "_law_scaled" "_law_scaled" s_law_scaled f fd)(G:AG P w K mg base AM 2 g gd ["_law_number","_law_scale"] Ja)(bG:AV K gd ["_law_number","_law_scale"] [])(kG:KP K g)(mG:mg "_law_scaled_one" = some (.ref g))(mt:mg "tuple" = none):
  AG P w K mg base AM 3 f fd ["_law_box","_law_scale"] LV:=by
 refine F.ok Zn (λvs H Q E h=>?_) (λcdv A outer s H vs Q E hr h=>?_)
 ·obtain⟨pb,p,b,c,rfl,_⟩:=h;rfl
 obtain⟨pb,p,b,c,rfl,hb,hp,sc,bw,q⟩:=h;refine⟨_,AU (AY (EJ Ik (by rfl) mt Hr (AA (Ht (Nc:=["_law_part","_law_scale"]) (cap:=[(1,1)]) (g:=CW 0) (te:=Es Ja [] E0 (Ax (Ar 0) (Ax (Ar 1) BH))) rfl (JR (pv 0))
   (Ek rfl rfl (by decide +kernel) (by decide +kernel) (List.forall_mem_cons.mpr ⟨⟨rfl,rfl⟩,List.forall_mem_nil _⟩) rfl (List.forall_mem_cons.mpr ⟨⟨_,_,rfl,rfl,rfl,rfl,rfl⟩,List.forall_mem_nil _⟩))
   (λ_ _ _ _ _=>A8 (i:=0) Z5 rfl (Or.inl rfl)) (λ_ _ _ _ _=>Ad G hr (by rfl) mG kG bG .nil AZ (AA (pv 0) (AA (pv 1) AI)))) AI))),?_⟩
 have hb':H pb=some (.AH ((Dy b).map V.int)):=hb;refine⟨_,rfl,pb,rfl,⟨_,AJ.of hb'⟩,λacc hacc=>?_⟩;refine Fj (JC hb') (by show 4<=1000; decide) hacc (λi ys σ hp=>∃es:List Addr,ys=es.map V.ref/\At Ac hp es (((Dy b).map λ(x:Int)=>(x:Rat)*c).take i)/\∃u,σ=[u,some (.ref p)]) ⟨[],rfl,At.nil,none,rfl⟩ ?_ ?_
 ·rintro i ys σ H2 x H3 hi sm hacc2 ⟨es,rfl,hE,u,rfl⟩ ⟨rfl,hx⟩ Cc hC;obtain⟨e,rfl,he⟩:=Qm hx;refine⟨_,rfl,_,rfl,e,p,c,rfl,sm _ _ hp,sc,bw e (List.mem_of_getElem? he),λt ht=>?_⟩;have st:=Ae ht (.AH [.int ((e:Rat)*c).num,.int ((e:Rat)*c).den]);refine hC _ _ _ st ⟨es++[t],by simp,?_,_,rfl⟩;have ec:((Dy b).map λ(x:Int)=>(x:Rat)*c)[i]?=some ((e:Rat)*c):=by rw[List.getElem?_map,he]; rfl
  rw[EG ec];exact(hE.keep ET (HJ acc st)).snoc (Ac.del (q:=(e:Rat)*c) AX (st _ _ hacc2))
 rintro ys σ H2 s2 hacc2 hl2 ⟨es,rfl,hE,u,rfl⟩;rw[List.take_of_length_le (by simp)] at hE;refine⟨acc,_,rfl,.inl ⟨AS.of hacc2,λt ht=>?_⟩⟩;have st:=Ae ht (.AH (es.map V.ref));exact q t _ (s2.trans st) ⟨es,AX,(hE.keep ET (HL H2 acc)).keep ET st⟩
abbrev Am(c:Rat)(bs:List Bx):List (List Rat):=bs.map λb=>(Dy b).map λ(x:Int)=>(x:Rat)*c
inductive RJ(vs:List V)(H:Hp)(Q:VK):Prop
 | mk (pb p:Addr) (bs:List Bx) (wd hg:Int) (c:Rat) (h_0:vs=[.ref pb,.int wd,.int hg,.ref p]) (h_1:Bi A4 H pb bs) (h_2:bs.length<=40) (h_3:Ac H p c) (h_4:Sb 7 13 c) (h_5:wd.natAbs<=2 ^ 20) (h_6:hg.natAbs<=2 ^ 20) (h_7:(∀b∈bs,CP b)) (h_8:∀t H',AQ H H'->BV H' t ((wd:Rat)*c) ((hg:Rat)*c) (Am c bs)->Q (.ref t) H'):RJ vs H Q
def LX:Sp:=λvs H Q _=>RJ vs H Q
theorem SU:Ak ["_law_boxes","_law_wide","_law_high","_law_scale","_law_rectangles"] ["_law_boxes","_law_wide","_law_high","_law_scale"] (Af s_law_floor_of):=Ap
theorem aW:(["_law_box","_law_scale"]:List Str).Nodup:=by decide +kernel
theorem Yk (F:Ag K "_law_floor_of" "_law_floor_of" s_law_floor_of f fd) (G1:AG P w K mg base AM 2 f1 d1 ["_law_number","_law_scale"] Ja) (b1:AV K d1 ["_law_number","_law_scale"] []) (k1:KP K f1) (m1:mg "_law_scaled_one" = some (.ref f1))
  (G2:AG P w K mg base AM 3 f2 d2 ["_law_box","_law_scale"] LV) (b2:AV K d2 ["_law_box","_law_scale"] []) (k2:KP K f2) (m2:mg "_law_scaled" = some (.ref f2)) (mt:mg "tuple" = none) :
  AG P w K mg base AM 4 f fd ["_law_boxes","_law_wide","_law_high","_law_scale"] LX:=by
 refine F.ok SU (λvs H Q E h=>?_) (λcdv A outer s H vs Q E hr h=>?_)
 ·obtain⟨pb,p,bs,wd,hg,c,rfl,_⟩:=h;rfl
 obtain⟨pb,p,bs,wd,hg,c,rfl,⟨cs,hb,hC⟩,hl,hp,sc,nw,nh,bw,q⟩:=h;have hr2:=hr.mono (show 2<=3 by decide);refine⟨_,AR (MA (i:=4) SU.nd rfl (Or.inl rfl) (Nc:=["_law_box","_law_scale"]) (cap:=[(1,3)]) (g:=CW 0) (te:=Es LV [] E0 (Ax (Ar 0) (Ax (Ar 1) BH))) rfl (MY (pv 0))
   (Ek rfl rfl (by decide +kernel) (by decide +kernel) (List.forall_mem_cons.mpr ⟨⟨rfl,rfl⟩,List.forall_mem_nil _⟩) rfl (List.forall_mem_cons.mpr ⟨⟨_,_,rfl,rfl,rfl,rfl,rfl⟩,List.forall_mem_nil _⟩))
   (λ_ _ _ _ _=>A8 (i:=0) aW rfl (Or.inl rfl)) (λ_ _ _ _ _=>Ad G2 hr (by rfl) m2 k2 b2 .nil AZ (AA (pv 0) (AA (pv 1) AI))))
  (AU (AY (A0 (AA (Ad G1 hr2 (by rfl) m1 k1 b1 .nil AZ (AA (pv 1) (AA (pv 3) AI))) (AA (Ad G1 hr2 (by rfl) m1 k1 b1 .nil AZ (AA (pv 2) (AA (pv 3) AI))) (AA (EJ Ik (by rfl) mt Hr (AA (pv 4) AI)) AI)))))),?_⟩
 have lc:cs.length=bs.length:=hC.1;refine⟨_,rfl,pb,rfl,⟨_,AS.of hb⟩,λacc hacc=>?_⟩;refine Fj (KY hb) (by rw[List.length_map]; omega) hacc (λi ys σ hp=>∃es:List Addr,ys=es.map V.ref/\At (A7 Ac) hp es ((Am c bs).take i)/\∃u,σ=[u,some (.ref p)]) ⟨[],rfl,At.nil,none,rfl⟩ ?_ ?_
 ·rintro i ys σ H2 x H3 hi sm hacc2 ⟨es,rfl,hE,u,rfl⟩ ⟨rfl,hx⟩ Cc hCc;obtain⟨d,b,rfl,_,hy,fb⟩:=hC.ref hx;refine⟨_,rfl,_,rfl,d,p,b,c,rfl,sm _ _ fb,sm _ _ hp,sc,bw b (List.mem_of_getElem? hy),λt H4 st ht=>?_⟩;refine hCc _ _ _ st ⟨es++[t],by simp,?_,_,rfl⟩;have ec:(Am c bs)[i]?=some ((Dy b).map λ(x:Int)=>(x:Rat)*c):=by rw[List.getElem?_map,hy]; rfl
  rw[EG ec];exact(hE.keep BI (HJ acc st)).snoc (Sw ht (st _ _ hacc2))
 rintro ys σ H2 s2 hacc2 hl2 ⟨es,rfl,hE,u,rfl⟩;rw[List.length_map,lc,List.take_of_length_le (by rw[List.length_map]; omega)] at hE;refine⟨_,rfl,_,rfl,wd,p,c,rfl,s2 _ _ hp,sc,nw,λt1 ht1=>?_⟩;have v1:=Ae ht1 (.AH [.int ((wd:Rat)*c).num,.int ((wd:Rat)*c).den]);have f1':Ac (AK H2 t1 (.AH [.int ((wd:Rat)*c).num,.int ((wd:Rat)*c).den])) t1 ((wd:Rat)*c):=AX;generalize AK H2 t1 (.AH [.int ((wd:Rat)*c).num,.int ((wd:Rat)*c).den])=H3 at v1 f1';refine⟨_,rfl,_,rfl,hg,p,c,rfl,(s2.trans v1) _ _ hp,sc,nh,λt2 ht2=>?_⟩;have v2:=Ae ht2 (.AH [.int ((hg:Rat)*c).num,.int ((hg:Rat)*c).den]);have f2':Ac (AK H3 t2 (.AH [.int ((hg:Rat)*c).num,.int ((hg:Rat)*c).den])) t2 ((hg:Rat)*c):=AX;generalize AK H3 t2 (.AH [.int ((hg:Rat)*c).num,.int ((hg:Rat)*c).den])=H4 at v2 f2';have v12:=v1.trans v2;refine⟨_,rfl,acc,_,rfl,.inl ⟨AS.of (v12 _ _ hacc2),λt3 ht3=>?_⟩⟩;have v3:=Ae ht3 (.AH (es.map V.ref));have f3':A7 (A7 Ac) (AK H4 t3 (.AH (es.map V.ref))) t3 (Am c bs):=⟨es,AX,(hE.keep BI (HL H2 acc)).keep BI (v12.trans v3)⟩;generalize AK H4 t3 (.AH (es.map V.ref))=H5 at v3 f3';refine⟨by exact EF,λpp hpp=>?_⟩;have v4:=Ae hpp (.AH [.ref t1,.ref t2,.ref t3]);exact q pp _ (s2.trans (v12.trans (v3.trans v4))) ⟨t1,t2,t3,AX,(v2.trans (v3.trans v4)) _ _ f1',(v3.trans v4) _ _ f2',Mz (R:=A7 Ac) (λs h=>BI s h) v4 f3'⟩
def HA(c:Int):Str:=if c=0 then "above" else "beside"
def HE(c:Int):Prop:=c=0\/c=1
theorem ZU:Lb HA HE:=by
 refine⟨λx y hx hy e=>?_,λx y hx hy ne=>?_⟩
 ·rcases hx with rfl | rfl <;> rcases hy with rfl | rfl
  ·rfl
  ·exact absurd e (by decide +kernel)
  ·exact absurd e (by decide +kernel)
  ·rfl
 ·rcases hx with rfl | rfl <;> rcases hy with rfl | rfl
  ·exact absurd rfl ne
  ·decide +kernel
  ·decide +kernel
  ·exact absurd rfl ne
abbrev CG:Type:=Nat×Nat×Nat
def FR(s:CG):List Int:=[(s.1:Int),(s.2.1:Int),(s.2.2:Int)]
def Hw(j k:Nat):List CG:=[(0,j,k),(1,j,k)]
def Gj(j m:Nat):List CG:=(List.range m).flatMap λi=>Hw j (j+1+i)
def GW(n i:Nat):List CG:=(List.range i).flatMap λj=>Gj j (n-(j+1))
def D3(n:Nat):List CG:=GW n n
theorem UK(j m:Nat):Gj j (m+1)=Gj j m++Hw j (j+1+m):=by
 unfold Gj;rw[List.range_succ,List.flatMap_append,List.flatMap_cons,List.flatMap_nil,List.append_nil]
theorem Tb(n i:Nat):GW n (i+1)=GW n i++Gj i (n-(i+1)):=by
 unfold GW;rw[List.range_succ,List.flatMap_append,List.flatMap_cons,List.flatMap_nil,List.append_nil]
theorem KD{j m:Nat}{s:CG}:s∈Gj j m↔(s.1=0\/s.1=1)/\s.2.1=j/\j<s.2.2/\s.2.2<j+1+m:=by
 obtain⟨c,a,b⟩:=s;simp only[Gj,List.mem_flatMap,List.mem_range,Hw,List.mem_cons,List.not_mem_nil,or_false,Prod.mk.injEq];constructor
 ·rintro⟨i,hi,⟨rfl,rfl,rfl⟩ | ⟨rfl,rfl,rfl⟩⟩
  ·exact⟨.inl rfl,rfl,by omega,by omega⟩
  ·exact⟨.inr rfl,rfl,by omega,by omega⟩
 ·rintro⟨h1,rfl,h2,h3⟩;refine⟨b-(a+1),by omega,?_⟩;rcases h1 with rfl | rfl
  ·exact .inl ⟨rfl,rfl,by omega⟩
  ·exact .inr ⟨rfl,rfl,by omega⟩
theorem GS{n:Nat}{s:CG}:s∈D3 n↔(s.1=0\/s.1=1)/\s.2.1<s.2.2/\s.2.2<n:=by
 unfold D3 GW;simp only[List.mem_flatMap,List.mem_range,KD];constructor
 ·rintro⟨j,hj,h1,rfl,h2,h3⟩;exact⟨h1,h2,by omega⟩
 ·rintro⟨h1,h2,h3⟩;exact⟨s.2.1,by omega,h1,rfl,h2,by omega⟩
theorem XA(j k:Nat):(Hw j k).Nodup:=by
 unfold Hw;simp
theorem WK(j m:Nat):(Gj j m).Nodup:=by
 induction m with
 | zero=>exact .nil
 | succ m ih =>
  rw[UK,List.nodup_append];refine⟨ih,XA _ _,λa ha b hb e=>?_⟩;subst e;have h1:=(KD.mp ha).2.2.2;simp only[Hw,List.mem_cons,List.not_mem_nil,or_false] at hb;rcases hb with rfl | rfl <;> dsimp only at h1 <;> omega
theorem Pf(n i:Nat):(GW n i).Nodup:=by
 induction i with
 | zero=>exact .nil
 | succ i ih =>
  rw[Tb,List.nodup_append];refine⟨ih,WK _ _,λa ha b hb e=>?_⟩;subst e;have h1:=(KD.mp hb).2.1;unfold GW at ha;simp only[List.mem_flatMap,List.mem_range,KD] at ha;obtain⟨j,hj,_,h2,_⟩:=ha;omega
theorem WZ{s t:CG}(h:FR s=FR t):s=t:=by
 obtain⟨a,b,c⟩:=s;obtain⟨d,e,f⟩:=t;simp only[FR,List.cons.injEq,and_true] at h;simp only[Prod.mk.injEq];omega
theorem WN{l:List CG}(h:l.Nodup):(l.map FR).Nodup:=by
 rw[List.Nodup,List.pairwise_map];exact List.Pairwise.imp (λ{a b} n z=>n (WZ z)) h
end
section
variable {K:PySem.W.Frag}
theorem VQ {J:It} {n:Nat} {H1:Hp} {f:Nat->Hp->V->Hp->Prop} {acc:Addr} {σ0:St} {g:TG} {tt:TT} {te:TE} {G:Hp->Prop} (r:J3 J H1 n f) (hn:n<=1000) (hacc:H1 acc=none) (Iv:Nat->List V->St->Hp->Prop) (h0:Iv 0 [] σ0 H1)
  (hs:∀(i:Nat) (ys:List V) (σ:St) (H2:Hp) (x:V) (H3:Hp),i<n->AQ H1 H2->H2 acc=some (.AN ys)->Iv i ys σ (del H2 acc)->f i H2 x H3->∀(C:St->VK) (N:St->Hp->Prop),(∀(σ4:St) (v:V) (H5:Hp),AQ H2 H5->Iv (i+1) (ys++[v]) σ4 (del H5 acc)->C σ4 v H5)->(∀(σ4:St) (H5:Hp),AQ H2 H5->Iv (i+1) ys σ4 (del H5 acc)->N σ4 H5) →
   g x σ H3 λσ4 H4=>tt σ4 H4 λok H5=>if ok=true then te σ4 H5 (C σ4) else N σ4 H5)
  (fin:∀(ys:List V) (σ:St) (H2:Hp),AQ H1 H2->H2 acc=some (.AN ys)->Iv n ys σ (del H2 acc)->G H2) :
  ∃W:Nat->Nat->List V->St->Hp->Prop,(∃m,W 0 m [] σ0 (AK H1 acc (.AN [])))/\∀i m ys σc H2,W i m ys σc H2 →
   (J.stop i H2/\G H2)\/(J.go i H2/\∀x H3,J.EC i H2 x H3->g x σc H3 λσ4 H4=>tt σ4 H4 λok H5=>if ok=true then (te σ4 H5 λv H6=>H6 acc=some (.AN ys)/\ys.length<sizeLine/\∃m',m' < m/\W (i+1) m' (ys++[v]) σ4 (AK H6 acc (.AN (ys++[v])))) else ∃m',m' < m/\W (i+1) m' ys σ4 H5):=by
 refine⟨λi m ys σ H2=>m=n-i/\i<=n/\AQ H1 H2/\H2 acc=some (.AN ys)/\ys.length<=i/\Iv i ys σ (del H2 acc),⟨n,rfl,Nat.zero_le _,?_,AX,Nat.le_refl _,?_⟩,?_⟩
 ·intro b o e; rw[An (A5 e hacc)]; exact e
 ·rw[Kj,Ql hacc]; exact h0
 ·rintro i m ys σc H2 ⟨rfl,hi,sm,ha,hl,iv⟩;rcases Nat.lt_or_ge i n with hlt | hge
  ·refine .inr ⟨r.go i H2 hlt sm,λx H3 yl=>?_⟩;refine hs i ys σc H2 x H3 hlt sm ha iv (r.yl i H2 x H3 hlt sm yl) (λσ4 v H5=>H5 acc=some (.AN ys)/\ys.length<sizeLine/\∃m',m' < n-i/\(m'=n-(i+1)/\i+1<=n/\AQ H1 (AK H5 acc (.AN (ys++[v])))/\(AK H5 acc (.AN (ys++[v]))) acc=some (.AN (ys++[v]))/\(ys++[v]).length<=i+1/\Iv (i+1) (ys++[v]) σ4 (del (AK H5 acc (.AN (ys++[v]))) acc)))
    (λσ4 H5=>∃m',m' < n-i/\(m'=n-(i+1)/\i+1<=n/\AQ H1 H5/\H5 acc=some (.AN ys)/\ys.length<=i+1/\Iv (i+1) ys σ4 (del H5 acc))) ?_ ?_
   ·intro σ4 v H5 s5 iv5;refine⟨s5 _ _ ha,by rw[sizeLine_eq]; omega,n-(i+1),by omega,rfl,hlt,?_,AX,by rw[List.length_append,List.length_singleton]; omega,?_⟩
    ·intro b o e; rw[An (A5 e hacc)]; exact s5 _ _ (sm _ _ e)
    ·rw[Kj]; exact iv5
   ·intro σ4 H5 s5 iv5;exact⟨n-(i+1),by omega,rfl,hlt,sm.trans s5,s5 _ _ ha,by omega,iv5⟩
  ·obtain rfl:i=n:=by omega
   exact .inl ⟨r.st H2 sm,fin ys σc H2 sm ha iv⟩
end
section
variable {P:Program} {w:World} {K:PySem.W.Frag} {mg:Str->Option Value} {base:Heap} {f g h f1 f2 f3 f4 f5 C1 C2:Addr} {fd gd hd d1 d2 d3 d4 d5:FuncData}
theorem TU{α:Type}(p:α->Bool){l:List α}{i:Nat}{x:α}(h:l[i]?=some x):(l.take (i+1)).filter p=(l.take i).filter p++(if p x=true then [x] else []):=by
 rw[EG h,List.filter_append];by_cases z:p x=true
 ·rw[if_pos z,List.filter_cons_of_pos z,List.filter_nil]
 ·rw[if_neg z,List.filter_cons_of_neg z,List.filter_nil]
end
abbrev AO(bs:List AE)(i:Nat):AE:=bs.getD i (0,0,0,0)
def D6(bs:List AE)(j k:Nat)(lev:Int)(n:Nat):Bool:=decide (n=j) || (decide (n=k) || !((decide (lev=(AO bs n).d) || decide (lev=(AO bs n).u)) && (decide ((AO bs n).l<=(AO bs j).r) && decide ((AO bs j).l<=(AO bs n).r))))
def Cb(bs:List AE)(j k:Nat):Bool:=((decide ((AO bs j).l=(AO bs k).l) && decide ((AO bs j).r=(AO bs k).r)) && (decide ((AO bs j).d=(AO bs k).u) || decide ((AO bs k).d=(AO bs j).u))) && (List.range bs.length).all (D6 bs j k (max (AO bs j).d (AO bs k).d))
def Bj(bs:List AE)(j k:Nat):Bool:=(decide ((AO bs j).d=(AO bs k).d) && decide ((AO bs j).u=(AO bs k).u)) && (decide ((AO bs j).r=(AO bs k).l) || decide ((AO bs k).r=(AO bs j).l))
def DY(bs:List AE)(s:CG):Bool:=if s.1=0 then Cb bs s.2.1 s.2.2 else Bj bs s.2.1 s.2.2
section
variable {c:Rat} {bs:List AE}
theorem Ei(hc:0<c){x y:Int}:(x:Rat)*c=(y:Rat)*c↔x=y:=by
 constructor
 ·intro h;have hn:c≠0:=λz=>by rw[z] at hc; exact absurd hc (by decide)
  have:(x:Rat)=(y:Rat):=by grind
  exact_mod_cast this
 ·rintro rfl; rfl
theorem Ku(hc:0<c){x y:Int}:(x:Rat)*c<(y:Rat)*c↔x<y:=by
 rw[<-Rat.intCast_lt_intCast (a:=x) (b:=y)];exact Rat.mul_lt_mul_right hc
theorem JE{n:Nat}(h:n<bs.length):(Am c bs).getD n []=[((AO bs n).l:Rat)*c,((AO bs n).d:Rat)*c,((AO bs n).r:Rat)*c,((AO bs n).u:Rat)*c]:=by
 have e:(Am c bs).getD n []=(Dy (AO bs n)).map λ(x:Int)=>(x:Rat)*c:=by
  simp[List.getD_eq_getElem?_getD,h]
 rw[e]; rfl
theorem WT(hc:0<c){j k n:Nat}{x:Int}(hn:n<bs.length):Dn (Am c bs) j k ((x:Rat)*c) (((AO bs j).l:Rat)*c) (((AO bs j).r:Rat)*c) n=D6 bs j k x n:=by
 unfold Dn D6 IM;rw[JE hn];show(_ || (_ || !((decide (((AO bs n).d:Rat)*c=x*c) || decide (((AO bs n).u:Rat)*c=x*c)) && (!decide (((AO bs n).r:Rat)*c<((AO bs j).l:Rat)*c) && !decide (((AO bs j).r:Rat)*c<((AO bs n).l:Rat)*c)))))=_;rw[decide_eq_decide.mpr (Ei hc),decide_eq_decide.mpr (Ei hc),decide_eq_decide.mpr (Ku hc),decide_eq_decide.mpr (Ku hc)];congr 3;have e1:decide ((AO bs n).d=x)=decide (x=(AO bs n).d):=decide_eq_decide.mpr eq_comm;have e2:decide ((AO bs n).u=x)=decide (x=(AO bs n).u):=decide_eq_decide.mpr eq_comm;have e3:(!decide ((AO bs n).r<(AO bs j).l))=decide ((AO bs j).l<=(AO bs n).r):=by rw[<-decide_not]; exact decide_eq_decide.mpr Int.not_lt
 have e4:(!decide ((AO bs j).r<(AO bs n).l))=decide ((AO bs n).l<=(AO bs j).r):=by rw[<-decide_not]; exact decide_eq_decide.mpr Int.not_lt
 rw[e1,e2,e3,e4,Bool.and_comm (decide ((AO bs j).l<=(AO bs n).r))]
theorem RQ(hc:0<c){j k:Nat}(hj:j<bs.length)(hk:k<bs.length)(tj:(AO bs j).d<(AO bs j).u)(tk:(AO bs k).d<(AO bs k).u):Bg (Am c bs) j k=Cb bs j k:=by
 unfold Bg;rw[JE hj,JE hk];have el:Js [((AO bs j).l:Rat)*c,((AO bs j).d:Rat)*c,((AO bs j).r:Rat)*c,((AO bs j).u:Rat)*c] [((AO bs k).l:Rat)*c,((AO bs k).d:Rat)*c,((AO bs k).r:Rat)*c,((AO bs k).u:Rat)*c]=if (AO bs j).d=(AO bs k).u then some (((AO bs j).d:Rat)*c) else if (AO bs k).d=(AO bs j).u then some (((AO bs k).d:Rat)*c) else none:=by
  show(if ((AO bs j).d:Rat)*c=((AO bs k).u:Rat)*c then some (((AO bs j).d:Rat)*c) else if ((AO bs k).d:Rat)*c=((AO bs j).u:Rat)*c then some (((AO bs k).d:Rat)*c) else none)=_;simp only[Ei hc]
 rw[el];have all:∀x:Int,(List.range (Am c bs).length).all (Dn (Am c bs) j k ((x:Rat)*c) (((AO bs j).l:Rat)*c) (((AO bs j).r:Rat)*c))=(List.range bs.length).all (D6 bs j k x):=λx=>by
  rw[show(Am c bs).length=bs.length from List.length_map ..];rw[Bool.eq_iff_iff,List.all_eq_true,List.all_eq_true];exact forall_congr' λn=>forall_congr' λhn=>by rw[WT hc (List.mem_range.mp hn)]
 unfold Cb;by_cases z1:(AO bs j).d=(AO bs k).u
 ·rw[if_pos z1];show((decide (((AO bs j).l:Rat)*c=((AO bs k).l:Rat)*c) && decide (((AO bs j).r:Rat)*c=((AO bs k).r:Rat)*c)) && _)=_;rw[decide_eq_decide.mpr (Ei hc),decide_eq_decide.mpr (Ei hc),decide_eq_true z1,Bool.true_or,Bool.and_true];congr 1;rw[show max (AO bs j).d (AO bs k).d=(AO bs j).d by omega];exact all _
 ·rw[if_neg z1,decide_eq_false z1,Bool.false_or];by_cases z2:(AO bs k).d=(AO bs j).u
  ·rw[if_pos z2,decide_eq_true z2,Bool.and_true];show((decide (((AO bs j).l:Rat)*c=((AO bs k).l:Rat)*c) && decide (((AO bs j).r:Rat)*c=((AO bs k).r:Rat)*c)) && _)=_;rw[decide_eq_decide.mpr (Ei hc),decide_eq_decide.mpr (Ei hc)];congr 1;rw[show max (AO bs j).d (AO bs k).d=(AO bs k).d by omega];exact all _
  ·rw[if_neg z2,decide_eq_false z2,Bool.and_false,Bool.false_and]
theorem LF(hc:0<c){j k:Nat}(hj:j<bs.length)(hk:k<bs.length):BE (Am c bs) j k=Bj bs j k:=by
 unfold BE Bj;rw[JE hj,JE hk];show((decide (((AO bs j).d:Rat)*c=((AO bs k).d:Rat)*c) && decide (((AO bs j).u:Rat)*c=((AO bs k).u:Rat)*c)) && (decide (((AO bs j).r:Rat)*c=((AO bs k).l:Rat)*c) || decide (((AO bs k).r:Rat)*c=((AO bs j).l:Rat)*c)))=_;rw[decide_eq_decide.mpr (Ei hc),decide_eq_decide.mpr (Ei hc),decide_eq_decide.mpr (Ei hc),decide_eq_decide.mpr (Ei hc)]
def De(bs:List AE)(s:CG):Nat:=if s.1=0 then (if (AO bs s.2.1).u=(AO bs s.2.2).d then s.2.1 else s.2.2) else (if (AO bs s.2.1).r=(AO bs s.2.2).l then s.2.1 else s.2.2)
def DZ(bs:List AE)(s:CG):Nat:=if s.1=0 then (if (AO bs s.2.1).u=(AO bs s.2.2).d then s.2.2 else s.2.1) else (if (AO bs s.2.1).r=(AO bs s.2.2).l then s.2.2 else s.2.1)
theorem JN(s:CG):(De bs s=s.2.1/\DZ bs s=s.2.2)\/(De bs s=s.2.2/\DZ bs s=s.2.1):=by
 unfold De DZ;split <;> split <;> simp
theorem Kk{s:CG}(h0:s.1=0)(h:DY bs s=true):(AO bs (De bs s)).u=(AO bs (DZ bs s)).d/\(AO bs (De bs s)).l=(AO bs (DZ bs s)).l/\(AO bs (De bs s)).r=(AO bs (DZ bs s)).r:=by
 unfold DY at h;rw[if_pos h0] at h;unfold Cb at h;simp only[Bool.and_eq_true,Bool.or_eq_true,decide_eq_true_eq] at h;obtain⟨⟨⟨h1,h2⟩,h3⟩,_⟩:=h;unfold De DZ;rw[if_pos h0,if_pos h0];split
 ·rename_i z
  exact⟨z,h1,h2⟩
 ·rename_i z
  rcases h3 with h3 | h3
  ·exact⟨h3.symm,h1.symm,h2.symm⟩
  ·exact absurd h3.symm z
theorem Kv{s:CG}(h0:¬s.1=0)(h:DY bs s=true):(AO bs (De bs s)).r=(AO bs (DZ bs s)).l/\(AO bs (De bs s)).d=(AO bs (DZ bs s)).d/\(AO bs (De bs s)).u=(AO bs (DZ bs s)).u:=by
 unfold DY at h;rw[if_neg h0] at h;unfold Bj at h;simp only[Bool.and_eq_true,Bool.or_eq_true,decide_eq_true_eq] at h;obtain⟨⟨h1,h2⟩,h3⟩:=h;unfold De DZ;rw[if_neg h0,if_neg h0];split
 ·rename_i z
  exact⟨z,h1,h2⟩
 ·rename_i z
  rcases h3 with h3 | h3
  ·exact absurd h3 z
  ·exact⟨h3,h1.symm,h2.symm⟩
theorem Mj(nov:CZ bs)(tru:∀b∈bs,b.l<b.r/\b.d<b.u){i j:Nat}(hi:i<bs.length)(hj:j<bs.length)(e1:(AO bs i).l=(AO bs j).l)(e2:(AO bs i).d=(AO bs j).d):i=j:=by
 have gi:AO bs i=bs[i]:=by simp[hi]
 have gj:AO bs j=bs[j]:=by simp[hj]
 have ti:=tru bs[i] (List.getElem_mem hi);have tj:=tru bs[j] (List.getElem_mem hj);rw[gi,gj] at e1 e2;have key:Cu bs[i] bs[j]=true:=HP.mpr ⟨by omega,by omega,by omega,by omega,by omega,by omega,by omega,by omega⟩;have key2:Cu bs[j] bs[i]=true:=HP.mpr ⟨by omega,by omega,by omega,by omega,by omega,by omega,by omega,by omega⟩;have pw:=List.pairwise_iff_getElem.mp nov;rcases Nat.lt_trichotomy i j with z | z | z
 ·have:=pw i j hi hj z
  rw[key] at this;cases this
 ·exact z
 ·have:=pw j i hj hi z
  rw[key2] at this;cases this
theorem XX(nov:CZ bs)(tru:∀b∈bs,b.l<b.r/\b.d<b.u){s t:CG}(hs:s∈D3 bs.length)(ht:t∈D3 bs.length)(fs:DY bs s=true)(ft:DY bs t=true)(e1:s.1=t.1)(e2:De bs s=De bs t):s=t:=by
 obtain⟨a1,a2,a3⟩:=GS.mp hs;obtain⟨b1,b2,b3⟩:=GS.mp ht;have ls:DZ bs s<bs.length:=by rcases JN (bs:=bs) s with z | z <;> omega
 have lt:DZ bs t<bs.length:=by rcases JN (bs:=bs) t with z | z <;> omega
 have eo:DZ bs s=DZ bs t:=by
  refine Mj nov tru ls lt ?_ ?_
  ·by_cases z:s.1=0
   ·have p:=Kk z fs;have q:=Kk (e1 ▸ z) ft;rw[e2] at p;omega
   ·have p:=Kv z fs;have q:=Kv (e1 ▸ z) ft;rw[e2] at p;omega
  ·by_cases z:s.1=0
   ·have p:=Kk z fs;have q:=Kk (e1 ▸ z) ft;rw[e2] at p;omega
   ·have p:=Kv z fs;have q:=Kv (e1 ▸ z) ft;rw[e2] at p;omega
 obtain⟨c,j,k⟩:=s;obtain⟨c',j',k'⟩:=t;have ts:=JN (bs:=bs) (c,j,k);have tt:=JN (bs:=bs) (c',j',k');dsimp only at *;simp only[Prod.mk.injEq];omega
theorem PJ{α:Type}[DecidableEq α]:∀{l m:List α},l.Nodup->(∀r∈l,r∈m)->∃k,m.Perm (l++k)
 | [],m,_,_=>⟨m,.refl _⟩
 | x :: l,m,h1,h2=>by
  obtain⟨n1,n2⟩:=List.nodup_cons.mp h1;obtain⟨k,p⟩:=PJ (l:=l) (m:=m.erase x) n2 λr hr=>by
   have ne:r≠x:=λz=>n1 (z ▸ hr)
   exact(List.mem_erase_of_ne ne).mpr (h2 r (List.mem_cons_of_mem _ hr))
  exact⟨k,(List.perm_cons_erase (h2 x List.mem_cons_self)).trans (p.cons x)⟩
theorem Xl(nov:CZ bs)(tru:∀b∈bs,b.l<b.r/\b.d<b.u):((D3 bs.length).filter (DY bs)).length<=2*bs.length:=by
 have nd:(((D3 bs.length).filter (DY bs)).map λs=>2*De bs s+s.1).Nodup:=by
  rw[List.Nodup,List.pairwise_map];refine List.Pairwise.imp_of_mem (λ{s t} hs ht ne z=>ne ?_) ((Pf bs.length bs.length).sublist List.filter_sublist);obtain⟨ms,fs⟩:=List.mem_filter.mp hs;obtain⟨mt,ft⟩:=List.mem_filter.mp ht;have a1:=(GS.mp ms).1;have b1:=(GS.mp mt).1;exact XX nov tru ms mt fs ft (by omega) (by omega)
 have sub:∀x∈(((D3 bs.length).filter (DY bs)).map λs=>2*De bs s+s.1),x∈List.range (2*bs.length):=λx hx=>by
  obtain⟨s,hs,rfl⟩:=List.mem_map.mp hx;obtain⟨a1,a2,a3⟩:=GS.mp (List.mem_filter.mp hs).1;rw[List.mem_range];rcases JN (bs:=bs) s with z | z <;> omega
 obtain⟨m,pm⟩:=PJ nd sub
 have:=pm.length_eq
 rw[List.length_range,List.length_append,List.length_map] at this;omega
theorem Vj{t b:Int}(t0:1<=t)(t1:t<=128)(b0:1<=b)(b1:b<=8192):Sb 7 13 ((t:Rat) / (b:Rat))/\0<((t:Rat) / (b:Rat)).num:=by
 have e0:=Iu t b (by omega);have l1:=Oz t b (by omega);have l2:=Oe t b (by omega);have fc:=OW t b;have fp:=Px t b (by omega);rw[e0] at l1 l2 fc fp;dsimp only at l1 l2 fc fp;rw[Int.natAbs_natCast] at l2;have p1:(2:Nat) ^ 7=128:=by decide
 have p2:(2:Nat) ^ 13=8192:=by decide
 refine⟨⟨by omega,by omega⟩,?_⟩;by_cases h:0<((t:Rat) / (b:Rat)).num
 ·exact h
 ·have h1:=Int.mul_le_mul_of_nonneg_right (Int.not_lt.mp h) (show 0<=b by omega);have h2:=Int.mul_pos (show 0<t by omega) fp;omega
variable {P:Program} {w:World} {K:PySem.W.Frag} {mg:Str->Option Value} {base:Heap} {f g h f1 f2 f3:Addr} {fd gd hd d1 d2 d3:FuncData}
inductive Qi(vs:List V)(H:Hp)(Q:VK):Prop
 | mk (z:Int) (h_0:vs=[.int z]) (h_1:R4 z) (h_2:∀s,4<=s->s<=9199->Q (.int s) H):Qi vs H Q
def Mi:Sp:=λvs H Q _=>Qi vs H Q
theorem az:Ak ["_law_cell"] ["_law_cell"] (Af s_law_side):=Ap
theorem Xq(F:Ag K "_law_side" "_law_side" s_law_side f fd):AG P w K mg base AM 1 f fd ["_law_cell"] Mi:=by
 refine F.ok az (λvs H Q E h=>?_) (λcdv A outer s H vs Q E hr h=>?_)
 ·obtain⟨z,rfl,_⟩:=h;rfl
 obtain⟨z,rfl,hz,q⟩:=h;refine⟨_,AR (A3 (Aw EV (AW Bs (pv 0) AF) AF (Ai _)) (AU (AY (AW BW AF (AW Bs (AW EL (pv 0) AF) AF)))) A6) (AU (AY (AW BW AF (AW Bs (AW EL (pv 0) AF) AF)))),?_⟩;refine⟨_,rfl,_,_,rfl,rfl,(show(0:Int)<3 by decide),_,_,rfl,rfl,_,rfl,?_⟩;refine Ey (λ_=>?_) (λ_=>?_)
 ·have a0:=Int.emod_nonneg (z / 3) (show(9:Int)≠0 by decide);have a1:=Int.emod_lt_of_pos (z / 3) (show(0:Int)<9 by decide);exact⟨_,rfl,_,_,rfl,rfl,⟨by decide,by decide⟩,_,_,rfl,rfl,(show(0:Int)<9 by decide),_,_,rfl,rfl,q _ (by omega) (by omega)⟩
 ·have a0:=Int.emod_nonneg (z / 3) (show(9000:Int)≠0 by decide);have a1:=Int.emod_lt_of_pos (z / 3) (show(0:Int)<9000 by decide);exact⟨_,rfl,_,_,rfl,rfl,⟨by decide,by decide⟩,_,_,rfl,rfl,(show(0:Int)<9000 by decide),_,_,rfl,rfl,q _ (by omega) (by omega)⟩
inductive Qv(vs:List V)(H:Hp)(Q:VK):Prop
 | mk (z:Int) (h_0:vs=[.int z]) (h_2:∀c,Sb 7 13 c->0<c.num->Nr H Q c):Qv vs H Q
def NO:Sp:=λvs H Q _=>Qv vs H Q
theorem aA:Ak ["_law_cell"] ["_law_cell"] (Af s_law_scale_by):=Ap
theorem YU(F:Ag K "_law_scale_by" "_law_scale_by" s_law_scale_by f fd)(G:AG P w K mg base AM 1 g gd ["_law_top","_law_bottom"] LK)(bG:AV K gd ["_law_top","_law_bottom"] [])(kG:KP K g)(mG:mg "_law_lowest" = some (.ref g)):AG P w K mg base AM 2 f fd ["_law_cell"] NO:=by
 refine F.ok aA (λvs H Q E h=>?_) (λcdv A outer s H vs Q E hr h=>?_)
 ·obtain⟨z,rfl,_⟩:=h;rfl
 obtain⟨z,rfl,q⟩:=h;refine⟨_,AU (AY (Ad G hr (by rfl) mG kG bG .nil AZ (AA (AW BW AF (AW Bs (pv 0) AF)) (AA (AW BW AF (AW Bs (AW EL (pv 0) AF) AF)) AI)))),?_⟩;have t0:=Int.emod_nonneg z (show(99:Int)≠0 by decide);have t1:=Int.emod_lt_of_pos z (show(0:Int)<99 by decide);have b0:=Int.emod_nonneg (z / 99) (show(60:Int)≠0 by decide);have b1:=Int.emod_lt_of_pos (z / 99) (show(0:Int)<60 by decide);have so:=Vj (t:=1+z % 99) (b:=1+z / 99 % 60) (by omega) (by omega) (by omega) (by omega);exact⟨_,rfl,_,_,rfl,rfl,(show(0:Int)<99 by decide),_,_,rfl,rfl,_,rfl,_,_,rfl,rfl,⟨by decide,by decide⟩,_,_,rfl,rfl,(show(0:Int)<60 by decide),_,_,rfl,rfl,_,_,rfl,by omega,Yu (n:=13) (by omega) (by decide),q _ so.1 so.2⟩
inductive QQ(t:List AE->Nat->Nat->Bool)(vs:List V)(H:Hp)(Q:VK):Prop
 | mk (p:Addr) (bs:List AE) (j k:Nat) (h_0:vs=[.ref p,.int (j:Int),.int (k:Int)]) (h_1:Bi A4 H p bs) (h_2:bs.length<=30) (h_3:j<k) (h_4:k<bs.length) (h_5:∀H',AQ H H'->Q (.bl (t bs j k)) H'):QQ t vs H Q
def Eo(t:List AE->Nat->Nat->Bool):Sp:=λvs H Q _=>QQ t vs H Q
theorem Cy{bs:List AE}{j:Nat}(h:j<bs.length):bs[j]?=some (AO bs j):=by
 rw[List.getElem?_eq_getElem h]; simp[h]
theorem Z3:Ak ["_law_boxes","_law_j","_law_k"] ["_law_boxes","_law_j","_law_k"] (Af s_law_beside):=Ap
theorem UL(F:Ag K "_law_beside" "_law_beside" s_law_beside f fd)(ml:mg "len" = none):AG P w K mg base AM 1 f fd ["_law_boxes","_law_j","_law_k"] (Eo Bj):=by
 refine F.ok Z3 (λvs H Q E h=>?_) (λcdv A outer s H vs Q E hr h=>?_)
 ·obtain⟨p,bs,j,k,rfl,_⟩:=h;rfl
 obtain⟨p,bs,j,k,rfl,⟨cs,hp,hC⟩,n30,jk,kn,q⟩:=h;have q:=q H (AQ.refl _);have lm:(cs.map V.ref).length=bs.length:=by rw[List.length_map,hC.1]
 obtain⟨a,ea,ha⟩:=hC.get (Cy (show j<bs.length by omega));obtain⟨b,eb,hb⟩:=hC.get (Cy kn);unfold Bj at q;generalize AO bs j=X at ha q;generalize AO bs k=Y at hb q;obtain⟨x0,x1,x2,x3⟩:=X;obtain⟨y0,y1,y2,y3⟩:=Y;refine⟨_,AR (A3 (PW.pt (D9 (Gd (Om IK D7 D7 AF (pv 1) (pv 2) (BJ (Ci (K:=K)) (by rfl) ml Cj (AA (pv 0) AI))))
   (D9 (Aw ER (pT K (pL K (pv 0) (pv 1)) AF) (pT K (pL K (pv 0) (pv 2)) AF) (Ai _))
   (Gf (Aw ER (pT K (pL K (pv 0) (pv 1)) AF) (pT K (pL K (pv 0) (pv 2)) AF) (Ai _)))))) (AU (AY CA)) A6)
  (AU (AY (II (Bq CQ (pT K (pL K (pv 0) (pv 1)) AF) (pT K (pL K (pv 0) (pv 2)) AF) (Ai _))
   (EM (Bq CQ (pT K (pL K (pv 0) (pv 2)) AF) (pT K (pL K (pv 0) (pv 1)) AF) (Ai _)))))),?_⟩
 refine⟨_,rfl,_,_,rfl,rfl,_,rfl,BQ (show(0:Int)<=(j:Int) by omega) ?_⟩;refine⟨_,rfl,_,_,rfl,rfl,_,rfl,BQ (show(j:Int)<(k:Int) by omega) ?_⟩;refine⟨_,rfl,p,_,rfl,.inl (AS.of hp),_,_,rfl,rfl,_,rfl,CJ (show(k:Int)<((cs.map V.ref).length:Int) by rw[lm]; omega) ?_⟩;have q':Q (.bl ((decide (x1=y1) && decide (x3=y3)) && (decide (x2=y0) || decide (y2=x0)))) H:=q;refine⟨_,rfl,_,rfl,p,_,_,_,rfl,rfl,AS.of hp,Al (BA ea),a,_,_,_,rfl,rfl,AJ.of ha,GD _ _ _ _,_,rfl,_,rfl,p,_,_,_,rfl,rfl,AS.of hp,Al (BA eb),b,_,_,_,rfl,rfl,AJ.of hb,GD _ _ _ _,rfl,_,rfl,?_⟩;by_cases z1:x1=y1
 case neg =>
  refine CV (GJ z1) ?_;rw[decide_eq_false z1,Bool.false_and,Bool.false_and] at q';exact q'
 refine CJ (iv z1) ?_;refine⟨_,rfl,_,rfl,p,_,_,_,rfl,rfl,AS.of hp,Al (BA ea),a,_,_,_,rfl,rfl,AJ.of ha,He _ _ _ _,_,rfl,_,rfl,p,_,_,_,rfl,rfl,AS.of hp,Al (BA eb),b,_,_,_,rfl,rfl,AJ.of hb,He _ _ _ _,rfl,_,rfl,?_⟩;by_cases z3:x3=y3
 case neg =>
  refine CV (GJ z3) ?_;rw[decide_eq_false z3,Bool.and_false,Bool.false_and] at q';exact q'
 refine CJ (iv z3) ?_;rw[decide_eq_true z1,decide_eq_true z3,Bool.true_and,Bool.true_and] at q';refine⟨_,rfl,_,rfl,p,_,_,_,rfl,rfl,AS.of hp,Al (BA ea),a,_,_,_,rfl,rfl,AJ.of ha,Gx _ _ _ _,_,rfl,_,rfl,p,_,_,_,rfl,rfl,AS.of hp,Al (BA eb),b,_,_,_,rfl,rfl,AJ.of hb,Gz _ _ _ _,rfl,_,rfl,?_⟩;by_cases z2:x2=y0
 ·refine BQ (iv z2) ?_;rw[decide_eq_true z2,Bool.true_or] at q';exact q'
 refine BU (GJ z2) ?_;rw[decide_eq_false z2,Bool.false_or] at q';refine⟨_,rfl,_,rfl,p,_,_,_,rfl,rfl,AS.of hp,Al (BA eb),b,_,_,_,rfl,rfl,AJ.of hb,Gx _ _ _ _,_,rfl,_,rfl,p,_,_,_,rfl,rfl,AS.of hp,Al (BA ea),a,_,_,_,rfl,rfl,AJ.of ha,Gz _ _ _ _,rfl,?_⟩;rw[show decide (V.int y2=V.int x0)=decide (y2=x0) from decide_eq_decide.mpr ⟨λz=>V.int.inj z,λz=>by rw[z]⟩];exact q'
theorem Ll:Ak ["_law_boxes","_law_j","_law_k","_law_level","_law_number","_law_box"] ["_law_boxes","_law_j","_law_k"] (Af s_law_above):=Ap
theorem YS{H:Hp}{p:Addr}{x y:Int}(h:H p=some (.AH [.int x,.int y])):BX H (.ref p) (.tuple [.int x,.int y]):=by
 refine .AH h rfl λi v d e1 e2=>?_
 match i with
 | 0=>obtain rfl:=Option.some.inj e1; obtain rfl:=Option.some.inj e2; exact .int _
 | 1=>obtain rfl:=Option.some.inj e1; obtain rfl:=Option.some.inj e2; exact .int _
 | i+2=>simp at e1
theorem Yd(x y z:Int):(if false=true then !([PyData.int x,PyData.int y].any λv=>PyData.eqv v (.int z)) else [PyData.int x,PyData.int y].any λv=>PyData.eqv v (.int z))=(decide (z=x) || decide (z=y)):=by
 rw[if_neg Bool.false_ne_true,Bool.eq_iff_iff];simp[PyData.eqv];constructor
 ·rintro(h | h)
  ·exact .inl h.symm
  ·exact .inr h.symm
 ·rintro(h | h)
  ·exact .inl h.symm
  ·exact .inr h.symm
set_option maxHeartbeats 4000000 in
theorem Vd(F:Ag K "_law_above" "_law_above" s_law_above f fd)(ml:mg "len" = none)(mx:mg "max" = none)(me:mg "enumerate" = none):AG P w K mg base AM 1 f fd ["_law_boxes","_law_j","_law_k"] (Eo Cb):=by
 refine F.ok Ll (λvs H Q E h=>?_) (λcdv A outer s H vs Q E hr h=>?_)
 ·obtain⟨p,bs,j,k,rfl,_⟩:=h;rfl
 obtain⟨p,bs,j,k,rfl,⟨cs,hp,hC⟩,n30,jk,kn,q⟩:=h;have lm:(cs.map V.ref).length=bs.length:=by rw[List.length_map,hC.1]
 obtain⟨a,ea,ha⟩:=hC.get (Cy (show j<bs.length by omega));obtain⟨b,eb,hb⟩:=hC.get (Cy kn);refine⟨_,AR (A3 (PW.pt (D9 (Gd (Om IK D7 D7 AF (pv 1) (pv 2) (BJ (Ci (K:=K)) (by rfl) ml Cj (AA (pv 0) AI))))
   (D9 (Aw ER (pT K (pL K (pv 0) (pv 1)) AF) (pT K (pL K (pv 0) (pv 2)) AF) (Ai _))
   (Gf (Aw ER (pT K (pL K (pv 0) (pv 1)) AF) (pT K (pL K (pv 0) (pv 2)) AF) (Ai _)))))) (AU (AY CA)) A6)
  (AR (A3 (PW.pt (En (Aw ER (pT K (pL K (pv 0) (pv 1)) AF) (pT K (pL K (pv 0) (pv 2)) AF) (Ai _)) (GX (Aw ER (pT K (pL K (pv 0) (pv 2)) AF) (pT K (pL K (pv 0) (pv 1)) AF) (Ai _))))) (AU (AY CA)) A6)
  (AR (Ab (i:=3) Ll.nd rfl (Or.inl rfl) (BJ (Ip rfl) (by rfl) mx JT (AA (pT K (pL K (pv 0) (pv 1)) AF) (AA (pT K (pL K (pv 0) (pv 2)) AF) AI))))
  (AR (DE PassesOwn.never rfl (KS (by rfl) me (AA (pv 0) AI)) (FQ (n:=2) (K:=K) rfl (Bp (A8 (i:=4) Ll.nd rfl (Or.inl rfl)) (Bp (A8 (i:=5) Ll.nd rfl (Or.inl rfl)) FG)))
   (AU (A3 (PW.pt (En (Aw ER (pv 4) (pv 1) (Ai _)) (En (Aw ER (pv 4) (pv 2) (Ai _)) (GX (Aw (YI hr.units) (pv 3) (A0 (AA (pT K (pv 5) AF) (AA (pT K (pv 5) AF) AI))) (by with_unfolding_all rfl))))))
    (AU (A3 (PW.pt (En (Aw IK (pT K (pv 5) AF) (pT K (pL K (pv 0) (pv 1)) AF) (Ai _)) (GX (Aw IK (pT K (pL K (pv 0) (pv 1)) AF) (pT K (pv 5) AF) (Ai _))))) (AU (AY CA)) A6)) A6)))
  (AU (AY CA))))),?_⟩
 obtain⟨X,hX⟩:∃X,AO bs j=X:=⟨_,rfl⟩;obtain⟨Y,hY⟩:∃Y,AO bs k=Y:=⟨_,rfl⟩;obtain⟨x0,x1,x2,x3⟩:=X;obtain⟨y0,y1,y2,y3⟩:=Y;rw[hX] at ha;rw[hY] at hb;have q':∀H',AQ H H'->Q (.bl (((decide (x0=y0) && decide (x2=y2)) && (decide (x1=y3) || decide (y1=x3))) && (List.range bs.length).all (D6 bs j k (max x1 y1)))) H':=λH' s=>by
  have:=q H' s
  unfold Cb at this;rw[hX,hY] at this;exact this
 refine⟨_,rfl,_,_,rfl,rfl,_,rfl,BQ (show(0:Int)<=(j:Int) by omega) ?_⟩;refine⟨_,rfl,_,_,rfl,rfl,_,rfl,BQ (show(j:Int)<(k:Int) by omega) ?_⟩;refine⟨_,rfl,p,_,rfl,.inl (AS.of hp),_,_,rfl,rfl,_,rfl,CJ (show(k:Int)<((cs.map V.ref).length:Int) by rw[lm]; omega) ?_⟩;refine⟨_,rfl,_,rfl,p,_,_,_,rfl,rfl,AS.of hp,Al (BA ea),a,_,_,_,rfl,rfl,AJ.of ha,Gz _ _ _ _,_,rfl,_,rfl,p,_,_,_,rfl,rfl,AS.of hp,Al (BA eb),b,_,_,_,rfl,rfl,AJ.of hb,Gz _ _ _ _,rfl,_,rfl,?_⟩;by_cases z0:x0=y0
 case neg =>
  refine CV (GJ z0) ?_
  have:=q' H (AQ.refl _)
  rw[decide_eq_false z0,Bool.false_and,Bool.false_and,Bool.false_and] at this;exact this
 refine CJ (iv z0) ?_;refine⟨_,rfl,_,rfl,p,_,_,_,rfl,rfl,AS.of hp,Al (BA ea),a,_,_,_,rfl,rfl,AJ.of ha,Gx _ _ _ _,_,rfl,_,rfl,p,_,_,_,rfl,rfl,AS.of hp,Al (BA eb),b,_,_,_,rfl,rfl,AJ.of hb,Gx _ _ _ _,rfl,_,rfl,?_⟩;by_cases z2:x2=y2
 case neg =>
  refine CV (GJ z2) ?_
  have:=q' H (AQ.refl _)
  rw[decide_eq_false z2,Bool.and_false,Bool.false_and,Bool.false_and] at this;exact this
 refine CJ (iv z2) ?_;rw[decide_eq_true z0,decide_eq_true z2,Bool.true_and,Bool.true_and] at q';dsimp only[L2.La];refine Pq (G:=λσ H2=>σ=[some (.ref p),some (.int (j:Int)),some (.int (k:Int)),none,none,none]/\H2=H/\(decide (x1=y3) || decide (y1=x3))=true) (λr=>?_) ?_
 ·refine⟨_,rfl,_,rfl,p,_,_,_,rfl,rfl,AS.of hp,Al (BA ea),a,_,_,_,rfl,rfl,AJ.of ha,GD _ _ _ _,_,rfl,_,rfl,p,_,_,_,rfl,rfl,AS.of hp,Al (BA eb),b,_,_,_,rfl,rfl,AJ.of hb,He _ _ _ _,rfl,_,rfl,?_⟩;by_cases z1:x1=y3
  ·refine CJ (iv z1) ?_;exact r _ _ ⟨rfl,rfl,by rw[decide_eq_true z1]; rfl⟩
  refine CV (GJ z1) ?_;refine⟨_,rfl,_,rfl,p,_,_,_,rfl,rfl,AS.of hp,Al (BA eb),b,_,_,_,rfl,rfl,AJ.of hb,GD _ _ _ _,_,rfl,_,rfl,p,_,_,_,rfl,rfl,AS.of hp,Al (BA ea),a,_,_,_,rfl,rfl,AJ.of ha,He _ _ _ _,rfl,_,rfl,?_⟩;by_cases z3:y1=x3
  ·refine CJ (iv z3) ?_;exact r _ _ ⟨rfl,rfl,by rw[decide_eq_true z3,Bool.or_true]⟩
  refine CV (GJ z3) ?_
  have:=q' H (AQ.refl _)
  rw[decide_eq_false z1,decide_eq_false z3,Bool.or_false,Bool.false_and] at this;exact this
 rintro σ H0 ⟨rfl,rfl,zz⟩;rw[zz,Bool.true_and] at q';refine⟨_,rfl,_,rfl,p,_,_,_,rfl,rfl,AS.of hp,Al (BA ea),a,_,_,_,rfl,rfl,AJ.of ha,GD _ _ _ _,_,rfl,_,rfl,p,_,_,_,rfl,rfl,AS.of hp,Al (BA eb),b,_,_,_,rfl,rfl,AJ.of hb,GD _ _ _ _,_,_,rfl,?_⟩;rw[show(if y1 > x1 then y1 else x1)=max x1 y1 by split <;> omega];obtain⟨lev,hlev⟩:∃lev,max x1 y1=lev:=⟨_,rfl⟩;rw[hlev] at q' ⊢;refine⟨_,rfl,p,_,rfl,hp,?_⟩;refine KH (λi σ H2=>AQ H0 H2/\(List.range i).all (D6 bs j k lev)=true/\∃u4 u5,σ=[some (.ref p),some (.int (j:Int)),some (.int (k:Int)),some (.int lev),u4,u5]) ⟨AQ.refl _,rfl,none,none,rfl⟩ (λi σ H2 _ z=>z.1 _ _ hp) ?_ ?_
 ·rintro i v σ H2 pe hi ⟨s2,al,u4,u5,rfl⟩ hpe;have s3:=Ae hpe (.AH [.int (i:Int),v]);have gpe:AK H2 pe (.AH [.int (i:Int),v]) pe=some (.AH [.int (i:Int),v]):=AX;generalize AK H2 pe (.AH [.int (i:Int),v])=H3 at s3 gpe;have s03:=s2.trans s3;obtain⟨c,B,rfl,hc,hrow,hB⟩:=hC.ref hi;have il:i<bs.length:=(List.getElem?_eq_some_iff.mp hrow).1;obtain rfl:B=AO bs i:=by
   have:=Cy il
   rw[hrow] at this;exact Option.some.inj this
  refine⟨pe,_,rfl,AJ.of gpe,rfl,_,_,rfl,_,_,rfl,rfl,?_⟩;have nxt:D6 bs j k lev i=true->(List.range (i+1)).all (D6 bs j k lev)=true:=λz=>by
   rw[List.range_succ,List.all_append,al,Bool.true_and,List.all_cons,z]; rfl
  refine⟨_,rfl,_,rfl,rfl,_,rfl,?_⟩;by_cases zj:i=j
  ·refine CJ (by rw[zj]) ?_;exact⟨s03,nxt (by unfold D6; rw[decide_eq_true zj]; rfl),_,_,rfl⟩
  refine CV (λz=>zj (by have:=V.int.inj z; omega)) ?_;refine⟨_,rfl,_,rfl,rfl,_,rfl,?_⟩;by_cases zk:i=k
  ·refine CJ (by rw[zk]) ?_;exact⟨s03,nxt (by unfold D6; rw[decide_eq_true zk,Bool.true_or,Bool.or_true]),_,_,rfl⟩
  refine CV (λz=>zk (by have:=V.int.inj z; omega)) ?_;have et:D6 bs j k lev i=!((decide (lev=(AO bs i).d) || decide (lev=(AO bs i).u)) && (decide ((AO bs i).l<=x2) && decide (x0<=(AO bs i).r))):=by
   unfold D6; rw[decide_eq_false zj,decide_eq_false zk,Bool.false_or,Bool.false_or,hX]
  have hB3:H3 c=some (.AH [.int (AO bs i).l,.int (AO bs i).d,.int (AO bs i).r,.int (AO bs i).u]):=s03 _ _ hB;have ha3:=s03 _ _ ha;have hp3:=s03 _ _ hp;generalize AO bs i=B at et hB3;refine⟨_,rfl,_,rfl,c,_,_,_,rfl,rfl,AJ.of hB3,GD _ _ _ _,_,rfl,c,_,_,_,rfl,rfl,AJ.of hB3,He _ _ _ _,by exact sz2,λtp htp=>?_⟩;have s4:=Ae htp (.AH [.int B.d,.int B.u]);have gtp:AK H3 tp (.AH [.int B.d,.int B.u]) tp=some (.AH [.int B.d,.int B.u]):=AX;generalize AK H3 tp (.AH [.int B.d,.int B.u])=H4 at s4 gtp;have s04:=s03.trans s4;refine⟨0,.int lev,[.int B.d,.int B.u],by decide,.int lev,YS gtp,.int _,.AH (λd hd=>by
   simp only[List.mem_cons,List.not_mem_nil,or_false] at hd;rcases hd with rfl | rfl <;> exact .int _),_,rfl,?_⟩
  rw[Yd];cases zl:(decide (lev=B.d) || decide (lev=B.u)) with
  | false =>
   refine Bh ?_;exact⟨s04,nxt (by rw[et,zl]; rfl),_,_,rfl⟩
  | true =>
   refine CL ?_;rw[zl,Bool.true_and] at et;have hB4:=s4 _ _ hB3;have ha4:H4 a=some (.AH [.int x0,.int x1,.int x2,.int x3]):=s4 _ _ ha3;have hp4:=s4 _ _ hp3;refine⟨_,rfl,c,_,_,_,rfl,rfl,AJ.of hB4,Gz _ _ _ _,_,rfl,_,rfl,p,_,_,_,rfl,rfl,AS.of hp4,Al (BA ea),a,_,_,_,rfl,rfl,AJ.of ha4,Gx _ _ _ _,_,_,rfl,rfl,_,rfl,?_⟩;by_cases w0:B.l<=x2
   case neg =>
    refine BU w0 ?_;exact⟨s04,nxt (by rw[et,decide_eq_false w0]; rfl),_,_,rfl⟩
   refine BQ w0 ?_;refine⟨_,rfl,_,rfl,p,_,_,_,rfl,rfl,AS.of hp4,Al (BA ea),a,_,_,_,rfl,rfl,AJ.of ha4,Gz _ _ _ _,_,rfl,c,_,_,_,rfl,rfl,AJ.of hB4,Gx _ _ _ _,_,_,rfl,rfl,_,rfl,?_⟩;by_cases w2:x0<=B.r
   case neg =>
    refine BU w2 ?_;exact⟨s04,nxt (by rw[et,decide_eq_false w2,Bool.and_false]; rfl),_,_,rfl⟩
   refine BQ w2 ?_;have q4:=q' H4 s04;have fl:(List.range bs.length).all (D6 bs j k lev)=false:=by
    rw[Bool.eq_false_iff];intro z
    have:=List.all_eq_true.mp z i (List.mem_range.mpr il)
    rw[et,decide_eq_true w0,decide_eq_true w2] at this;cases this
   rw[fl] at q4;exact q4
 ·rintro σ H2 ⟨s2,al,u4,u5,rfl⟩;rw[lm] at al;have q4:=q' H2 s2;rw[al] at q4;exact q4
abbrev Hj:Type:=Nat×Nat
def C4(i:Nat):List Hj:=(List.range i).flatMap λk=>(List.range k).map λj=>(j,k)
theorem L9(i:Nat):C4 (i+1)=C4 i++(List.range i).map λj=>(j,i):=by
 unfold C4;rw[List.range_succ,List.flatMap_append,List.flatMap_cons,List.flatMap_nil,List.append_nil]
theorem Mb{n:Nat}{x:Hj}:x∈C4 n↔x.1<x.2/\x.2<n:=by
 obtain⟨j,k⟩:=x;simp only[C4,List.mem_flatMap,List.mem_range,List.mem_map,Prod.mk.injEq];constructor
 ·rintro⟨k',hk,j',hj,rfl,rfl⟩; exact⟨hj,hk⟩
 ·rintro⟨h1,h2⟩; exact⟨k,h2,j,h1,rfl,rfl⟩
theorem RP(n:Nat):(C4 n).Nodup:=by
 induction n with
 | zero=>exact .nil
 | succ n ih =>
  rw[L9,List.nodup_append];refine⟨ih,?_,λa ha b hb e=>?_⟩
  ·rw[List.Nodup,List.pairwise_map];exact List.nodup_range.imp λ{a b} ne z=>ne (by have:=congrArg Prod.fst z; exact this)
  ·subst e;have h1:=(Mb.mp ha).2;obtain⟨j,hj,rfl⟩:=List.mem_map.mp hb;exact absurd h1 (Nat.lt_irrefl _)
theorem QT{n:Nat}(h:n<=30):∀i,i<=n->(C4 i).length<=30*i:=by
 intro i
 induction i with
 | zero=>intro _; exact Nat.le_refl _
 | succ i ih =>
  intro hi
  have:=ih (by omega)
  rw[L9,List.length_append,List.length_map,List.length_range];omega
def kS(c:Nat)(x:Hj):CG:=(c,x.1,x.2)
def Ia(bs:List AE):List CG:=((C4 bs.length).filter λx=>Cb bs x.1 x.2).map (kS 0)++((C4 bs.length).filter λx=>Bj bs x.1 x.2).map (kS 1)
theorem Ro(c:Nat){l:List Hj}(h:l.Nodup):(l.map (kS c)).Nodup:=by
 rw[List.Nodup,List.pairwise_map];exact List.Pairwise.imp (λ{a b} ne z=>ne (by
  obtain⟨a1,a2⟩:=a;obtain⟨b1,b2⟩:=b;simp only[kS,Prod.mk.injEq,true_and] at z;rw[z.1,z.2])) h
theorem QK(bs:List AE):(Ia bs).Nodup:=by
 unfold Ia;rw[List.nodup_append];refine⟨Ro 0 ((RP _).sublist List.filter_sublist),Ro 1 ((RP _).sublist List.filter_sublist),λa ha b hb e=>?_⟩;obtain⟨x,_,rfl⟩:=List.mem_map.mp ha;obtain⟨y,_,rfl⟩:=List.mem_map.mp hb
 have:=congrArg Prod.fst e
 exact absurd (show(0:Nat)=1 from this) (by decide)
theorem Up(bs:List AE):(Ia bs).Perm ((D3 bs.length).filter (DY bs)):=by
 refine(List.perm_ext_iff_of_nodup (QK bs) ((Pf _ _).sublist List.filter_sublist)).mpr λs=>?_
 obtain⟨c,j,k⟩:=s;rw[List.mem_filter,show GW bs.length bs.length=D3 bs.length from rfl,GS];unfold Ia;simp only[List.mem_append,List.mem_map,List.mem_filter,Mb,kS,Prod.mk.injEq];constructor
 ·rintro(⟨⟨a,b⟩,⟨⟨h1,h2⟩,h3⟩,rfl,rfl,rfl⟩ | ⟨⟨a,b⟩,⟨⟨h1,h2⟩,h3⟩,rfl,rfl,rfl⟩)
  ·exact⟨⟨.inl rfl,h1,h2⟩,h3⟩
  ·exact⟨⟨.inr rfl,h1,h2⟩,h3⟩
 ·rintro⟨⟨h0,h1,h2⟩,h3⟩;rcases h0 with rfl | rfl
  ·exact .inl ⟨(j,k),⟨⟨h1,h2⟩,h3⟩,rfl,rfl,rfl⟩
  ·exact .inr ⟨(j,k),⟨⟨h1,h2⟩,h3⟩,rfl,rfl,rfl⟩
def Gk(H:Hp)(p:Addr)(x:Hj):Prop:=H p=some (.AH [.int (x.1:Int),.int (x.2:Int)])
theorem JI:Mo Gk:=λs h=>s _ _ h
theorem Gk.del{H:Hp}{a b:Addr}{x:Hj}{ys:List V}(h:Gk H b x)(e:H a=some (.AN ys)):Gk (del H a) b x:=Fp h λz=>by
 rw[z] at h; unfold Gk at h; rw[e] at h; cases h
inductive RZ(vs:List V)(H:Hp)(Q:VK):Prop
 | mk (p:Addr) (bs:List AE) (h_0:vs=[.ref p]) (h_1:Bi A4 H p bs) (h_2:bs.length<=30) (h_3:((D3 bs.length).filter (DY bs)).length<64) (h_4:∀t cs rs H',AQ H H'->H' t=some (.AH (cs.map V.ref))->At (GH HA HE) H' cs rs->rs.Perm (((D3 bs.length).filter (DY bs)).map FR)->rs.Pairwise (λa b=>Bt a b=true)->Q (.ref t) H'):RZ vs H Q
def Nl:Sp:=λvs H Q _=>RZ vs H Q
theorem Je:Ak ["_law_boxes","_law_pairs","_law_k","_law_found"] ["_law_boxes"] (Af s_law_fitting):=Ap
theorem a8:(["_law_j","_law_k"]:List Str).Nodup:=by decide +kernel
theorem LU:(["_law_j","_law_k","_law_boxes"]:List Str).Nodup:=by decide +kernel
abbrev OC(K:PySem.W.Frag)(n:Nat):TG:=Nb K n (NH (CW 0) (NH (CW 1) SH))
theorem PZ {t:List AE->Nat->Nat->Bool} {c:Nat} {wdc:Str} (hw:HA (c:Int)=wdc) (hc:HE (c:Int)) {H1:Hp} {l acc p:Addr} {ds:List Addr} {bs:List AE} (hl:H1 l=some (.AN (ds.map V.ref))) (hD:At Gk H1 ds (C4 bs.length)) (hL:Bi A4 H1 p bs) (n30:bs.length<=30) (hacc:H1 acc=none) {G:Hp->Prop}
  (fin:∀(gs:List Addr) (H2:Hp),AQ H1 H2->H2 acc=some (.AN (gs.map V.ref))->At (GH HA HE) H2 gs ((((C4 bs.length).filter λx=>t bs x.1 x.2).map (kS c)).map FR)->G H2) :
  ∃W:Nat->Nat->List V->St->Hp->Prop,(∃m,W 0 m [] [none,none,some (.ref p)] (AK H1 acc (.AN [])))/\∀i m ys σc H2,W i m ys σc H2 →
   ((GO K l).stop i H2/\G H2)\/((GO K l).go i H2/\∀x H3,(GO K l).EC i H2 x H3->OC K 2 x σc H3 λσ4 H4=>tB (Es (Eo t) [] E0 (Ax (Ar 2) (Ax (Ar 0) (Ax (Ar 1) BH)))) σ4 H4 λok H5=>if ok=true then (Gs (Ax (tC (.str wdc)) (Ax (Ar 0) (Ax (Ar 1) BH))) σ4 H5 λv H6=>H6 acc=some (.AN ys)/\ys.length<sizeLine/\∃m',m' < m/\W (i+1) m' (ys++[v]) σ4 (AK H6 acc (.AN (ys++[v])))) else ∃m',m' < m/\W (i+1) m' ys σ4 H5):=by
 have ld:ds.length=(C4 bs.length).length:=hD.1;have ln:=QT n30 bs.length (Nat.le_refl _);refine VQ (KY hl) (by rw[List.length_map]; omega) hacc (λi ys σ hp=>∃gs:List Addr,ys=gs.map V.ref/\At (GH HA HE) hp gs (((((C4 bs.length).take i).filter λx=>t bs x.1 x.2).map (kS c)).map FR)/\∃u v,σ=[u,v,some (.ref p)]) ⟨[],rfl,At.nil,none,none,rfl⟩ ?_ ?_
 ·rintro i ys σ H3 x H4 hi sm hacc3 ⟨gs,rfl,hG,u,v,rfl⟩ ⟨rfl,hx⟩ Cc Nn hCc hNn;obtain⟨b,⟨j,k⟩,rfl,_,hy,hb⟩:=hD.ref hx;have mem:=Mb.mp (List.mem_of_getElem? hy);dsimp only at mem;have hb3:H4 b=some (.AH [.int (j:Int),.int (k:Int)]):=sm _ _ hb;have fs:=TU (λx:Hj=>t bs x.1 x.2) hy;refine⟨b,_,rfl,AJ.of hb3,rfl,_,_,rfl,_,_,rfl,rfl,?_⟩;refine⟨_,rfl,_,rfl,_,rfl,p,bs,j,k,rfl,HS (R:=A4) (λs h=>Dk s h) sm hL,n30,mem.1,mem.2,λH5 s5=>⟨_,rfl,?_⟩⟩
  (try dsimp only)
  by_cases hf:t bs j k=true
  ·rw[if_pos hf];refine⟨_,rfl,_,rfl,by exact EF,λa ha=>?_⟩;have s6:=Ae ha (.AH [.str wdc,.int (j:Int),.int (k:Int)]);refine hCc _ _ _ (s5.trans s6) ⟨gs++[a],by simp,?_,_,_,rfl⟩;rw[fs,if_pos hf,List.map_append,List.map_append];refine(hG.keep Hu (HJ acc (s5.trans s6))).snoc ⟨(c:Int),[(j:Int),(k:Int)],rfl,hc,?_⟩;rw[hw];exact Fp AX (λz=>by rw[z,(s5 _ _ hacc3)] at ha; cases ha)
  ·rw[if_neg hf];refine hNn _ _ s5 ⟨gs,rfl,?_,_,_,rfl⟩;rw[fs,if_neg hf,List.append_nil];exact hG.keep Hu (HJ acc s5)
 ·rintro ys σ H3 s3 ha3 ⟨gs,rfl,hG,u,v,rfl⟩;rw[List.length_map,ld,List.take_length] at hG;exact fin gs H3 s3 ha3 (hG.keep Hu (HL H3 acc))
set_option maxHeartbeats 4000000 in
theorem XM (F:Ag K "_law_fitting" "_law_fitting" s_law_fitting f fd) (G1:AG P w K mg base AM 1 f1 d1 ["_law_boxes","_law_j","_law_k"] (Eo Cb)) (b1:AV K d1 ["_law_boxes","_law_j","_law_k"] []) (k1:KP K f1) (m1:mg "_law_above" = some (.ref f1))
  (G2:AG P w K mg base AM 1 f2 d2 ["_law_boxes","_law_j","_law_k"] (Eo Bj)) (b2:AV K d2 ["_law_boxes","_law_j","_law_k"] []) (k2:KP K f2) (m2:mg "_law_beside" = some (.ref f2))
  (ml:mg "len" = none) (mr:mg "range" = none) (mt:mg "tuple" = none) (mso:mg "sorted" = none):AG P w K mg base AM 2 f fd ["_law_boxes"] Nl:=by
 refine F.ok Je (λvs H Q E h=>?_) (λcdv A outer s H vs Q E hr h=>?_)
 ·obtain⟨p,bs,rfl,_⟩:=h;rfl
 obtain⟨p,bs,rfl,hL,n30,l64,q⟩:=h;obtain⟨cs,hp,hC⟩:=id hL;have lm:(cs.map V.ref).length=bs.length:=by rw[List.length_map,hC.1]
 refine⟨_,AR (Ab (i:=1) Je.nd rfl (Or.inl rfl) (CU AI))
  (AR (DE PassesOwn.never rfl (KJ (by rfl) mr (AA (BJ (Ci (K:=K)) (by rfl) ml Cj (AA (pv 0) AI)) AI)) (A8 (i:=2) Je.nd rfl (Or.inr rfl))
   (AU (Ab (i:=1) Je.nd rfl (Or.inl rfl) (AW DT (pv 1) (Ht (Nc:=["_law_j","_law_k"]) (cap:=[(1,2)]) (g:=CW 0) (te:=Gs (Ax (Ar 0) (Ax (Ar 1) BH))) rfl (KJ (by rfl) mr (AA (pv 2) AI))
    (Ek rfl rfl (by decide +kernel) (by decide +kernel) (List.forall_mem_cons.mpr ⟨⟨rfl,rfl⟩,List.forall_mem_nil _⟩) rfl (List.forall_mem_cons.mpr ⟨⟨_,_,rfl,rfl,rfl,rfl,rfl⟩,List.forall_mem_nil _⟩))
    (λ_ _ _ _ _=>A8 (i:=0) a8 rfl (Or.inl rfl)) (λ_ _ _ _ _=>A0 (AA (pv 0) (AA (pv 1) AI))))))))
  (AR (Ti (i:=3) Je.nd rfl (Or.inl rfl) (Nc:=["_law_j","_law_k","_law_boxes"]) (cap:=[(2,0)]) (g:=OC K 2) (tt:=tB (Es (Eo Cb) [] E0 (Ax (Ar 2) (Ax (Ar 0) (Ax (Ar 1) BH))))) (te:=Gs (Ax (tC (.str "above")) (Ax (Ar 0) (Ax (Ar 1) BH)))) rfl (JW (K:=K) (pv 1))
    (Ek rfl rfl (by decide +kernel) (by decide +kernel) (List.forall_mem_cons.mpr ⟨⟨rfl,rfl⟩,List.forall_mem_nil _⟩) rfl (List.forall_mem_cons.mpr ⟨⟨_,_,rfl,rfl,rfl,rfl,rfl⟩,List.forall_mem_nil _⟩))
    (λ_ _ _ _ _=>FQ (n:=2) (K:=K) rfl (Bp (A8 (i:=0) LU rfl (Or.inl rfl)) (Bp (A8 (i:=1) LU rfl (Or.inl rfl)) FG)))
    (λ_ _ _ _ _=>DC (Ad G1 hr (by rfl) m1 k1 b1 .nil AZ (AA (pv 2) (AA (pv 0) (AA (pv 1) AI)))))
    (λ_ _ _ _ _=>A0 (AA Bk (AA (pv 0) (AA (pv 1) AI)))))
  (AU (AY (EJ (Qd (K:=K)) (by rfl) mt Hr (AA (BJ (Tq ZU) (by rfl) mso Od (AA (AW DT (pv 3)
   (Wk (Nc:=["_law_j","_law_k","_law_boxes"]) (cap:=[(2,0)]) (g:=OC K 2) (tt:=tB (Es (Eo Bj) [] E0 (Ax (Ar 2) (Ax (Ar 0) (Ax (Ar 1) BH))))) (te:=Gs (Ax (tC (.str "beside")) (Ax (Ar 0) (Ax (Ar 1) BH)))) rfl (JW (K:=K) (pv 1))
    (Ek rfl rfl (by decide +kernel) (by decide +kernel) (List.forall_mem_cons.mpr ⟨⟨rfl,rfl⟩,List.forall_mem_nil _⟩) rfl (List.forall_mem_cons.mpr ⟨⟨_,_,rfl,rfl,rfl,rfl,rfl⟩,List.forall_mem_nil _⟩))
    (λ_ _ _ _ _=>FQ (n:=2) (K:=K) rfl (Bp (A8 (i:=0) LU rfl (Or.inl rfl)) (Bp (A8 (i:=1) LU rfl (Or.inl rfl)) FG)))
    (λ_ _ _ _ _=>DC (Ad G2 hr (by rfl) m2 k2 b2 .nil AZ (AA (pv 2) (AA (pv 0) (AA (pv 1) AI)))))
    (λ_ _ _ _ _=>A0 (AA Bk (AA (pv 0) (AA (pv 1) AI)))))) AI)) AI)))))),?_⟩
 obtain⟨n,hn⟩:∃n,bs.length=n:=⟨_,rfl⟩;refine⟨by exact bL,λl0 hl0=>?_⟩;obtain⟨H1,e1,s1,g1⟩:=Cg hl0 [];rw[e1];refine⟨_,rfl,p,_,rfl,.inl (AS.of (s1 _ _ hp)),_,rfl,by rw[lm]; omega,by rw[lm]; omega,?_⟩;rw[lm,hn,show((n:Nat):Int).toNat=n by omega];refine HI (lo:=0) (n:=n) (λi σ H2=>AQ H H2/\∃(l:Addr) (ds:List Addr) (u2:Option V),σ=[some (.ref p),some (.ref l),u2,none]/\H2 l=some (.AN (ds.map V.ref))/\At Gk H2 ds (C4 i)) ⟨s1,l0,[],none,rfl,g1,At.nil⟩ ?_ ?_
 ·rintro i σ H2 hi ⟨s2,l,ds,u2,rfl,hl2,hD⟩;have ld:ds.length=(C4 i).length:=hD.1;have ln:=QT (n:=n) (by omega) i (by omega);rw[show(0:Int)+(i:Int)=(i:Int) by omega];refine⟨_,rfl,_,rfl,(i:Int),rfl,by omega,by omega,λacc hacc=>?_⟩;rw[show((i:Nat):Int).toNat=i by omega];refine Fj VB (by omega) hacc (λm ys σ hp=>∃gs:List Addr,ys=gs.map V.ref/\At Gk hp gs ((List.range m).map λj=>(j,i))/\∃u,σ=[u,some (.int (i:Int))]) ⟨[],rfl,At.nil,none,rfl⟩ ?_ ?_
  ·rintro m ys σ H3 x H4 hm sm hacc3 ⟨gs,rfl,hG,u,rfl⟩ ⟨rfl,rfl⟩ Cc hCc;refine⟨_,rfl,_,rfl,by exact sz2,λt ht=>?_⟩;have s5:=Ae ht (.AH [.int (0+(m:Int)),.int (i:Int)]);refine hCc _ _ _ s5 ⟨gs++[t],by simp,?_,_,rfl⟩;rw[List.range_succ,List.map_append];refine(hG.keep JI (HJ acc s5)).snoc ?_;show del _ acc t=some (.AH [.int (m:Int),.int (i:Int)]);rw[Fp AX (λz=>by rw[z,hacc3] at ht; cases ht)];rw[show(0:Int)+(m:Int)=(m:Int) by omega]
  rintro ys σ H3 s3 ha3 _ ⟨gs,rfl,hG,u,rfl⟩;have lg:gs.length=i:=by have:=hG.1; rw[List.length_map,List.length_range] at this; exact this
  refine⟨l,acc,_,_,rfl,rfl,s3 _ _ hl2,ha3,by rw[List.length_map,List.length_map]; exact DO (by omega),λq2 hq2=>?_⟩;have s4:=Ae hq2 (.AN (ds.map V.ref++gs.map V.ref));refine⟨s2.trans (s3.trans s4),q2,ds++gs,_,rfl,by rw[AX,List.map_append],?_⟩;rw[L9];exact((hD.keep JI (s3.trans s4)).E7 ((hG.keep JI (HL H3 acc)).keep JI s4))
 rintro σ H2 ⟨s2,l,ds,u2,rfl,hl2,hD⟩;rw[<-hn] at hD;have hL2:Bi A4 H2 p bs:=HS (R:=A4) (λs h=>Dk s h) s2 hL;refine⟨_,rfl,l,rfl,⟨_,AS.of hl2⟩,λacc hacc=>?_⟩;refine PZ (K:=K) (t:=Cb) (c:=0) (wdc:="above") rfl (.inl rfl) hl2 hD hL2 n30 hacc λgs H3 s3 ha3 hG=>?_
 refine⟨_,rfl,_,rfl,l,rfl,⟨_,AS.of (s3 _ _ hl2)⟩,λacc2 hacc2=>?_⟩;refine PZ (K:=K) (t:=Bj) (c:=1) (wdc:="beside") rfl (.inr rfl) (s3 _ _ hl2) (hD.keep JI s3) (HS (R:=A4) (λs h=>Dk s h) s3 hL2) n30 hacc2 λgs2 H4 s4 ha4 hG2=>?_
 have pm:=Up bs;have A:=(hG.keep Hu s4).E7 hG2;rw[<-List.map_append,show((C4 bs.length).filter λx=>Cb bs x.1 x.2).map (kS 0)++((C4 bs.length).filter λx=>Bj bs x.1 x.2).map (kS 1)=Ia bs from rfl] at A;have lA:(gs++gs2).length=(Ia bs).length:=by have:=A.1; rw[List.length_map] at this; exact this
 have ll:=pm.length_eq;rw[List.length_append] at lA;refine⟨acc,acc2,_,_,rfl,rfl,s4 _ _ ha3,ha4,by rw[List.length_map,List.length_map]; exact DO (by omega),λq2 hq2=>?_⟩;have s5:=Ae hq2 (.AN (gs.map V.ref++gs2.map V.ref));have g5:AK H4 q2 (.AN (gs.map V.ref++gs2.map V.ref)) q2=some (.AN ((gs++gs2).map V.ref)):=by rw[AX,List.map_append]
 generalize AK H4 q2 (.AN (gs.map V.ref++gs2.map V.ref))=H5 at s5 g5;refine⟨q2,gs++gs2,_,rfl,g5,A.keep Hu s5,WN (QK bs),by rw[List.length_map]; omega,λl2 es rs hl6 hE pmr pw=>?_⟩;have s6:=Ae hl6 (.AN (es.map V.ref));have g6:AK H5 l2 (.AN (es.map V.ref)) l2=some (.AN (es.map V.ref)):=AX;generalize AK H5 l2 (.AN (es.map V.ref))=H6 at s6 g6;refine⟨l2,_,rfl,.inl ⟨AS.of g6,λt ht=>?_⟩⟩;have s7:=Ae ht (.AH (es.map V.ref));exact q t es rs _ (s2.trans (s3.trans (s4.trans (s5.trans (s6.trans s7))))) AX (hE.keep Hu (s6.trans s7)) (pmr.trans (pm.map FR)) pw
end
end My
namespace My
open PySem PySem.Spec PyProof.Rows L2 Mth Wd Fl
def HH:Ba->Str
 | .ab _ _=>"above"
 | .bs _ _=>"beside"
 | .sp _ _ _ _ _=>"split"
 | .no s _ _=>s
def HB(rows:List (List Rat)):Ba->Ba->Prop
 | .ab j k,.sp i l r s _=>i=j/\l=k/\r=rows.getD j.toNat []/\s=rows.getD k.toNat []
 | .bs j k,.sp i l r s _=>i=j/\l=k/\r=rows.getD j.toNat []/\s=rows.getD k.toNat []
 | .sp j k r s _,.bs i l=>i=j/\l=k/\BE [r,s] 0 1=true
 | .sp j k r s _,.ab i l=>i=j/\l=k/\BE [r,s] 0 1=false
 | _,_=>False
def Jr:Ba->PyData
 | .ab j k=>.tuple [.str "above",.int j,.int k]
 | .bs j k=>.tuple [.str "beside",.int j,.int k]
 | .sp j k r s _=>.tuple [.str "split",.int j,.int k,Dc r,Dc s]
 | .no s j k=>.tuple [.str s,.int j,.int k]
theorem Fs{t:Ba}(nt:GN t=false):(Jr t).canLay0=true/\(Jr t).depth<=64:=by
 have d3:∀(s:Str) (j k:Int),PyData.strOk s=true->(PyData.tuple [.str s,.int j,.int k]).canLay0=true/\(PyData.tuple [.str s,.int j,.int k]).depth<=64:=λs j k so=>by
  constructor
  ·simp only[PyData.canLay0];refine El λd hd=>?_
   simp only[List.mem_cons,List.not_mem_nil,or_false] at hd;rcases hd with rfl | rfl | rfl <;> simp[PyData.canLay0,so]
  ·have:=FF (n:=1) (ds:=[.str s,.int j,.int k]) λd hd=>by
    simp only[List.mem_cons,List.not_mem_nil,or_false] at hd;rcases hd with rfl | rfl | rfl <;> simp[PyData.depth]
   simp only[PyData.depth] at this ⊢; omega
 cases t with
 | ab j k=>exact d3 _ j k (by decide +kernel)
 | bs j k=>exact d3 _ j k (by decide +kernel)
 | no s j k=>cases nt
 | sp j k r s cv =>
  show(PyData.tuple _).canLay0=true/\(PyData.tuple _).depth<=64;constructor
  ·have so:PyData.strOk "split" = true:=by decide +kernel
   simp only[PyData.canLay0];refine El λd hd=>?_
   simp only[List.mem_cons,List.not_mem_nil,or_false] at hd;rcases hd with rfl | rfl | rfl | rfl | rfl <;> first | exact Qg _ | simp[PyData.canLay0,so]
  ·have:=FF (n:=3) (ds:=[.str "split",.int j,.int k,Dc r,Dc s]) λd hd=>by
    simp only[List.mem_cons,List.not_mem_nil,or_false] at hd;rcases hd with rfl | rfl | rfl | rfl | rfl <;> first | exact Pc _ | simp[PyData.depth]
   simp only[PyData.depth] at this ⊢; omega
theorem K5{H:Hp}{p:Addr}{xs:List V}{ds:List PyData}(h:H p=some (.AH xs))(hd:Paired (BX H) xs ds):BX H (.ref p) (.tuple ds):=by
 refine .AH h hd.length λi x d e1 e2=>?_
 clear h
 induction hd generalizing i with
 | nil=>simp at e1
 | cons r _ ih =>
  cases i with
  | zero=>cases e1; cases e2; exact r
  | succ i=>exact ih i (by simpa using e1) (by simpa using e2)
theorem Ga{H:Hp}{p:Addr}{t:Ba}(h:FW H p t):BX H (.ref p) (Jr t):=by
 cases t with
 | ab j k=>exact K5 h (.cons (.str _) (.cons (.int _) (.cons (.int _) .nil)))
 | bs j k=>exact K5 h (.cons (.str _) (.cons (.int _) (.cons (.int _) .nil)))
 | no s j k=>exact K5 h.1 (.cons (.str _) (.cons (.int _) (.cons (.int _) .nil)))
 | sp j k r s cv =>
  obtain⟨p1,p2,hp,h1,h2⟩:=h;have rr:∀{p:Addr} {r:List Rat},A7 Ac H p r->BX H (.ref p) (Dc r):=λh=>M5 (R:=Ac) (D:=Cr) (λh=>JV h) h
  exact K5 hp (.cons (.str _) (.cons (.int _) (.cons (.int _) (.cons (rr h1) (.cons (rr h2) .nil)))))
theorem KO{t:Ba}(nt:GN t=false):PyData.eqv (Jr t) (Jr t)=true:=SeqAt.eqv_refl _ (Fs nt).1
theorem Yw{C1 C2 C3:Addr}{H:Hp}{x:Addr}{t:Ba}(h:EB C1 C2 C3 H x t):GN t=false:=by cases t <;> first | rfl | exact h.elim
theorem DD{C1 C2 C3:Addr}:Mo (EB C1 C2 C3):=by
 intro H H' x t s h;cases t with
 | ab j k=>obtain⟨dx,h⟩:=h; exact⟨dx,s _ _ h⟩
 | bs j k=>obtain⟨dx,h⟩:=h; exact⟨dx,s _ _ h⟩
 | sp j k r1 r2 cv =>
  obtain⟨dx,p1,p2,h0,h1,h2⟩:=h;exact⟨dx,p1,p2,s _ _ h0,BI s h1,BI s h2⟩
 | no _ _ _=>exact h
theorem RM{H:Hp}{p:Addr}{t:Ba}(h:FW H p t):∃xs,H p=some (.AH xs)/\BN xs 0=some (.str (HH t)):=by
 cases t with
 | ab j k=>exact⟨_,h,Al (j:=0) rfl⟩
 | bs j k=>exact⟨_,h,Al (j:=0) rfl⟩
 | no s j k=>exact⟨_,h.1,Al (j:=0) rfl⟩
 | sp j k r s cv =>
  obtain⟨p1,p2,hp,_⟩:=h;exact⟨_,hp,Al (j:=0) rfl⟩
section
variable {C1 C2 C3 CN:Addr} {W U:Rat} {rows:List (List Rat)} {t:Ba} {H:Hp} {Q:VK} {E:XK} {a x:Addr} {tt:(List V->Hp->Prop)->Hp->Prop}
theorem KQ(ht:∀k:List V->Hp->Prop,k [.ref a] H->tt k H)(hs:EB C1 C2 C3 H x t)(hF:BV H a W U rows)(ok:G0 W U rows t)(q:CB rows t=true->∀b H',AQ H H'->BV H' b W U (Ed rows t)->Q (.ref b) H')(qn:CB rows t=false->∀H',AQ H H'->E (.ref CN) none H'):
  J1 C1 C2 C3 "done" (B4 C1 CN Bg) (B4 C2 CN BE) (Gi C3 CN) E Q tt (.ref x) H:=by
 obtain⟨y,dx,fs,e,l,z⟩:=Rl (CN:=CN) (Q:=Q) (E:=E) hF hs ok q qn;cases e;refine⟨x,dx,fs,rfl,l,?_⟩;rcases z with ⟨h1,h2⟩ | ⟨h1,h2⟩ | ⟨h1,h2⟩
 ·exact .inl ⟨h1,ht _ h2⟩
 ·exact .inr (.inl ⟨h1,ht _ h2⟩)
 ·exact .inr (.inr ⟨h1,ht _ h2⟩)
theorem MU(ht:∀k:List V->Hp->Prop,k [.ref a] H->tt k H)(hs:EB C1 C2 C3 H x t)(hF:BV H a W U rows)(ok:G0 W U rows t)(q:CB rows t=true->∀y H',AQ H H'->(∀u,HB rows t u->EB C1 C2 C3 H' y u)->Q (.ref y) H')(qn:CB rows t=false->∀H',AQ H H'->E (.ref CN) none H'):
  J1 C1 C2 C3 "back" (Cz C1 C3 CN Bg) (Cz C2 C3 CN BE) (IF C1 C2 C3 CN) E Q tt (.ref x) H:=by
 cases t with
 | ab j k =>
  obtain⟨dx,hx⟩:=hs;refine⟨x,dx,_,rfl,Ec,.inl ⟨hx,ht _ ⟨x,a,dx,j,k,W,U,rows,rfl,hx,hF,ok,λy x' dx' p1 p2 H' s hx' h1 h2=>q y x' H' s λu hu=>?_,qn⟩⟩⟩;cases u with
  | sp i l r s' cv=>obtain⟨rfl,rfl,rfl,rfl⟩:=hu; exact⟨dx',p1,p2,hx',h1,h2⟩
  | ab _ _=>exact hu.elim
  | bs _ _=>exact hu.elim
  | no _ _ _=>exact hu.elim
 | bs j k =>
  obtain⟨dx,hx⟩:=hs;refine⟨x,dx,_,rfl,Ec,.inr (.inl ⟨hx,ht _ ⟨x,a,dx,j,k,W,U,rows,rfl,hx,hF,ok,λy x' dx' p1 p2 H' s hx' h1 h2=>q y x' H' s λu hu=>?_,qn⟩⟩)⟩;cases u with
  | sp i l r s' cv=>obtain⟨rfl,rfl,rfl,rfl⟩:=hu; exact⟨dx',p1,p2,hx',h1,h2⟩
  | ab _ _=>exact hu.elim
  | bs _ _=>exact hu.elim
  | no _ _ _=>exact hu.elim
 | sp j k r1 r2 cv =>
  obtain⟨dx,p1,p2,hx,h1,h2⟩:=hs;refine⟨x,dx,_,rfl,GK,.inr (.inr ⟨hx,ht _ ⟨x,a,dx,p1,p2,j,k,W,U,rows,r1,r2,cv,rfl,hx,hF,h1,h2,ok,λy x' dx' H' s hx'=>q y x' H' s λu hu=>?_,qn⟩⟩)⟩;cases u with
  | bs i l =>
   obtain⟨rfl,rfl,z⟩:=hu;rw[if_pos z] at hx';exact⟨dx',hx'⟩
  | ab i l =>
   obtain⟨rfl,rfl,z⟩:=hu;rw[if_neg (by rw[z]; decide)] at hx';exact⟨dx',hx'⟩
  | sp _ _ _ _ _=>exact hu.elim
  | no _ _ _=>exact hu.elim
 | no s j k=>exact hs.elim
end
section
variable {P:Program} {w:World} {K:PySem.W.Frag} {mg:Str->Option Value} {base:Heap} {f g h f1 f2 f3 f4 f5 f6 f7 f8 C C1 C2 C3 CN CE CS CF:Addr} {fd gd hd d1 d2 d3 d4 d5 d6 d7 d8:FuncData}
def HM(C:Addr):Sp:=λvs H Q _=>∃(p dx p1 p2:Addr) (j k:Int),vs=[.ref p]/\H p=some (.Az C dx (Ca j k p1 p2))/\∀t,H t=none->Q (.ref t) (AK H t (.AH [.str "split",.int j,.int k,.ref p1,.ref p2]))
theorem aX:Ak ["self"] ["self"] (Af sToldS):=Ap
theorem Wb(F:Ag K "told" "Split.told" sToldS f fd)(T:DQ K C):AG P w K mg base AM 1 f fd ["self"] (HM C):=by
 refine F.ok aX (λvs H Q E h=>?_) (λcdv A outer s H vs Q E hr h=>?_)
 ·obtain⟨p,dx,p1,p2,j,k,rfl,_⟩:=h;rfl
 obtain⟨p,dx,p1,p2,j,k,rfl,hp,q⟩:=h;refine⟨_,AU (AY (A0 (AA Bk (AA (BM (pv 0) rfl) (AA (BM (pv 0) rfl) (AA (BM (pv 0) rfl) (AA (BM (pv 0) rfl) AI))))))),?_⟩;exact⟨_,rfl,p,C,dx,_,_,rfl,hp,T.cl,T.n1,Iw _ _ _ _,_,rfl,p,C,dx,_,_,rfl,hp,T.cl,T.n2,Il _ _ _ _,_,rfl,p,C,dx,_,_,rfl,hp,T.cl,T.n3,MH _ _ _ _,_,rfl,p,C,dx,_,_,rfl,hp,T.cl,T.n4,L8 _ _ _ _,by exact L5,q⟩
theorem GU{H:Hp}{Q:VK}{E:XK}{x:Addr}{t:Ba}{tt:(List V->Hp->Prop)->Hp->Prop}(ht:∀k:List V->Hp->Prop,k [] H->tt k H)(hs:EB C1 C2 C3 H x t)(q:∀p H',AQ H H'->FW H' p t->Q (.ref p) H'):
  J1 C1 C2 C3 "told" (Dp C1 "above") (Dp C2 "beside") (HM C3) E Q tt (.ref x) H:=by
 cases t with
 | ab j k =>
  obtain⟨dx,hx⟩:=hs;exact⟨x,dx,_,rfl,Ec,.inl ⟨hx,ht _ ⟨x,dx,j,k,rfl,hx,λt nt=>q t _ (Ae nt _) AX⟩⟩⟩
 | bs j k =>
  obtain⟨dx,hx⟩:=hs;exact⟨x,dx,_,rfl,Ec,.inr (.inl ⟨hx,ht _ ⟨x,dx,j,k,rfl,hx,λt nt=>q t _ (Ae nt _) AX⟩⟩)⟩
 | sp j k r1 r2 cv =>
  obtain⟨dx,p1,p2,hx,h1,h2⟩:=hs;exact⟨x,dx,_,rfl,GK,.inr (.inr ⟨hx,ht _ ⟨x,dx,p1,p2,j,k,rfl,hx,λt nt=>q t _ (Ae nt _) ⟨p1,p2,AX,BI (Ae nt _) h1,BI (Ae nt _) h2⟩⟩⟩)⟩
 | no s j k=>exact hs.elim
end
def S7:Ba->Bool
 | .ab _ _=>true
 | .bs _ _=>true
 | _=>false
structure Hl(K:PySem.W.Frag)(C C1 C2 C3 CS:Addr)(b1 b2 b3:Bool):Prop where
 ha:PySem.W.findIn K (.ref C) "__class__" = some (some (.builtin "object.__class__"))
 hn:PySem.W.specialIn K (.builtin "object.__class__") "__get__" = some (some (.builtin "getset_descriptor.__get__"))
 ht:PySem.W.takesIn K (.builtin "object.__class__")=some true
 hm:PySem.W.mroIn K C (.type "object")=some true
 e1:PySem.W.kitOne K (.ref C) (.ref C1)=some b1
 e2:PySem.W.kitOne K (.ref C) (.ref C2)=some b2
 e3:PySem.W.kitOne K (.ref C) (.ref C3)=some b3
 es:PySem.W.kitOne K (.ref C) (.ref CS)=some true
section
variable {P:Program} {w:World} {K:PySem.W.Frag} {mg:Str->Option Value} {base:Heap} {f g h f1 f2 f3 f4 f5 f6 f7 f8 C C1 C2 C3 CN CE CS CF:Addr} {fd gd hd d1 d2 d3 d4 d5 d6 d7 d8:FuncData}
def NP(C1 C2 C3:Addr):Sp:=λvs H Q _=>∃(p:Addr) (way:Int) (t:Ba),vs=[.ref p,.int way]/\FW H p t/\S7 t=true/\∀x H',AQ H H'->EB C1 C2 C3 H' x t->Q (.ref x) H'
theorem Zw:Ak ["_law_step","_law_way_here"] ["_law_step","_law_way_here"] (Af s_law_made):=Ap
theorem V9 (F:Ag K "_law_made" "_law_made" s_law_made f fd) (T1:StC K C1) (T2:StC K C2) (M1:Mk K C1 f1) (M2:Mk K C2 f1) (mC1:mg "Above" = some (.ref C1)) (mC2:mg "Beside" = some (.ref C2))
  (G1:AG P w K mg base AM 1 f1 d1 ["self","one","other"] (Hy K)) (b1:AV K d1 ["self","one","other"] [])
  (G2:AG P w K mg base (Aj P w) 4 f2 d2 ["told"] (IH C1 C2 C3 CE)) (b2:AV K d2 ["told"] []) (k2:KP K f2) (m2:mg "step_of" = some (.ref f2)):AG P w K mg base AM 5 f fd ["_law_step","_law_way_here"] (NP C1 C2 C3):=by
 refine F.ok Zw (λvs H Q E h=>?_) (λcdv A outer s H vs Q E hr h=>?_)
 ·obtain⟨p,way,t,rfl,_⟩:=h;rfl
 obtain⟨p,way,t,rfl,hp,jt,q⟩:=h;have r1:=hr.mono (show 1+1<=4 by decide);refine⟨_,AR (A3 (Aw CQ (pv 1) AF (Ai _)) (AU (AY (Ad (CX:=Aj P w) (E:=E0) G2 hr (by rfl) m2 k2 b2 .nil FJ (AA (pv 0) AI)))) A6)
  (AR (A3 (Aw CQ (pT K (pv 0) AF) Bk (Ai _)) (AU (AY (Fm M1 G1 r1 rfl mC1 b1 .nil AZ (AA (pT K (pv 0) AF) (AA (pT K (pv 0) AF) AI))))) A6)
  (AU (AY (Fm M2 G1 r1 rfl mC2 b1 .nil AZ (AA (pT K (pv 0) AF) (AA (pT K (pv 0) AF) AI)))))),?_⟩
 refine⟨_,rfl,rfl,_,rfl,?_⟩;by_cases z:way=0
 ·refine BQ (by rw[z]) ⟨_,rfl,p,t,rfl,hp,λx H' s' hx=>q x H' s' hx,λy=>?_⟩;obtain⟨_,_,_,rfl⟩:=y;cases jt
 refine BU (λe=>z (by injection e)) ?_;cases t with
 | ab j k =>
  have hp:H p=some (.AH [.str "above",.int j,.int k]):=hp;refine⟨_,rfl,p,_,_,_,rfl,rfl,AJ.of hp,EY _ _ _,rfl,_,rfl,BQ (by decide +kernel) ?_⟩;refine⟨_,rfl,p,_,_,_,rfl,rfl,AJ.of hp,E3 _ _ _,_,rfl,p,_,_,_,rfl,rfl,AJ.of hp,B5 _ _ _,λx dx nx ndx nex=>?_⟩;refine⟨x,C1,dx,_,_,rfl,T1,AX,λH4 hx sb=>⟨rfl,?_⟩⟩;exact q x H4 (λb o e=>sb b o (A5 e nx) (by rw[An (A5 e nx),An (A5 e ndx)]; exact e)) ⟨dx,hx⟩
 | bs j k =>
  have hp:H p=some (.AH [.str "beside",.int j,.int k]):=hp;refine⟨_,rfl,p,_,_,_,rfl,rfl,AJ.of hp,EY _ _ _,rfl,_,rfl,BU (by decide +kernel) ?_⟩;refine⟨_,rfl,p,_,_,_,rfl,rfl,AJ.of hp,E3 _ _ _,_,rfl,p,_,_,_,rfl,rfl,AJ.of hp,B5 _ _ _,λx dx nx ndx nex=>?_⟩;refine⟨x,C2,dx,_,_,rfl,T2,AX,λH4 hx sb=>⟨rfl,?_⟩⟩;exact q x H4 (λb o e=>sb b o (A5 e nx) (by rw[An (A5 e nx),An (A5 e ndx)]; exact e)) ⟨dx,hx⟩
 | sp _ _ _ _ _=>cases jt
 | no _ _ _=>cases jt
def Nj(C1 C2 C3:Addr):Sp:=λvs H Q _=>∃(x:Addr) (t:Ba),vs=[.ref x,.str (HH t)]/\EB C1 C2 C3 H x t/\∀H',AQ H H'->Q (.bl true) H'
theorem SS:Ak ["_law_step","_law_word","_law_kinds"] ["_law_step","_law_word"] (Af s_law_kind):=Ap
theorem Z9:(["_law_one","_law_word"]:List Str).Nodup:=by decide +kernel
abbrev w3:List Str:=["above","beside","split"]
theorem Xd (F:Ag K "_law_kind" "_law_kind" s_law_kind f fd) (T1:StC K C1) (T2:StC K C2) (T3:DQ K C3) (mC1:mg "Above" = some (.ref C1)) (mC2:mg "Beside" = some (.ref C2)) (mC3:mg "Split" = some (.ref C3)) (mCS:mg "Step" = some (.ref CS)) (ms:mg "isinstance" = none)
  (k1:Hl K C1 C1 C2 C3 CS true false false) (k2:Hl K C2 C1 C2 C3 CS false true false) (k3:Hl K C3 C1 C2 C3 CS false false true):AG P w K mg base AM 1 f fd ["_law_step","_law_word"] (Nj C1 C2 C3):=by
 refine F.ok SS (λvs H Q E h=>?_) (λcdv A outer s H vs Q E hr h=>?_)
 ·obtain⟨x,t,rfl,_⟩:=h;rfl
 obtain⟨x,t,rfl,hx,q⟩:=h;refine⟨_,AR (Ab (i:=2) SS.nd rfl (Or.inl rfl) (CU (AA (BJ (KU (c:=.ref C1) (cv:=.ref C1) λ_ z=>z) (by rfl) ms Hm (AA (pv 0) (AA (HN (v:=.ref C1) (by rfl) mC1 rfl) AI))) (AA (BJ (KU (c:=.ref C2) (cv:=.ref C2) λ_ z=>z) (by rfl) ms Hm (AA (pv 0) (AA (HN (v:=.ref C2) (by rfl) mC2 rfl) AI))) (AA (BJ (KU (c:=.ref C3) (cv:=.ref C3) λ_ z=>z) (by rfl) ms Hm (AA (pv 0) (AA (HN (v:=.ref C3) (by rfl) mC3 rfl) AI))) AI)))))
  (AU (AY (FL (BJ (KU (c:=.ref CS) (cv:=.ref CS) λ_ z=>z) (by rfl) ms Hm (AA (pv 0) (AA (HN (v:=.ref CS) (by rfl) mCS rfl) AI)))
   (EM (Bq (Yq hr.units) (pv 2) (Ht (Nc:=["_law_one","_law_word"]) (cap:=[(1,1)]) (g:=CW 0) (te:=BG J6 (Ar 1) (Ar 0)) rfl (NI (K:=K) (A0 (AA Bk (AA Bk (AA Bk AI)))))
    (Ek rfl rfl (by decide +kernel) (by decide +kernel) (List.forall_mem_cons.mpr ⟨⟨rfl,rfl⟩,List.forall_mem_nil _⟩) rfl (List.forall_mem_cons.mpr ⟨⟨_,_,rfl,rfl,rfl,rfl,rfl⟩,List.forall_mem_nil _⟩))
    (λ_ _ _ _ _=>A8 (i:=0) Z9 rfl (Or.inl rfl)) (λ_ _ _ _ _=>Bq CQ (pv 1) (pv 0) (Ai _))) (Ai _)))))),?_⟩
 have main:∀{C:Addr} {b1 b2 b3:Bool} (ty:∀H',AQ H H'->Dw K H' (.ref x) (.ref C)) (kc:Hl K C C1 C2 C3 CS b1 b2 b3) (hb:[b1,b2,b3]=w3.map λz=>decide (HH t=z)),Jn (Ib (Jm (Ax (Ic (Jf K (.ref C1) (.ref C1)) (Ax (Ar 0) (Ax (tC (.ref C1)) BH))) (Ax (Ic (Jf K (.ref C2) (.ref C2)) (Ax (Ar 0) (Ax (tC (.ref C2)) BH))) (Ax (Ic (Jf K (.ref C3) (.ref C3)) (Ax (Ar 0) (Ax (tC (.ref C3)) BH))) BH)))) (CW 2)) (FU (NB (Ic (Jf K (.ref CS) (.ref CS)) (Ax (Ar 0) (Ax (tC (.ref CS)) BH))) (BG RL (Ar 2) (JX 2 [(1,1)] (Nk K (Gs (Ax (tC (.str "above")) (Ax (tC (.str "beside")) (Ax (tC (.str "split")) BH))))) (CW 0) (BG J6 (Ar 1) (Ar 0)))))) { nx:=λ_ H'=>Q .Ay H',rt:=Q } [some (.ref x),some (.str (HH t)),none] H:=by
  intro C b1 b2 b3 ty kc hb;have t0:=ty H (AQ.refl _);refine⟨_,rfl,_,_,b1,rfl,t0,kc.e1,_,rfl,_,_,b2,rfl,t0,kc.e2,_,rfl,_,_,b3,rfl,t0,kc.e3,by exact EF,λl hl=>?_⟩;have s1:=Ae hl (.AN [.bl b1,.bl b2,.bl b3]);have hl1:AK H l (.AN [.bl b1,.bl b2,.bl b3]) l=some (.AN [.bl b1,.bl b2,.bl b3]):=AX;generalize AK H l (.AN [.bl b1,.bl b2,.bl b3])=H1 at s1 hl1;refine⟨_,rfl,_,_,true,rfl,ty H1 s1,kc.es,_,rfl,CL ?_⟩;refine⟨_,rfl,by exact EF,λp hp=>?_⟩;have s2:=Ae hp (.AH [.str "above",.str "beside",.str "split"]);have hp1:AK H1 p (.AH [.str "above",.str "beside",.str "split"]) p=some (.AH (w3.map V.str)):=AX;generalize AK H1 p (.AH [.str "above",.str "beside",.str "split"])=H2 at s2 hp1;refine⟨p,rfl,⟨_,AJ.of hp1⟩,λacc hacc=>?_⟩;refine Fj (JC hp1) (by show 3<=1000; decide) hacc (λi ys σ _=>ys=((w3.map λz=>decide (HH t=z)).take i).map V.bl/\∃u,σ=[u,some (.str (HH t))]) ⟨rfl,none,rfl⟩ ?_ ?_
  ·rintro i ys σ H3 y H4 hi sm hacc2 ⟨rfl,u,rfl⟩ ⟨rfl,hy⟩ Cc hC;rw[List.getElem?_map] at hy;obtain⟨z,hz,rfl⟩:=Option.map_eq_some_iff.mp hy;refine⟨_,rfl,_,rfl,rfl,?_⟩;refine hC _ _ _ (AQ.refl _) ⟨?_,_,rfl⟩;have ec:(w3.map λz=>decide (HH t=z))[i]?=some (decide (HH t=z)):=by rw[List.getElem?_map,hz]; rfl
   rw[EG ec,List.map_append];congr 2;show V.bl _=V.bl _;congr 1;exact decide_eq_decide.mpr ⟨λe=>by injection e,λe=>by rw[e]⟩
  rintro ys σ H3 s3 hacc2 hl2 ⟨rfl,u,rfl⟩;rw[List.take_of_length_le (by simp),<-hb] at hacc2;have rd:∀(i:Nat) (x:V) (d:PyData),([.bl b1,.bl b2,.bl b3]:List V)[i]?=some x->([.bool b1,.bool b2,.bool b3]:List PyData)[i]?=some d->BX H3 x d:=λi x d e1 e2=>by
   match i,e1,e2 with
   | 0,e1,e2=>cases e1; cases e2; exact .bl _
   | 1,e1,e2=>cases e1; cases e2; exact .bl _
   | 2,e1,e2=>cases e1; cases e2; exact .bl _
   | n+3,e1,e2=>simp at e1
  refine⟨0,l,acc,_,_,[.bool b1,.bool b2,.bool b3],by decide,rfl,rfl,s3 _ _ (s2 _ _ hl1),hacc2,rfl,rfl,rd,rd,λd hd=>?_,q H3 (s1.trans (s2.trans s3))⟩;simp only[List.mem_cons,List.not_mem_nil,or_false] at hd;rcases hd with rfl | rfl | rfl <;> exact .bl _
 cases t with
 | ab j k =>
  obtain⟨dx,hx⟩:=hx;exact main (λH' s'=>.Az (s' _ _ hx) T1.cl k1.ha k1.hn k1.ht k1.hm) k1 (show _=w3.map λz=>decide (("above":Str)=z) by decide +kernel)
 | bs j k =>
  obtain⟨dx,hx⟩:=hx;exact main (λH' s'=>.Az (s' _ _ hx) T2.cl k2.ha k2.hn k2.ht k2.hm) k2 (show _=w3.map λz=>decide (("beside":Str)=z) by decide +kernel)
 | sp j k r1 r2 cv =>
  obtain⟨dx,p1,p2,hx,_⟩:=hx;exact main (λH' s'=>.Az (s' _ _ hx) T3.cl k3.ha k3.hn k3.ht k3.hm) k3 (show _=w3.map λz=>decide (("split":Str)=z) by decide +kernel)
 | no s j k=>exact hx.elim
structure Lj(W U:Rat)(r1 r2:List (List Rat))(t u:Ba):Prop where
 ok1:G0 W U r1 t
 f1:CB r1 t=true
 d1:Ed r1 t=r2
 k1:HB r1 t u
 ok2:G0 W U r2 u
 f2:CB r2 u=true
 d2:Ed r2 u=r1
 k2:HB r2 u t
theorem Rj{rows:List (List Rat)}{t u:Ba}(h:HB rows t u):GN t=false:=by
 cases t <;> first | rfl | exact False.elim h
def Lm(C1 C2 C3:Addr):Sp:=λvs H Q _=>∃(a x b pb:Addr) (W U:Rat) (r1 r2:List (List Rat)) (t u:Ba),vs=[.ref a,.ref x,.ref b,.ref pb]/\BV H a W U r1/\EB C1 C2 C3 H x t/\BV H b W U r2/\FW H pb u/\Lj W U r1 r2 t u/\∀H',AQ H H'->Q (.bl true) H'
theorem NZ:Ak ["_law_floor","_law_step","_law_behind","_law_back","_law_found","_law_again"] ["_law_floor","_law_step","_law_behind","_law_back"] (Af s_law_way):=Ap
structure Ms(P:Program)(w:World)(K:PySem.W.Frag)(mg:Str->Option Value)(base:Heap)(C1 C2 C3 CN:Addr)(m:Str)(CX:Cp)(i1 i2 i3:Nat)(ps:List Str)(s1 s2 s3:Sp)(f1 f2 f3:Addr)(d1 d2 d3:FuncData):Prop where
 G1:AG P w K mg base CX i1 f1 d1 ps s1
 G2:AG P w K mg base CX i2 f2 d2 ps s2
 G3:AG P w K mg base CX i3 f3 d3 ps s3
 b1:AV K d1 ps []
 b2:AV K d2 ps []
 b3:AV K d3 ps []
 e1:Bc K C1 m f1
 e2:Bc K C2 m f2
 e3:Bc K C3 m f3
variable {g1 g2 g3 t1 t2 t3:Addr} {gd1 gd2 gd3 td1 td2 td3:FuncData}
set_option maxHeartbeats 4000000 in
seal L2.Cs L2.PS L2.PE L2.PA in
theorem Ya (F:Ag K "_law_way" "_law_way" s_law_way f fd) (T1:StC K C1) (T2:StC K C2) (T3:DQ K C3)
  (D:Ms P w K mg base C1 C2 C3 CN "done" (Aj P w) 7 7 10 ["self","floor"] (B4 C1 CN Bg) (B4 C2 CN BE) (Gi C3 CN) f1 f2 f3 d1 d2 d3)
  (B:Ms P w K mg base C1 C2 C3 CN "back" (Aj P w) 7 7 10 ["self","floor"] (Cz C1 C3 CN Bg) (Cz C2 C3 CN BE) (IF C1 C2 C3 CN) g1 g2 g3 gd1 gd2 gd3)
  (T:Ms P w K mg base C1 C2 C3 CN "told" AM 1 1 1 ["self"] (Dp C1 "above") (Dp C2 "beside") (HM C3) t1 t2 t3 td1 td2 td3)
  (G4:AG P w K mg base (Aj P w) 4 f4 d4 ["told"] (IH C1 C2 C3 CE)) (b4:AV K d4 ["told"] []) (k4:KP K f4) (m4:mg "step_of" = some (.ref f4))
  (G5:AG P w K mg base (Aj P w) 11 f5 d5 ["floor","steps"] (NL CN CE)) (b5:AV K d5 ["floor","steps"] []) (k5:KP K f5) (m5:mg "walked" = some (.ref f5))
  (G6:AG P w K mg base AM 1 f6 d6 ["_law_step","_law_word"] (Nj C1 C2 C3)) (b6:AV K d6 ["_law_step","_law_word"] []) (k6:KP K f6) (m6:mg "_law_kind" = some (.ref f6)) :
  AG P w K mg base AM 12 f fd ["_law_floor","_law_step","_law_behind","_law_back"] (Lm C1 C2 C3):=by
 refine F.ok NZ (λvs H Q E h=>?_) (λcdv A outer s H vs Q E hr h=>?_)
 ·obtain⟨a,x,b,pb,W,U,r1,r2,t,u,rfl,_⟩:=h;rfl
 obtain⟨a,x,b,pb,W,U,r1,r2,t,u,rfl,hA,hx,hB,hu,wk,q⟩:=h;have n1:=hr.mono (show 1<=11 by decide);have n4:=hr.mono (show 4<=11 by decide);have n7:=hr.mono (show 7<=11 by decide);have n10:=hr.mono (show 10<=11 by decide);refine⟨_,AR (A3 (Aw (Ge hr.units) (Ho (E:=E0) (pv 1) T1.cl T2.cl T3.cl D.e1 D.e2 D.e3 D.G1 D.G2 D.G3 n7 n7 n10 D.b1 D.b2 D.b3 FJ (AA (pv 0) AI)) (pv 2) (Ai _)) (AU (AY CA)) A6)
  (AR (Ab (i:=4) NZ.nd rfl (Or.inl rfl) (Ho (E:=E0) (pv 1) T1.cl T2.cl T3.cl B.e1 B.e2 B.e3 B.G1 B.G2 B.G3 n7 n7 n10 B.b1 B.b2 B.b3 FJ (AA (pv 0) AI)))
  (AR (A3 (PW.pt (D9 (Gd (DC (Ad G6 n1 (by rfl) m6 k6 b6 .nil AZ (AA (pv 4) (AA (pT K (pv 3) AF) AI)))))
   (D9 (Aw (Ge hr.units) (GR (E:=E0) (pv 4) T1.cl T2.cl T3.cl T.e1 T.e2 T.e3 T.G1 T.G2 T.G3 n1 n1 n1 T.b1 T.b2 T.b3 AZ) (pv 3) (Ai _))
   (Gf (Aw (Ge hr.units) (Ho (E:=E0) (pv 4) T1.cl T2.cl T3.cl D.e1 D.e2 D.e3 D.G1 D.G2 D.G3 n7 n7 n10 D.b1 D.b2 D.b3 FJ (AA (pv 2) AI)) (pv 0) (Ai _)))))) (AU (AY CA)) A6)
  (AR (Ab (i:=5) NZ.nd rfl (Or.inl rfl) (Ho (E:=E0) (pv 4) T1.cl T2.cl T3.cl B.e1 B.e2 B.e3 B.G1 B.G2 B.G3 n7 n7 n10 B.b1 B.b2 B.b3 FJ (AA (pv 2) AI)))
  (AR (A3 (PW.pt (D9 (Gd (DC (Ad G6 n1 (by rfl) m6 k6 b6 .nil AZ (AA (pv 5) (AA (pT K (GR (E:=E0) (pv 1) T1.cl T2.cl T3.cl T.e1 T.e2 T.e3 T.G1 T.G2 T.G3 n1 n1 n1 T.b1 T.b2 T.b3 AZ) AF) AI)))))
   (D9 (Aw (Ge hr.units) (GR (E:=E0) (pv 5) T1.cl T2.cl T3.cl T.e1 T.e2 T.e3 T.G1 T.G2 T.G3 n1 n1 n1 T.b1 T.b2 T.b3 AZ) (GR (E:=E0) (pv 1) T1.cl T2.cl T3.cl T.e1 T.e2 T.e3 T.G1 T.G2 T.G3 n1 n1 n1 T.b1 T.b2 T.b3 AZ) (Ai _))
   (Gf (Aw (Ge hr.units) (Ho (E:=E0) (Ad (CX:=Aj P w) (E:=E0) G4 n4 (by rfl) m4 k4 b4 .nil FJ (AA (pv 3) AI)) T1.cl T2.cl T3.cl D.e1 D.e2 D.e3 D.G1 D.G2 D.G3 n7 n7 n10 D.b1 D.b2 D.b3 FJ (AA (pv 2) AI)) (pv 0) (Ai _)))))) (AU (AY CA)) A6)
  (AU (AY (FL (Bq (JL hr.units) (Ad (CX:=Aj P w) (E:=E0) G5 hr (by rfl) m5 k5 b5 .nil FJ (AA (pv 0) (AA (A0 (AA (GR (E:=E0) (pv 1) T1.cl T2.cl T3.cl T.e1 T.e2 T.e3 T.G1 T.G2 T.G3 n1 n1 n1 T.b1 T.b2 T.b3 AZ) (AA (pv 3) AI))) AI))) (pv 0) (Ai _))
   (EM (Bq (JL hr.units) (Ad (CX:=Aj P w) (E:=E0) G5 hr (by rfl) m5 k5 b5 .nil FJ (AA (pv 2) (AA (A0 (AA (pv 3) (AA (GR (E:=E0) (pv 1) T1.cl T2.cl T3.cl T.e1 T.e2 T.e3 T.G1 T.G2 T.G3 n1 n1 n1 T.b1 T.b2 T.b3 AZ) (AA (pv 3) AI)))) AI))) (pv 0) (Ai _)))))))))),?_⟩
 have nt:=Yw hx;have nu:=Rj wk.k2;have fa:∀{rows:List (List Rat)} {v:Ba} {H1:Hp},CB rows v=true->CB rows v=false->∀H',AQ H1 H'->E0 (.ref CN) none H':=λz y=>by rw[z] at y; cases y
 refine⟨_,rfl,KQ (λ_ h=>⟨_,rfl,h⟩) hx hA wk.ok1 (λ_ c1 H1 s1 hc1=>?_) (fa wk.f1)⟩;rw[wk.d1] at hc1;refine⟨_,rfl,_,_,Dh hc1,Dh (BO s1 hB),Ds _ _ _,Ds _ _ _,_,rfl,?_⟩;rw[JH];refine Bh ?_;clear hc1;refine⟨_,rfl,MU (λ_ h=>⟨_,rfl,h⟩) (DD s1 hx) (BO s1 hA) wk.ok1 (λ_ y H2 s2 hy=>?_) (fa wk.f1)⟩;replace s2:=s1.trans s2;replace hy:=hy u wk.k1;have hu2:=D5 s2 hu;obtain⟨xs,hxs,ex⟩:=RM hu2;refine⟨_,rfl,_,rfl,pb,_,_,_,rfl,rfl,AJ.of hxs,ex,y,u,rfl,hy,λH3 s3=>⟨_,rfl,Bh ?_⟩⟩;refine⟨_,rfl,GU (λ_ h=>h) (DD s3 hy) (λp4 H4 s4 h4=>?_)⟩;have s34:=s3.trans s4;refine⟨_,rfl,_,_,Ga h4,Ga (D5 s34 hu2),Fs nu,Fs nu,_,rfl,?_⟩;rw[KO nu];refine Bh ?_;refine⟨_,rfl,KQ (λ_ h=>⟨_,rfl,h⟩) (DD s34 hy) (BO (s2.trans s34) hB) wk.ok2 (λ_ c5 H5 s5 hc5=>?_) (fa wk.f2)⟩;rw[wk.d2] at hc5;replace s5:=s34.trans s5;refine⟨_,rfl,_,_,Dh hc5,Dh (BO (s2.trans s5) hA),Ds _ _ _,Ds _ _ _,_,rfl,?_⟩;rw[JH];refine Bh ?_;clear hc5;replace hy:=DD s5 hy;replace s2:=s2.trans s5;clear s34 s4 s5 s3 h4 hxs ex hu2;refine⟨_,rfl,MU (λ_ h=>⟨_,rfl,h⟩) hy (BO s2 hB) wk.ok2 (λ_ z H6 s6 hz=>?_) (fa wk.f2)⟩;replace hz:=hz t wk.k2;replace s2:=s2.trans s6;refine⟨_,rfl,_,rfl,GU (λ_ h=>h) (DD s2 hx) (λp7 H7 s7 h7=>?_)⟩;obtain⟨xs,hxs,ex⟩:=RM h7;refine⟨p7,_,_,_,rfl,rfl,AJ.of hxs,ex,z,t,rfl,DD s7 hz,λH8 s8=>⟨_,rfl,Bh ?_⟩⟩;replace s8:=s7.trans s8;refine⟨_,rfl,GU (λ_ h=>h) (DD s8 hz) (λp9 H9 s9 h9=>?_)⟩;replace s9:=s8.trans s9;refine⟨_,rfl,GU (λ_ h=>h) (DD (s2.trans s9) hx) (λp10 H10 s10 h10=>?_)⟩;refine⟨_,_,Ga (D5 s10 h9),Ga h10,Fs nt,Fs nt,_,rfl,?_⟩;rw[KO nt];refine Bh ?_;replace s2:=s2.trans (s9.trans s10);clear s10 s9 s8 s7 h7 hxs ex h9 h10;refine⟨_,rfl,pb,u,rfl,D5 s2 hu,λv H11 s11 hv=>?_,λy=>?_⟩
 case refine_2=>obtain⟨_,_,_,rfl⟩:=y; cases nu
 replace s2:=s2.trans s11;refine KQ (λ_ h=>⟨_,rfl,h⟩) hv (BO s2 hB) wk.ok2 (λ_ c12 H12 s12 hc12=>?_) (fa wk.f2);rw[wk.d2] at hc12;replace s2:=s2.trans s12;refine⟨_,rfl,_,_,Dh hc12,Dh (BO s2 hA),Ds _ _ _,Ds _ _ _,_,rfl,?_⟩;rw[JH];refine Bh ?_;clear hc12 hv s11 s12;refine⟨_,rfl,_,rfl,GU (λ_ h=>h) (DD s2 hx) (λp13 H13 s13 h13=>?_)⟩;replace s2:=s2.trans s13;refine⟨_,rfl,by exact sz2,λp14 n14=>?_⟩;have s14:=Ae n14 (.AH [.ref p13,.ref pb]);have h14:AK H13 p14 (.AH [.ref p13,.ref pb]) p14=some (.AH ([p13,pb].map V.ref)):=AX;generalize AK H13 p14 (.AH [.ref p13,.ref pb])=H14 at s14 h14;replace s2:=s2.trans s14;refine⟨a,p14,[p13,pb],[t,u],W,U,r1,rfl,BO s2 hA,h14,(At.nil.snoc (D5 s14 h13)).snoc (D5 s2 hu),.inr ⟨wk.ok1,λ_=>.inr ⟨by rw[wk.d1]; exact wk.ok2,λ_=>trivial⟩⟩,?_⟩;have w1:My.wk [t,u] r1=.fl r1:=by
  unfold My.wk;rw[if_neg (by rw[nt]; decide),if_pos wk.f1,wk.d1];unfold My.wk;rw[if_neg (by rw[nu]; decide),if_pos wk.f2,wk.d2];rfl
 have w2:My.wk [u,t,u] r2=.fl r1:=by
  unfold My.wk;rw[if_neg (by rw[nu]; decide),if_pos wk.f2,wk.d2];exact w1
 rw[w1];intro c15 H15 s15 hc15;replace s2:=s2.trans s15;refine⟨_,rfl,_,_,Dh hc15,Dh (BO s2 hA),Ds _ _ _,Ds _ _ _,_,rfl,?_⟩;rw[JH];refine CL ?_;clear hc15 s15 h14 s14 h13 s13;refine⟨_,rfl,_,rfl,_,rfl,GU (λ_ h=>h) (DD s2 hx) (λp16 H16 s16 h16=>?_)⟩;replace s2:=s2.trans s16;refine⟨_,rfl,by exact EF,λp17 n17=>?_⟩;have s17:=Ae n17 (.AH [.ref pb,.ref p16,.ref pb]);have h17:AK H16 p17 (.AH [.ref pb,.ref p16,.ref pb]) p17=some (.AH ([pb,p16,pb].map V.ref)):=AX;generalize AK H16 p17 (.AH [.ref pb,.ref p16,.ref pb])=H17 at s17 h17;replace s2:=s2.trans s17;refine⟨b,p17,[pb,p16,pb],[u,t,u],W,U,r2,rfl,BO s2 hB,h17,((At.nil.snoc (D5 s2 hu)).snoc (D5 s17 h16)).snoc (D5 s2 hu),.inr ⟨wk.ok2,λ_=>.inr ⟨by rw[wk.d2]; exact wk.ok1,λ_=>.inr ⟨by rw[wk.d2,wk.d1]; exact wk.ok2,λ_=>trivial⟩⟩⟩,?_⟩;rw[w2];intro c18 H18 s18 hc18;replace s2:=s2.trans s18;refine⟨_,rfl,_,_,Dh hc18,Dh (BO s2 hA),Ds _ _ _,Ds _ _ _,?_⟩;rw[JH];exact q H18 s2
structure SQ(K:PySem.W.Frag)(C CF:Addr):Prop where
 c:F0 K C
 x:PySem.W.exmOne K (.ref C) (.ref CF)=some true
 n:PySem.W.kitOne K (.ref C) (.ref C)=some true
inductive DW(b:AE):AE->AE->Prop
 | x (v:Int):b.l<v->v<b.r->DW b (b.l,b.d,v,b.u) (v,b.d,b.r,b.u)
 | x' (v:Int):b.l<v->v<b.r->DW b (v,b.d,b.r,b.u) (b.l,b.d,v,b.u)
 | y (v:Int):b.d<v->v<b.u->DW b (b.l,b.d,b.r,v) (b.l,v,b.r,b.u)
 | y' (v:Int):b.d<v->v<b.u->DW b (b.l,v,b.r,b.u) (b.l,b.d,b.r,v)
def NR(C1 C2 C3:Addr):Sp:=λvs H Q _=>∃(x a:Addr) (W U:Rat) (rows:List (List Rat)) (t:Ba),vs=[.ref x,.ref a]/\EB C1 C2 C3 H x t/\BV H a W U rows/\G0 W U rows t/\CB rows t=false/\∀H',AQ H H'->Q (.bl true) H'
theorem IS:Ak ["_law_step","_law_floor","_law_refused_here","e"] ["_law_step","_law_floor"] (Af s_law_refused):=Ap
theorem Ws (F:Ag K "_law_refused" "_law_refused" s_law_refused f fd) (T1:StC K C1) (T2:StC K C2) (T3:DQ K C3)
  (D:Ms P w K mg base C1 C2 C3 CN "done" (Aj P w) 7 7 10 ["self","floor"] (B4 C1 CN Bg) (B4 C2 CN BE) (Gi C3 CN) f1 f2 f3 d1 d2 d3)
  (B:Ms P w K mg base C1 C2 C3 CN "back" (Aj P w) 7 7 10 ["self","floor"] (Cz C1 C3 CN Bg) (Cz C2 C3 CN BE) (IF C1 C2 C3 CN) g1 g2 g3 gd1 gd2 gd3)
  (mF:mg "FloorError" = some (.ref CF)) (mN:mg "NoFit" = some (.ref CN)) (ms:mg "isinstance" = none) (mi:mg "int" = none) (kN:SQ K CN CF):AG P w K mg base AM 11 f fd ["_law_step","_law_floor"] (NR C1 C2 C3):=by
 refine F.ok IS (λvs H Q E h=>?_) (λcdv A outer s H vs Q E hr h=>?_)
 ·obtain⟨x,a,W,U,rows,t,rfl,_⟩:=h;rfl
 obtain⟨x,a,W,U,rows,t,rfl,hx,hA,ok,ft,q⟩:=h;have n7:=hr.mono (show 7<=10 by decide);refine⟨_,AR (Ab (i:=2) IS.nd rfl (Or.inl rfl) AF)
  (AR (Q8 (i:=3) IS.nd rfl rfl (by rfl) mF rfl rfl (Pw (P0 (R3 (pv 0)) T1.cl T2.cl T3.cl D.e1 D.e2 D.e3 D.G1 D.G2 D.G3 n7 n7 hr D.b1 D.b2 D.b3 (AA (pv 1) AI))) (λa=>AU (Ab (i:=2) IS.nd rfl (Or.inl rfl) (AW BW (pv 2) (EJ PQ (by rfl) mi Qx (AA (BJ (PU (c:=.ref CN) (cv:=.ref CN) λ_ z=>z) (by rfl) ms Hm (AA (pv 3) (AA (HN (v:=.ref CN) (by rfl) mN rfl) AI))) AI))))))
  (AR (Q8 (i:=3) IS.nd rfl rfl (by rfl) mF rfl rfl (Pw (P0 (R3 (pv 0)) T1.cl T2.cl T3.cl B.e1 B.e2 B.e3 B.G1 B.G2 B.G3 n7 n7 hr B.b1 B.b2 B.b3 (AA (pv 1) AI))) (λa=>AU (Ab (i:=2) IS.nd rfl (Or.inl rfl) (AW BW (pv 2) (EJ PQ (by rfl) mi Qx (AA (BJ (PU (c:=.ref CN) (cv:=.ref CN) λ_ z=>z) (by rfl) ms Hm (AA (pv 3) (AA (HN (v:=.ref CN) (by rfl) mN rfl) AI))) AI))))))
  (AU (AY (Bq CQ (pv 2) AF (Ai _)))))),?_⟩
 have no:∀{Z:Prop},CB rows t=true->Z:=λz=>by rw[ft] at z; cases z
 refine⟨_,rfl,KQ (λ_ h=>⟨_,rfl,h⟩) hx hA ok (λz=>no z) (λ_ H1 s1=>?_)⟩;refine⟨kN.x,λe he=>?_⟩;have s2:=Ae he (EZ e (.ref CN) none);have x2:(AK H1 e (EZ e (.ref CN) none)) e=some (EZ e (.ref CN) none):=AX;generalize AK H1 e (EZ e (.ref CN) none)=H2 at s2 x2;replace s2:=s1.trans s2;refine⟨_,rfl,_,rfl,e,CN,none,true,rfl,x2,kN.c,kN.n,.inr ⟨_,rfl,_,_,rfl,rfl,?_⟩⟩;refine⟨_,rfl,MU (λ_ h=>⟨_,rfl,h⟩) (DD s2 hx) (BO s2 hA) ok (λz=>no z) (λ_ H3 s3=>?_)⟩;refine⟨kN.x,λe2 he2=>?_⟩;have s4:=Ae he2 (EZ e2 (.ref CN) none);have x4:(AK H3 e2 (EZ e2 (.ref CN) none)) e2=some (EZ e2 (.ref CN) none):=AX;generalize AK H3 e2 (EZ e2 (.ref CN) none)=H4 at s4 x4;exact⟨_,rfl,_,rfl,e2,CN,none,true,rfl,x4,kN.c,kN.n,.inr ⟨_,rfl,_,_,rfl,rfl,_,rfl,rfl,q H4 (s2.trans (s3.trans s4))⟩⟩
def N7:Sp:=λvs H Q _=>∃(pb:Addr) (b:AE) (c:Int),vs=[.ref pb,.int c]/\A4 H pb b/\(∀H',AQ H H'->Q .Ay H')/\∀p p1 p2 q1 q2 H',AQ H H'->H' p=some (.AN [.ref p1,.ref p2])->A4 H' p1 q1->A4 H' p2 q2->DW b q1 q2->Q (.ref p) H'
theorem Fy:Ak ["_law_box","_law_cell","_law_left","_law_low","_law_right","_law_high","_law_x","_law_parts","_law_y"] ["_law_box","_law_cell"] (Af s_law_cut):=Ap
theorem Sg{x y:V}:BN [x,y] 0=some x:=Al (j:=0) rfl
theorem Sa{x y:V}:BN [x,y] 1=some y:=Al (j:=1) rfl
set_option maxHeartbeats 4000000 in
theorem XB(F:Ag K "_law_cut" "_law_cut" s_law_cut f fd):AG P w K mg base AM 1 f fd ["_law_box","_law_cell"] N7:=by
 refine F.ok Fy (λvs H Q E h=>?_) (λcdv A outer s H vs Q E hr h=>?_)
 ·obtain⟨pb,b,c,rfl,_⟩:=h;rfl
 obtain⟨pb,⟨l,lo,r,hi⟩,c,rfl,hb,qn,q⟩:=h;refine⟨_,AR (JK (pv 0) (FQ (n:=4) (K:=K) rfl (Bp (A8 (i:=2) Fy.nd rfl (Or.inl rfl)) (Bp (A8 (i:=3) Fy.nd rfl (Or.inl rfl)) (Bp (A8 (i:=4) Fy.nd rfl (Or.inl rfl)) (Bp (A8 (i:=5) Fy.nd rfl (Or.inl rfl)) FG))))))
  (AR (A3 (PW.pt (En (Aw CQ (AW Bs (pv 1) AF) AF (Ai _)) (GX (Aw EV (AW CI (pv 4) (pv 2)) AF (Ai _)))))
   (AR (Ab (i:=6) Fy.nd rfl (Or.inl rfl) (AW BW (AW BW (pv 2) AF) (AW Bs (AW EL (pv 1) AF) (AW CI (AW CI (pv 4) (pv 2)) AF))))
   (AU (Ab (i:=7) Fy.nd rfl (Or.inl rfl) (CU (AA (A0 (AA (pv 2) (AA (pv 3) (AA (pv 6) (AA (pv 5) AI))))) (AA (A0 (AA (pv 6) (AA (pv 3) (AA (pv 4) (AA (pv 5) AI))))) AI))))))
   (AU (A3 (Aw EV (AW CI (pv 5) (pv 3)) AF (Ai _))
    (AR (Ab (i:=8) Fy.nd rfl (Or.inl rfl) (AW BW (AW BW (pv 3) AF) (AW Bs (AW EL (pv 1) AF) (AW CI (AW CI (pv 5) (pv 3)) AF))))
    (AU (Ab (i:=7) Fy.nd rfl (Or.inl rfl) (CU (AA (A0 (AA (pv 2) (AA (pv 3) (AA (pv 4) (AA (pv 8) AI))))) (AA (A0 (AA (pv 2) (AA (pv 8) (AA (pv 4) (AA (pv 5) AI))))) AI))))))
    (AU (AY K1)))))
  (AR (A3 (Aw CQ (AW Bs (AW EL (pv 1) AF) AF) AF (Ai _)) (AU (AY (CU (AA (pL K (pv 7) AF) (AA (pL K (pv 7) AF) AI))))) A6)
  (AU (AY (pv 7))))),?_⟩
 refine⟨_,rfl,pb,_,rfl,AJ.of hb,rfl,_,_,rfl,_,_,rfl,_,_,rfl,_,_,rfl,rfl,?_⟩;have fin:∀(u6 u8:Option V) (H3:Hp) (p p1 p2:Addr) (q1 q2:AE),AQ H H3->H3 p=some (.AN [.ref p1,.ref p2])->A4 H3 p1 q1->A4 H3 p2 q2->DW (l,lo,r,hi) q1 q2->DW (l,lo,r,hi) q2 q1 →
   Jn (Nm (LS (BG J6 (BG (rI (λ_ j=>0<j) λi j=>.int (i % j)) (BG (rI NS λi j=>.int (i / j)) (Ar 1) (tC (.int 2))) (tC (.int 2))) (tC (.int 1)))) (FU (Jm (Ax (BG (GA K) (Ar 7) (tC (.int 1))) (Ax (BG (GA K) (Ar 7) (tC (.int 0))) BH)))) La) (FU (Ar 7)) { nx:=λ_ H'=>Q .Ay H',rt:=Q } [some (.ref pb),some (.int c),some (.int l),some (.int lo),some (.int r),some (.int hi),u6,some (.ref p),u8] H3:=by
  intro u6 u8 H3 p p1 p2 q1 q2 s3 hp h1 h2 c1 c2;refine⟨_,rfl,_,_,rfl,rfl,⟨by decide,by decide⟩,_,_,rfl,rfl,(show(0:Int)<2 by decide),rfl,_,rfl,?_⟩;refine Ey (λ_=>?_) (λ_=>⟨_,rfl,q p p1 p2 q1 q2 H3 s3 hp h1 h2 c1⟩);refine⟨_,rfl,p,_,_,_,rfl,rfl,AS.of hp,Sa,_,rfl,p,_,_,_,rfl,rfl,AS.of hp,Sg,by exact sz2,λp' hp'=>?_⟩;have s4:=Ae hp' (.AN [.ref p2,.ref p1]);exact q p' p2 p1 q2 q1 _ (s3.trans s4) AX (s4 _ _ h2) (s4 _ _ h1) c2
 have fin2:∀(u6 u8:Option V) (a1 b1 c1 e1 a2 b2 c2 e2:Int),DW (l,lo,r,hi) (a1,b1,c1,e1) (a2,b2,c2,e2)->DW (l,lo,r,hi) (a2,b2,c2,e2) (a1,b1,c1,e1)->∀p,H p=none->∀p2,(AK H p (.AH [.int a1,.int b1,.int c1,.int e1])) p2=none->∀p3,(AK (AK H p (.AH [.int a1,.int b1,.int c1,.int e1])) p2 (.AH [.int a2,.int b2,.int c2,.int e2])) p3=none →
   Jn (Nm (LS (BG J6 (BG (rI (λ_ j=>0<j) λi j=>.int (i % j)) (BG (rI NS λi j=>.int (i / j)) (Ar 1) (tC (.int 2))) (tC (.int 2))) (tC (.int 1)))) (FU (Jm (Ax (BG (GA K) (Ar 7) (tC (.int 1))) (Ax (BG (GA K) (Ar 7) (tC (.int 0))) BH)))) La) (FU (Ar 7)) { nx:=λ_ H'=>Q .Ay H',rt:=Q } [some (.ref pb),some (.int c),some (.int l),some (.int lo),some (.int r),some (.int hi),u6,some (.ref p3),u8] (AK (AK (AK H p (.AH [.int a1,.int b1,.int c1,.int e1])) p2 (.AH [.int a2,.int b2,.int c2,.int e2])) p3 (.AN [.ref p,.ref p2])):=by
  intro u6 u8 a1 b1 c1 e1 a2 b2 c2 e2 x1 x2 p hp p2 hp2 p3 hp3;obtain⟨H1,e1,s1,g1⟩:=Hs hp a1 b1 c1 e1;rw[e1] at hp2 hp3 ⊢;obtain⟨H2,e2,s2,g2⟩:=Hs hp2 a2 b2 c2 e2;rw[e2] at hp3 ⊢;have s3:=Ae hp3 (.AN [.ref p,.ref p2]);exact fin u6 u8 _ p3 p p2 _ _ (s1.trans (s2.trans s3)) AX ((s2.trans s3) _ _ g1) (s3 _ _ g2) x1 x2
 refine⟨_,rfl,_,_,rfl,rfl,(show(0:Int)<2 by decide),rfl,_,rfl,?_⟩;apply NC
 case m =>
  intro rest;refine Ey (λ_=>⟨_,rfl,_,rfl,_,_,rfl,rfl,_,_,rfl,rfl,_,rfl,?_⟩) (λ_=>rest);by_cases h2:(1:Int)<r-l
  ·refine BQ h2 ?_;have h1:(0:Int)<r-l-1:=by omega
   have a0:=Int.emod_nonneg (c / 4) (Int.ne_of_gt h1);have a1:=Int.emod_lt_of_pos (c / 4) h1;refine⟨_,rfl,_,_,rfl,rfl,_,rfl,_,_,rfl,rfl,⟨by decide,by decide⟩,_,rfl,_,rfl,_,_,rfl,rfl,_,_,rfl,rfl,_,_,rfl,rfl,h1,_,_,rfl,rfl,?_⟩
   (try dsimp only)
   generalize hx:l+1+c / 4 % (r-l-1)=x;refine⟨_,rfl,_,rfl,_,rfl,_,rfl,by exact B7,λp hp=>⟨_,rfl,_,rfl,_,rfl,_,rfl,by exact B7,λp2 hp2=>⟨by exact sz2,λp3 hp3=>?_⟩⟩⟩;have x1:l<x:=by omega
   have x2:x<r:=by omega
   exact fin2 _ _ l lo x hi x lo r hi (.x (b:=(l,lo,r,hi)) x x1 x2) (.x' (b:=(l,lo,r,hi)) x x1 x2) p hp p2 hp2 p3 hp3
  ·exact BU h2 rest
 case r =>
  refine⟨_,rfl,_,rfl,_,_,rfl,rfl,_,_,rfl,rfl,_,rfl,?_⟩;by_cases h2:(1:Int)<hi-lo
  ·refine BQ h2 ?_;have h1:(0:Int)<hi-lo-1:=by omega
   have a0:=Int.emod_nonneg (c / 4) (Int.ne_of_gt h1);have a1:=Int.emod_lt_of_pos (c / 4) h1;refine⟨_,rfl,_,_,rfl,rfl,_,rfl,_,_,rfl,rfl,⟨by decide,by decide⟩,_,rfl,_,rfl,_,_,rfl,rfl,_,_,rfl,rfl,_,_,rfl,rfl,h1,_,_,rfl,rfl,?_⟩
   (try dsimp only)
   generalize hy:lo+1+c / 4 % (hi-lo-1)=y;refine⟨_,rfl,_,rfl,_,rfl,_,rfl,by exact B7,λp hp=>⟨_,rfl,_,rfl,_,rfl,_,rfl,by exact B7,λp2 hp2=>⟨by exact sz2,λp3 hp3=>?_⟩⟩⟩;have x1:lo<y:=by omega
   have x2:y<hi:=by omega
   exact fin2 _ _ l lo r y l y r hi (.y (b:=(l,lo,r,hi)) y x1 x2) (.y' (b:=(l,lo,r,hi)) y x1 x2) p hp p2 hp2 p3 hp3
  ·exact BU h2 (qn H (AQ.refl _))
end
end My
namespace My
open PySem L2 Mth Wd Fl
section
variable {B:Int} {c:Rat}
def fC(c:Rat)(B:Int)(e:Int):Int:=wh B ((e:Rat)*c)
def dC(c:Rat)(B:Int)(e:Int):Prop:=(((e:Rat)*c).den:Int) ∣ B
theorem Qw{e:Int}(h:dC c B e):((fC c B e:Int):Rat)=B*((e:Rat)*c):=YB h
theorem T5(bs:List AE):Ep B (Am c bs)=bs.map (Bo (fC c B)):=by
 unfold Ep;rw[List.map_map];rfl
theorem Pe{c x:Int}(h:0<c):0<x*c↔0<x :=
 ⟨λz=>by
  rcases Int.lt_or_le 0 x with y | y
  ·exact y
  ·have:=Int.mul_nonpos_of_nonpos_of_nonneg y (Int.le_of_lt h); omega,λz=>Int.mul_pos z h⟩
theorem Oj:((0:Int):Rat)*c=0:=by simp
theorem a9(hB:0<B)(hc:0<c.num):Sc (fC c B) (dC c B):=by
 have cn:c*(c.den:Rat)=(c.num:Rat):=by
  have h1:=RN c;have h2:((c.den:Int):Rat)=(c.den:Rat):=Rat.intCast_natCast _;have h3:(c.den:Rat)≠0:=by have:=c.den_nz; exact_mod_cast this
  rw[h2] at h1
  grind
 refine⟨λa b ha hb=>?_,?_,?_⟩
 ·have e1:=Qw ha;have e2:=Qw hb;have e:(((fC c B b-fC c B a)*(c.den:Int):Int):Rat)=(((b-a)*(B*c.num):Int):Rat):=by
   rw[Rat.intCast_mul,Rat.intCast_mul,Rat.intCast_mul,Rat.intCast_sub,Rat.intCast_sub,e1,e2,<-cn]
   have:(((c.den:Nat):Int):Rat)=(c.den:Rat):=Rat.intCast_natCast _
   rw[this]
   grind
  have e':(fC c B b-fC c B a)*(c.den:Int)=(b-a)*(B*c.num):=by exact_mod_cast e
  have dp:(0:Int)<(c.den:Int):=by have:=c.den_pos; omega
  have p1:=Pe (x:=fC c B b-fC c B a) dp;have p2:=Pe (x:=b-a) (Int.mul_pos hB hc);rw[e'] at p1;constructor
  ·intro z
   have:=p1.mp (p2.mpr (by omega)); omega
  ·intro z
   have:=p2.mp (p1.mpr (by omega)); omega
 ·unfold dC;rw[Oj];exact Int.one_dvd _
 ·unfold fC wh;rw[Oj];exact Int.zero_mul _
end
theorem Qt{b:AE}:Cw b=false↔FD b:=by
 unfold Cw FD;by_cases h1:b.r<b.l <;> by_cases h2:b.u<b.d <;> by_cases h3:b.l=b.r <;> by_cases h4:b.d=b.u <;> simp[h1,h2,h3,h4] <;> omega
theorem QM{w h:Int}{b:AE}:CY w h b=false↔Dx w h b:=by
 unfold CY Dx;rw[Bool.or_eq_false_iff,Bool.or_eq_false_iff,Bool.or_eq_false_iff,decide_eq_false_iff_not,decide_eq_false_iff_not,decide_eq_false_iff_not,decide_eq_false_iff_not];omega
theorem Qq(m:Int)(vs:List Int):∃xs,Bd m vs xs:=by
 refine⟨((Bm (0 :: m :: vs)).mergeSort λa b=>decide (a<=b)),Ru (ns:=0 :: m :: vs) (λv=>by simp only[List.mem_cons]) (List.mergeSort_perm _ _) ?_⟩
 have:=List.pairwise_mergeSort (le:=λa b:Int=>decide (a<=b)) (λa b c h1 h2=>by simp only[decide_eq_true_iff] at *; omega) (λa b=>by simp only[Bool.or_eq_true,decide_eq_true_iff]; omega) (Bm (0 :: m :: vs))
 exact this.imp λh=>by simpa using h
theorem Fst.bE{bs:List AE}{j k:Nat}(f:Fst bs j k)(n:CZ bs):False:=by
 obtain⟨a,b,e1,e2,o⟩:=f.Jy;obtain⟨hi,rfl⟩:=List.getElem?_eq_some_iff.mp e1;obtain⟨hj,rfl⟩:=List.getElem?_eq_some_iff.mp e2
 have:=List.pairwise_iff_getElem.mp n j k hi hj f.lt
 rw[this] at o; cases o
section
variable {f:Int->Int} {D:Int->Prop} {W U:Int} {bs:List AE} {ws:List V}
theorem WW(s:Sc f D)(dW:D W)(dU:D U)(dB:∀b∈bs,DB D b)(hw:0<W)(hu:0<U)(lk:Cn (f W) (f U) (bs.map (Bo f)) ws):ws.length=1↔Er W U bs/\Hd W U bs:=by
 obtain⟨xs,bx⟩:=Qq W (E5 bs);obtain⟨ys,by'⟩:=Qq U (E1 bs);have dX:∀v∈xs,D v:=λv hv=>by
  have:=(bx.mem v).mp hv
  simp only[E5,List.mem_append,List.mem_map] at this;rcases this with rfl | rfl | ⟨b,hb,rfl⟩ | ⟨b,hb,rfl⟩
  ·exact s.z
  ·exact dW
  ·exact(dB b hb).1
  ·exact(dB b hb).2.2.1
 have dY:∀v∈ys,D v:=λv hv=>by
  have:=(by'.mem v).mp hv
  simp only[E1,List.mem_append,List.mem_map] at this;rcases this with rfl | rfl | ⟨b,hb,rfl⟩ | ⟨b,hb,rfl⟩
  ·exact s.z
  ·exact dU
  ·exact(dB b hb).2.1
  ·exact(dB b hb).2.2.2
 have ex:∀{xs' ys':List Int},Bd (f W) (E5 (bs.map (Bo f))) xs'->Bd (f U) (E1 (bs.map (Bo f))) ys'->DN (bs.map (Bo f)) xs' ys'=(DN bs xs ys).map (Bo f):=λ{xs' ys'} b1 b2=>by
  have c1:=s.bd bx dX;have c2:=s.bd by' dY
  have d1:(E5 bs).map f=E5 (bs.map (Bo f)):=by simp[E5,List.map_map,Function.comp_def]
  have d2:(E1 bs).map f=E1 (bs.map (Bo f)):=by simp[E1,List.map_map,Function.comp_def]
  rw[d1] at c1;rw[d2] at c2;rw[b1.Du c1,b2.Du c2];exact s.Hf dB dX dY
 have mm:∀{p:AE->Prop},(∀b∈bs.map (Bo f),p b)↔∀b∈bs,p (Bo f b):=λ{p}=>List.forall_mem_map
 have novI:CZ (bs.map (Bo f))->CZ bs:=λn=>by
  unfold CZ at n;rw[List.pairwise_map] at n;refine n.imp_of_mem λ{a b} ha hb h=>?_
  rwa [s.ov (dB a ha) (dB b hb)] at h
 constructor
 ·intro h1;cases lk with
  | no k b=>simp at h1
  | out k b=>simp at h1
  | ov j k=>simp at h1
  | Hf b=>simp[GG] at h1
  | E8 xs' ys' a1 a2 a3 b1 b2 e =>
   have cl:Er W U bs:=⟨λb hb=>(s.ok (dB b hb)).mp (Qt.mp (mm.mp a1 b hb)),λb hb=>(s.Be dW dU (dB b hb)).mp (QM.mp (mm.mp a2 b hb)),novI a3⟩;refine⟨cl,(cl.Gr hw hu bx by').mp ?_⟩;rw[ex b1 b2] at e;simpa using e
 ·rintro⟨cl,fu⟩;have g0:=(cl.Gr hw hu bx by').mpr fu;have ni:∀b∈bs.map (Bo f),Cw b=false:=mm.mpr λb hb=>Qt.mpr ((s.ok (dB b hb)).mpr (cl.ok b hb))
  have ou:∀b∈bs.map (Bo f),CY (f W) (f U) b=false:=mm.mpr λb hb=>QM.mpr ((s.Be dW dU (dB b hb)).mpr (cl.Be b hb))
  cases lk with
  | no j b e n=>rw[ni b (List.mem_of_getElem? e)] at n; cases n
  | out j b _ e n=>rw[ou b (List.mem_of_getElem? e)] at n; cases n
  | ov i j _ _ g=>exact(Fst.bE g (CZ.sc s dB cl.nov)).elim
  | Hf b xs' ys' _ _ _ b1 b2 e =>
   rw[ex b1 b2,g0] at e;cases e
  | E8=>rfl
end
abbrev Au(c:Rat)(b:AE):List Rat:=(Dy b).map λ(x:Int)=>(x:Rat)*c
abbrev Ih(b:AE):Prop:=∀x∈Dy b,x.natAbs<=2 ^ 19
section
variable {c:Rat}
theorem Kh(sc:Sb 7 13 c){x:Int}(hx:x.natAbs<=2 ^ 20):((x:Rat)*c).den<=2 ^ 16/\((x:Rat)*c).num.natAbs<=2 ^ 64:=by
 have dn:=c.den_nz;have e0:=Iu (x*c.num) (c.den:Int) (by omega);have l1:=Oz (x*c.num) (c.den:Int) (by omega);have l2:=Oe (x*c.num) (c.den:Int) (by omega);rw[Q6] at e0;rw[e0] at l1 l2;dsimp only at l1 l2;rw[Int.natAbs_natCast,Int.natAbs_natCast] at l2;have s1:=sc.1;have s2:=sc.2;refine⟨Nat.le_trans l2 (Nat.le_trans s2 (by decide)),Nat.le_trans l1 ?_⟩;rw[Int.natAbs_mul];exact Nat.le_trans (Nat.mul_le_mul hx s1) (by decide)
theorem aP(sc:Sb 7 13 c){x:Int}(hx:x.natAbs<=2 ^ 20):Sf ((x:Rat)*c):=by
 obtain⟨h1,h2⟩:=Kh sc hx;exact⟨Nat.le_trans h2 (Nat.pow_le_pow_right (by decide) (by decide)),Nat.le_trans h1 (Nat.pow_le_pow_right (by decide) (by decide))⟩
theorem SF(sc:Sb 7 13 c){W U:Int}{bs:List AE}(n:bs.length<=30)(hw:W.natAbs<=2 ^ 20)(hu:U.natAbs<=2 ^ 20)(hb:∀b∈bs,CP b):FZ ((W:Rat)*c) ((U:Rat)*c) (Am c bs):=by
 refine⟨by rw[List.length_map]; exact n,λr hr=>?_,λq hq=>?_⟩
 ·obtain⟨b,_,rfl⟩:=List.mem_map.mp hr; rfl
 ·simp only[BK,List.mem_cons,List.mem_flatten,List.mem_map] at hq;rcases hq with rfl | rfl | ⟨_,⟨b,hbm,rfl⟩,hq⟩
  ·exact Kh sc hw
  ·exact Kh sc hu
  ·simp only[List.mem_map] at hq;obtain⟨x,hx,rfl⟩:=hq;exact Kh sc (hb b hbm x hx)
theorem bR{W U:Int}{bs:List AE}(sc:Sb 7 13 c)(n:bs.length<=30)(hw:W.natAbs<=2 ^ 20)(hu:U.natAbs<=2 ^ 20)(hb:∀b∈bs,CP b):
  0<Mth.cb (BK ((W:Rat)*c) ((U:Rat)*c) (Am c bs))/\dC c (Mth.cb (BK ((W:Rat)*c) ((U:Rat)*c) (Am c bs))) W/\dC c (Mth.cb (BK ((W:Rat)*c) ((U:Rat)*c) (Am c bs))) U/\∀b∈bs,DB (dC c (Mth.cb (BK ((W:Rat)*c) ((U:Rat)*c) (Am c bs)))) b:=by
 obtain⟨h1,h2,_⟩:=(SF sc n hw hu hb).cb;have mem:∀b∈bs,∀x∈Dy b,(x:Rat)*c∈BK ((W:Rat)*c) ((U:Rat)*c) (Am c bs):=λb hbm x hx=>by
  simp only[BK,List.mem_cons,List.mem_flatten];exact .inr (.inr ⟨Au c b,List.mem_map_of_mem hbm,List.mem_map_of_mem hx⟩)
 exact⟨h1,h2 _ (by simp[BK]),h2 _ (by simp[BK]),λb hbm=>⟨h2 _ (mem b hbm _ (by simp)),h2 _ (mem b hbm _ (by simp)),h2 _ (mem b hbm _ (by simp)),h2 _ (mem b hbm _ (by simp))⟩⟩
theorem X6 {W U:Int} {bs:List AE} (sc:Sb 7 13 c) (hc:0<c.num) (n:bs.length<=30) (w0:0<W) (u0:0<U) (hw:W.natAbs<=2 ^ 20) (hu:U.natAbs<=2 ^ 20) (hb:∀b∈bs,CP b) {ws:List V}
  (lk:Cn (wh (Mth.cb (BK ((W:Rat)*c) ((U:Rat)*c) (Am c bs))) ((W:Rat)*c)) (wh (Mth.cb (BK ((W:Rat)*c) ((U:Rat)*c) (Am c bs))) ((U:Rat)*c)) (Ep (Mth.cb (BK ((W:Rat)*c) ((U:Rat)*c) (Am c bs))) (Am c bs)) ws):ws.length=1↔Er W U bs/\Hd W U bs:=by
 obtain⟨h1,h2,h3,h4⟩:=bR sc n hw hu hb;rw[T5] at lk;exact WW (a9 h1 hc) h2 h3 h4 w0 u0 lk
end
end My
namespace My
open PySem PySem.Spec PyProof.Rows L2 Mth Wd Fl
section
variable {α:Type}
def As(l:List α)(j k:Nat)(a b:α):List α:=(l.set j a).take k++b :: (l.set j a).drop k
theorem KW{l:List α}{k:Nat}(h:k<=l.length):(l.take k).length=k:=by rw[List.length_take]; omega
theorem Xe{l:List α}{j k:Nat}{a b x:α}(jk:j<k)(hk:k<=l.length):(As l j k a b).set j x=As l j k x b:=by
 unfold As;rw[List.set_append_left _ _ (by rw[KW (by rw[List.length_set]; exact hk)]; exact jk),<-List.take_set,List.set_set,List.drop_set_of_lt jk,List.drop_set_of_lt jk]
theorem WD{l:List α}{j k:Nat}{a b:α}(hk:k<=l.length):(As l j k a b).eraseIdx k=l.set j a:=by
 unfold As;have e:=KW (l:=l.set j a) (k:=k) (by rw[List.length_set]; exact hk);rw[List.eraseIdx_append_of_length_le (by omega),e,Nat.sub_self,List.eraseIdx_cons_zero,List.take_append_drop]
theorem Jq{l:List α}{j k:Nat}{a b:α}(jk:j<k)(hk:k<=l.length):(As l j k a b)[j]?=some a:=by
 unfold As;rw[List.getElem?_append_left (by rw[KW (by rw[List.length_set]; exact hk)]; exact jk),List.getElem?_take_of_lt jk,List.getElem?_set_self (by omega)]
theorem Jp{l:List α}{j k:Nat}{a b:α}(hk:k<=l.length):(As l j k a b)[k]?=some b:=by
 unfold As;have e:=KW (l:=l.set j a) (k:=k) (by rw[List.length_set]; exact hk);rw[List.getElem?_append_right (by omega),e,Nat.sub_self]; rfl
theorem Rc{f:α->α->α}{d:α}{l:List α}{j k:Nat}{a b:α}(jk:j<k)(hk:k<=l.length):DS f d (As l j k a b) j k=l.set j (f a b):=by
 unfold DS;rw[List.getD_eq_getElem?_getD,List.getD_eq_getElem?_getD,Jq jk hk,Jp hk,Option.getD_some,Option.getD_some,Xe jk hk,WD hk]
theorem OM[DecidableEq α]{l:List α}{j:Nat}{x y:α}(h:l[j]?=some y):l.set j x=l↔x=y:=by
 obtain⟨hj,e⟩:=List.getElem?_eq_some_iff.mp h;constructor
 ·intro z
  have:=congrArg (λm=>m[j]?) z
  simp only[List.getElem?_set_self hj,h] at this;exact Option.some.inj this
 ·rintro rfl;rw[<-e]; exact List.set_getElem_self hj
theorem LB{l:List α}{j k:Nat}{a b x:α}(h:x∈As l j k a b):x=a\/x=b\/x∈l:=by
 unfold As at h;rw[List.mem_append,List.mem_cons] at h;rcases h with h | rfl | h
 ·rcases List.mem_or_eq_of_mem_set (List.mem_of_mem_take h) with h | h
  ·exact .inr (.inr h)
  ·exact .inl h
 ·exact .inr (.inl rfl)
 ·rcases List.mem_or_eq_of_mem_set (List.mem_of_mem_drop h) with h | h
  ·exact .inr (.inr h)
  ·exact .inl h
end
theorem Ks{α:Type}{l:List α}{j k:Nat}{a b:α}(hk:k<=l.length):(As l j k a b).length=l.length+1:=by
 unfold As;rw[List.length_append,List.length_cons,List.length_take,List.length_drop,List.length_set]; omega
theorem Fn{c:Rat}{bs:List AE}{j k:Nat}{q1 q2:AE}:CO (Am c bs) j k (Au c q1) (Au c q2)=Am c (As bs j k q1 q2):=by
 unfold CO As Am;rw[List.map_append,List.map_cons,List.map_take,List.map_drop,List.map_set]
theorem SG{c:Rat}(hc:0<c)(x y:Int):Fb ((x:Rat)*c) ((y:Rat)*c)=((min x y:Int):Rat)*c:=by
 unfold Fb;simp only[Ku hc];split <;> congr 2 <;> omega
theorem Sd{c:Rat}(hc:0<c)(x y:Int):Fg ((x:Rat)*c) ((y:Rat)*c)=((max x y:Int):Rat)*c:=by
 unfold Fg;simp only[Ku hc];split <;> congr 2 <;> omega
theorem Rp{c:Rat}(hc:0<c)(a b:AE):Gp (Au c a) (Au c b)=Au c (min a.l b.l,min a.d b.d,max a.r b.r,max a.u b.u):=by
 unfold Gp;show [Fb ((a.l:Rat)*c) ((b.l:Rat)*c),Fb ((a.d:Rat)*c) ((b.d:Rat)*c),Fg ((a.r:Rat)*c) ((b.r:Rat)*c),Fg ((a.u:Rat)*c) ((b.u:Rat)*c)]=_;rw[SG hc,SG hc,Sd hc,Sd hc]; rfl
theorem Kz{c:Rat}(sc:Sb 7 13 c){bs:List AE}(n:bs.length<=30)(hb:∀b∈bs,CP b):D8 (Am c bs):=by
 refine⟨by rw[List.length_map]; exact n,λr hr=>?_,λr hr y hy=>?_⟩
 ·obtain⟨b,_,rfl⟩:=List.mem_map.mp hr; rfl
 ·obtain⟨b,hm,rfl⟩:=List.mem_map.mp hr;obtain⟨z,hz,rfl⟩:=List.mem_map.mp hy;exact aP sc (hb b hm z hz)
theorem ID{bs:List AE}{j:Nat}{b:AE}(h:bs[j]?=some b):AO bs j=b:=by
 unfold AO;rw[List.getD_eq_getElem?_getD,h]; rfl
theorem Zc{w h:Int}{bs:List AE}{c:Rat}(w0:0<w)(u0:0<h)(hw:w.natAbs<=2 ^ 20)(hu:h.natAbs<=2 ^ 20)(n:bs.length<=20)(sc:Sb 7 13 c)(hcn:0<c.num){J k:Nat}{q1 q2:AE}(bw:∀b∈bs,CP b)(w1:CP q1)(w2:CP q2)(cf:Er w h (As bs J k q1 q2)/\Hd w h (As bs J k q1 q2)):
  J9 ((w:Rat)*c) ((h:Rat)*c) (Am c bs) (J:Int) (k:Int) (Au c q1) (Au c q2) true:=by
 have lr:(Am c bs).length=bs.length:=List.length_map ..;have mb:∀x∈As bs J k q1 q2,CP x:=λx hx=>by
  rcases LB hx with rfl | rfl | hx
  ·exact w1
  ·exact w2
  ·exact bw x hx
 refine⟨Kz sc (by omega) bw,?_,λz=>?_,λz=>?_,λz ws lk=>?_⟩
 ·exact Kz (bs:=[q1,q2]) sc (by show 2<=30; decide) (λx hx=>by
   simp only[List.mem_cons,List.not_mem_nil,or_false] at hx;rcases hx with rfl | rfl
   ·exact w1
   ·exact w2)
 all_goals
  obtain⟨z1,z2,z3⟩:=FE.mp z;rw[lr] at z3;have ll:=Ks (l:=bs) (j:=J) (k:=k) (a:=q1) (b:=q2) (by omega)
 ·rw[Int.toNat_natCast,Int.toNat_natCast,Fn];exact Kz sc (by omega) mb
 ·rw[Int.toNat_natCast,Int.toNat_natCast,Fn];exact SF sc (by omega) hw hu mb
 ·rw[Int.toNat_natCast,Int.toNat_natCast,Fn] at lk;exact decide_eq_true ((X6 sc hcn (by omega) w0 u0 hw hu mb lk).mpr cf)
theorem XJ{bs:List AE}{c:Rat}(hc:0<c){J k:Nat}{b q1 q2:AE}(eb:bs[J]?=some b)(Jk:J<k)(kn:k<=bs.length)(t1:q1.d<q1.u)(t2:q2.d<q2.u)(un:Bu q1 q2=b):
  DV (Am c bs) (J:Int) (k:Int) (Au c q1) (Au c q2) true=(if Bj [q1,q2] 0 1=true then Bj (As bs J k q1 q2) J k else Cb (As bs J k q1 q2) J k):=by
 have lr:(Am c bs).length=bs.length:=List.length_map ..;have ll:=Ks (l:=bs) (j:=J) (k:=k) (a:=q1) (b:=q2) kn;have a1:AO (As bs J k q1 q2) J=q1:=ID (Jq Jk kn);have a2:AO (As bs J k q1 q2) k=q2:=ID (Jp kn);unfold DV;rw[FE.mpr ⟨by omega,by omega,by rw[lr]; omega⟩,Bool.true_and,Int.toNat_natCast,Int.toNat_natCast];have e1:GI (CO (Am c bs) J k (Au c q1) (Au c q2)) J k=(Am c bs).set J (Gp (Au c q1) (Au c q2)):=Rc Jk (by rw[lr]; exact kn);have e2:(Am c bs)[J]?=some (Au c b):=by rw[List.getElem?_map,eb]; rfl
 have e3:decide (GI (CO (Am c bs) J k (Au c q1) (Au c q2)) J k=Am c bs)=true:=decide_eq_true (by rw[e1,OM e2,Rp hc]; exact congrArg (Au c) un);rw[e3,Fn,Bool.and_true];unfold Jj;rw[show BE [Au c q1,Au c q2] 0 1=Bj [q1,q2] 0 1 from LF (bs:=[q1,q2]) hc (by show 0<2; decide) (by show 1<2; decide)];rw[LF hc (by omega) (by omega),RQ hc (by omega) (by omega) (by rw[a1]; exact t1) (by rw[a2]; exact t2)];exact Bool.true_and _
theorem Yl{bs:List AE}{c:Rat}(hc:0<c){J k:Nat}{b q1 q2:AE}(eb:bs[J]?=some b)(Jk:J<k)(kn:k<=bs.length)(un:Bu q1 q2=b):GI (Am c (As bs J k q1 q2)) J k=Am c bs:=by
 have lr:(Am c bs).length=bs.length:=List.length_map ..;have e2:(Am c bs)[J]?=some (Au c b):=by rw[List.getElem?_map,eb]; rfl
 rw[<-Fn];have e1:GI (CO (Am c bs) J k (Au c q1) (Au c q2)) J k=(Am c bs).set J (Gp (Au c q1) (Au c q2)):=Rc Jk (by rw[lr]; exact kn);rw[e1,OM e2,Rp hc]; exact congrArg (Au c) un
theorem So{m:List AE}{J k:Nat}{q1 q2:AE}(a1:AO m J=q1)(a2:AO m k=q2):Bj [q1,q2] 0 1=Bj m J k:=by
 unfold Bj;rw[a1,a2]; rfl
theorem Qr{w h:Int}{bs:List AE}{c:Rat}(w0:0<w)(u0:0<h)(hw:w.natAbs<=2 ^ 20)(hu:h.natAbs<=2 ^ 20)(n:bs.length<=20)(sc:Sb 7 13 c)(hc:0<c)(hcn:0<c.num){J k:Nat}{b q1 q2:AE}(bw:∀b∈bs,CP b)(w1:CP q1)(w2:CP q2)(t:GL w h (As bs J k q1 q2))(eb:bs[J]?=some b)(Jk:J<k)(kn:k<=bs.length)(un:Bu q1 q2=b):
  (∀z:Bool,(if Bj (As bs J k q1 q2) J k=true then true else Cb (As bs J k q1 q2) J k)=true->z=Bj (As bs J k q1 q2) J k →
   Lj ((w:Rat)*c) ((h:Rat)*c) (Am c bs) (Am c (As bs J k q1 q2)) (.sp (J:Int) (k:Int) (Au c q1) (Au c q2) true) (if z=true then .bs (J:Int) (k:Int) else .ab (J:Int) (k:Int))/\Lj ((w:Rat)*c) ((h:Rat)*c) (Am c (As bs J k q1 q2)) (Am c bs) (if z=true then .bs (J:Int) (k:Int) else .ab (J:Int) (k:Int)) (.sp (J:Int) (k:Int) (Au c q1) (Au c q2) true)) /\
  (Bj (As bs J k q1 q2) J k=false->Cb (As bs J k q1 q2) J k=false->G0 ((w:Rat)*c) ((h:Rat)*c) (Am c bs) (.sp (J:Int) (k:Int) (Au c q1) (Au c q2) true)/\CB (Am c bs) (.sp (J:Int) (k:Int) (Au c q1) (Au c q2) true)=false):=by
 have lr:(Am c bs).length=bs.length:=List.length_map ..;have ll:=Ks (l:=bs) (j:=J) (k:=k) (a:=q1) (b:=q2) kn;have g1:=Jq (l:=bs) (a:=q1) (b:=q2) Jk kn;have g2:=Jp (l:=bs) (j:=J) (a:=q1) (b:=q2) kn;have a1:AO (As bs J k q1 q2) J=q1:=ID g1;have a2:AO (As bs J k q1 q2) k=q2:=ID g2;have t1:=(t.tru q1 (List.mem_of_getElem? g1)).2;have t2:=(t.tru q2 (List.mem_of_getElem? g2)).2;have cf:Er w h (As bs J k q1 q2)/\Hd w h (As bs J k q1 q2):=by
  refine⟨t.Fw.ZY,λx y x0 x1 y0 y1=>?_⟩
  have:=t.Fw.one x y x0 x1 y0 y1
  exact List.countP_pos_iff.mp (by omega)
 have sk:=Zc w0 u0 hw hu n sc hcn bw w1 w2 cf;have sf:=XJ hc eb Jk kn t1 t2 un;have dn:=Yl hc eb Jk kn un;have mb:∀x∈As bs J k q1 q2,CP x:=λx hx=>by
  rcases LB hx with rfl | rfl | hx
  ·exact w1
  ·exact w2
  ·exact bw x hx
 have rk2:D8 (Am c (As bs J k q1 q2)):=Kz sc (by omega) mb;have lr2:(Am c (As bs J k q1 q2)).length=bs.length+1:=(List.length_map ..).trans ll;have row:∀{i:Nat} {q:AE},(As bs J k q1 q2)[i]?=some q->(Am c (As bs J k q1 q2)).getD i []=Au c q:=λe=>by
  rw[List.getD_eq_getElem?_getD,List.getElem?_map,e]; rfl
 have fz:∀tt:List (List Rat)->Nat->Nat->Bool,Ce tt (Am c (As bs J k q1 q2)) (J:Int) (k:Int)=tt (Am c (As bs J k q1 q2)) J k:=λtt=>by
  unfold Ce;rw[FE.mpr ⟨by omega,by omega,by rw[lr2]; omega⟩,Bool.true_and]; rfl
 have bse:BE [Au c q1,Au c q2] 0 1=Bj (As bs J k q1 q2) J k:=(LF (bs:=[q1,q2]) hc (by show 0<2; decide) (by show 1<2; decide)).trans (So a1 a2);rw[So a1 a2] at sf;constructor
 ·rintro z ft rfl;cases zb:Bj (As bs J k q1 q2) J k with
  | true =>
   rw[zb] at bse;have f1:CB (Am c bs) (.sp (J:Int) (k:Int) (Au c q1) (Au c q2) true)=true:=by
    show DV _ _ _ _ _ _=true;rw[sf,if_pos zb,zb]
   have f2:CB (Am c (As bs J k q1 q2)) (.bs (J:Int) (k:Int))=true:=by
    show Ce BE _ _ _=true;rw[fz,LF hc (by omega) (by omega),zb]
   have B1:HB (Am c bs) (.sp (J:Int) (k:Int) (Au c q1) (Au c q2) true) (.bs (J:Int) (k:Int)):=⟨rfl,rfl,bse⟩;have B2:HB (Am c (As bs J k q1 q2)) (.bs (J:Int) (k:Int)) (.sp (J:Int) (k:Int) (Au c q1) (Au c q2) true):=⟨rfl,rfl,(row g1).symm,(row g2).symm⟩;exact⟨⟨sk,f1,Fn,B1,rk2,f2,dn,B2⟩,⟨rk2,f2,dn,B2,sk,f1,Fn,B1⟩⟩
  | false =>
   rw[zb] at bse;rw[zb,if_neg (by decide)] at ft;have f1:CB (Am c bs) (.sp (J:Int) (k:Int) (Au c q1) (Au c q2) true)=true:=by
    show DV _ _ _ _ _ _=true;rw[sf,if_neg (by rw[zb]; decide),ft]
   have f2:CB (Am c (As bs J k q1 q2)) (.ab (J:Int) (k:Int))=true:=by
    show Ce Bg _ _ _=true;rw[fz,RQ hc (by omega) (by omega) (by rw[a1]; exact t1) (by rw[a2]; exact t2),ft]
   have B1:HB (Am c bs) (.sp (J:Int) (k:Int) (Au c q1) (Au c q2) true) (.ab (J:Int) (k:Int)):=⟨rfl,rfl,bse⟩;have B2:HB (Am c (As bs J k q1 q2)) (.ab (J:Int) (k:Int)) (.sp (J:Int) (k:Int) (Au c q1) (Au c q2) true):=⟨rfl,rfl,(row g1).symm,(row g2).symm⟩;exact⟨⟨sk,f1,Fn,B1,rk2,f2,dn,B2⟩,⟨rk2,f2,dn,B2,sk,f1,Fn,B1⟩⟩
 ·intro z1 z2;refine⟨sk,?_⟩;show DV _ _ _ _ _ _=false;rw[sf,if_neg (by rw[z1]; decide),z2]
abbrev z4:AE:=(0,0,0,0)
section
variable {P:Program} {w:World} {K:PySem.W.Frag} {mg:Str->Option Value} {base:Heap} {f g h f1 f2 f3 f4 C1 C2:Addr} {fd gd hd d1 d2 d3 d4:FuncData}
def Nv:Sp:=λvs H Q _=>∃(p:Addr) (bs:List AE) (j k:Nat),vs=[.ref p,.int (j:Int),.int (k:Int)]/\Bi A4 H p bs/\bs.length<=30/\j<k/\k<bs.length/\∀q H',H q=none->AQ H H'->Bi A4 H' q (DS Bu z4 bs j k)->Q (.ref q) H'
theorem Li:Ak ["_law_boxes","_law_j","_law_k","_law_one","_law_two_here","_law_both"] ["_law_boxes","_law_j","_law_k"] (Af s_law_done):=Ap
theorem Xp(xs:List V){j k:Nat}(h1:j<=k)(h2:k<=xs.length):Bv xs (some (j:Int)) (some (k:Int))=(xs.drop j).take (k-j):=by
 unfold Bv;have e1:HT.Ao xs.length 0 (some (j:Int))=j:=by simp only[HT.Ao]; split <;> omega
 have e2:HT.Ao xs.length xs.length (some (k:Int))=k:=by simp only[HT.Ao]; split <;> omega
 rw[e1,e2]
theorem Yf{bs:List AE}{j k:Nat}(jk:j<k)(kn:k<bs.length):DS Bu z4 bs j k=bs.take j++[Bu (AO bs j) (AO bs k)]++(bs.drop (j+1)).take (k-(j+1))++bs.drop (k+1):=by
 unfold DS;rw[List.eraseIdx_eq_take_drop_succ,List.set_eq_take_append_cons_drop,if_pos (by omega)];rw[List.take_append,List.drop_append];simp only[List.length_take,Nat.min_eq_left (show j<=bs.length by omega)];rw[List.take_of_length_le (l:=bs.take j) (i:=k) (by rw[List.length_take]; omega),List.drop_of_length_le (l:=bs.take j) (i:=k+1) (by rw[List.length_take]; omega),List.nil_append];rw[show k-j=(k-(j+1))+1 by omega,List.take_succ_cons,show k+1-j=(k+1-(j+1))+1 by omega,List.drop_succ_cons,List.drop_drop,show j+1+(k+1-(j+1))=k+1 by omega];simp
theorem U3{H H':Hp}(s:AQ H H'){a:Addr}(h:H' a=none):H a=none:=by
 cases z:H a with
 | none=>rfl
 | some o=>rw[s _ _ z] at h; cases h
theorem SA(x y:Int):(if y<x then y else x)=min x y:=by split <;> omega
theorem RY(x y:Int):(if y > x then y else x)=max x y:=by split <;> omega
theorem WJ(F:Ag K "_law_done" "_law_done" s_law_done f fd)(mn:mg "min" = none)(mx:mg "max" = none):AG P w K mg base AM 1 f fd ["_law_boxes","_law_j","_law_k"] Nv:=by
 refine F.ok Li (λvs H Q E h=>?_) (λcdv A outer s H vs Q E hr h=>?_)
 ·obtain⟨p,bs,j,k,rfl,_⟩:=h;rfl
 obtain⟨p,bs,j,k,rfl,⟨cs,hp,hC⟩,n30,jk,kn,q⟩:=h;have lc:cs.length=bs.length:=hC.1;obtain⟨a,ea,ha⟩:=hC.get (Cy (show j<bs.length by omega));obtain⟨b,eb,hb⟩:=hC.get (Cy kn);have ha':H a=some (.AH [.int (AO bs j).l,.int (AO bs j).d,.int (AO bs j).r,.int (AO bs j).u]):=ha;have hb':H b=some (.AH [.int (AO bs k).l,.int (AO bs k).d,.int (AO bs k).r,.int (AO bs k).u]):=hb;rw[Yf jk kn] at q;unfold Bu at q;generalize AO bs j=X at ha' q;generalize AO bs k=Y at hb' q;refine⟨_,AR (Ab (i:=3) Li.nd rfl (Or.inl rfl) (pL K (pv 0) (pv 1)))
  (AR (Ab (i:=4) Li.nd rfl (Or.inl rfl) (pL K (pv 0) (pv 2)))
  (AR (Ab (i:=5) Li.nd rfl (Or.inl rfl) (A0 (AA (BJ (Io rfl) (by rfl) mn JM (AA (pT K (pv 3) AF) (AA (pT K (pv 4) AF) AI))) (AA (BJ (Io rfl) (by rfl) mn JM (AA (pT K (pv 3) AF) (AA (pT K (pv 4) AF) AI))) (AA (BJ (Ip rfl) (by rfl) mx JT (AA (pT K (pv 3) AF) (AA (pT K (pv 4) AF) AI))) (AA (BJ (Ip rfl) (by rfl) mx JT (AA (pT K (pv 3) AF) (AA (pT K (pv 4) AF) AI))) AI))))))
  (AU (AY (AW DT (AW DT (AW DT (EK (FY (K:=K)) (pv 0) Ej (D4 (pv 1))) (CU (AA (pv 5) AI))) (EK (FY (K:=K)) (pv 0) (D4 (AW BW (pv 1) AF)) (D4 (pv 2)))) (EK (FY (K:=K)) (pv 0) (D4 (AW BW (pv 2) AF)) Ej)))))),?_⟩
 refine⟨_,rfl,_,rfl,p,_,_,_,rfl,rfl,AS.of hp,Al (BA ea),?_⟩;refine⟨_,rfl,_,rfl,p,_,_,_,rfl,rfl,AS.of hp,Al (BA eb),?_⟩;refine⟨_,rfl,a,_,_,_,rfl,rfl,AJ.of ha',Gz _ _ _ _,_,rfl,b,_,_,_,rfl,rfl,AJ.of hb',Gz _ _ _ _,_,_,rfl,_,rfl,a,_,_,_,rfl,rfl,AJ.of ha',GD _ _ _ _,_,rfl,b,_,_,_,rfl,rfl,AJ.of hb',GD _ _ _ _,_,_,rfl,_,rfl,a,_,_,_,rfl,rfl,AJ.of ha',Gx _ _ _ _,_,rfl,b,_,_,_,rfl,rfl,AJ.of hb',Gx _ _ _ _,_,_,rfl,_,rfl,a,_,_,_,rfl,rfl,AJ.of ha',He _ _ _ _,_,rfl,b,_,_,_,rfl,rfl,AJ.of hb',He _ _ _ _,_,_,rfl,by exact B7,λt ht=>?_⟩;rw[SA,SA,RY,RY];obtain⟨H1,e1,s1,g1⟩:=Hs ht (min X.l Y.l) (min X.d Y.d) (max X.r Y.r) (max X.u Y.u);rw[e1];refine⟨_,rfl,_,rfl,_,rfl,p,_,rfl,AS.of (s1 _ _ hp),λq1 hq1=>?_⟩;rw[show Bv (cs.map V.ref) none (some ((j:Nat):Int))=(cs.take j).map V.ref from (Iz _ (by rw[List.length_map]; omega)).trans (List.map_take ..).symm];obtain⟨H2,e2,s2,g2⟩:=Fz hq1 ((cs.take j).map V.ref);rw[e2];refine⟨_,rfl,by exact sz1,λq2 hq2=>?_⟩;obtain⟨H3,e3,s3,g3⟩:=Fz hq2 [.ref t];rw[e3];refine⟨q1,q2,_,_,rfl,rfl,s3 _ _ g2,g3,by simp; exact DO (by omega),λq3 hq3=>?_⟩;obtain⟨H4,e4,s4,g4⟩:=Fz hq3 ((cs.take j).map V.ref++[.ref t]);rw[e4];have s14:=s1.trans (s2.trans (s3.trans s4));refine⟨_,rfl,_,rfl,_,_,rfl,rfl,_,rfl,_,rfl,_,rfl,p,_,rfl,AS.of (s14 _ _ hp),λq4 hq4=>?_⟩;rw[show Bv (cs.map V.ref) (some (((j:Nat):Int)+1)) (some ((k:Nat):Int))=((cs.drop (j+1)).take (k-(j+1))).map V.ref from (Xp (j:=j+1) _ (by omega) (by rw[List.length_map]; omega)).trans (by rw[List.map_take,List.map_drop])];obtain⟨H5,e5,s5,g5⟩:=Fz hq4 (((cs.drop (j+1)).take (k-(j+1))).map V.ref);rw[e5];refine⟨q3,q4,_,_,rfl,rfl,s5 _ _ g4,g5,by simp; exact DO (by omega),λq5 hq5=>?_⟩;obtain⟨H6,e6,s6,g6⟩:=Fz hq5 ((cs.take j).map V.ref++[.ref t]++((cs.drop (j+1)).take (k-(j+1))).map V.ref);rw[e6];have s16:=s14.trans (s5.trans s6);refine⟨_,rfl,_,rfl,_,_,rfl,rfl,_,rfl,p,_,rfl,AS.of (s16 _ _ hp),λq6 hq6=>?_⟩;rw[show Bv (cs.map V.ref) (some (((k:Nat):Int)+1)) none=(cs.drop (k+1)).map V.ref from (Ir (j:=k+1) _ (by rw[List.length_map]; omega)).trans (List.map_drop ..).symm];obtain⟨H7,e7,s7,g7⟩:=Fz hq6 ((cs.drop (k+1)).map V.ref);rw[e7];refine⟨q5,q6,_,_,rfl,rfl,s7 _ _ g6,g7,by simp; exact DO (by omega),λq7 hq7=>?_⟩;have s8:=Ae hq7 (.AN ((cs.take j).map V.ref++[.ref t]++((cs.drop (j+1)).take (k-(j+1))).map V.ref++(cs.drop (k+1)).map V.ref));have s18:=s16.trans (s7.trans s8);refine q q7 _ (U3 (s16.trans s7) hq7) s18 ⟨cs.take j++[t]++(cs.drop (j+1)).take (k-(j+1))++cs.drop (k+1),by rw[AX]; simp,?_⟩;have hC8:=hC.keep Dk s18;exact(((hC8.take j).snoc ((s2.trans (s3.trans (s4.trans (s5.trans (s6.trans (s7.trans s8)))))) _ _ g1)).E7 ((hC8.drop (j+1)).take _)).E7 (hC8.drop (k+1))
theorem DW.RX{b q1 q2:AE}(c:DW b q1 q2)(tb:b.l<b.r/\b.d<b.u):∃p1 p2,ES b [p1,p2]/\[q1,q2].Perm [p1,p2]/\Bu q1 q2=b:=by
 obtain⟨b0,b1,b2,b3⟩:=b;dsimp only[AE.l,AE.d,AE.r,AE.u] at tb;cases c with
 | x v h1 h2 =>
  dsimp only[AE.l,AE.d,AE.r,AE.u] at h1 h2;refine⟨_,_,LQ h1 h2 tb.2,List.Perm.refl _,?_⟩;simp only[Bu,AE.l,AE.d,AE.r,AE.u,Prod.mk.injEq]; omega
 | x' v h1 h2 =>
  dsimp only[AE.l,AE.d,AE.r,AE.u] at h1 h2;refine⟨_,_,LQ h1 h2 tb.2,List.Perm.swap _ _ _,?_⟩;simp only[Bu,AE.l,AE.d,AE.r,AE.u,Prod.mk.injEq]; omega
 | y v h1 h2 =>
  dsimp only[AE.l,AE.d,AE.r,AE.u] at h1 h2;refine⟨_,_,LW h1 h2 tb.1,List.Perm.refl _,?_⟩;simp only[Bu,AE.l,AE.d,AE.r,AE.u,Prod.mk.injEq]; omega
 | y' v h1 h2 =>
  dsimp only[AE.l,AE.d,AE.r,AE.u] at h1 h2;refine⟨_,_,LW h1 h2 tb.1,List.Perm.swap _ _ _,?_⟩;simp only[Bu,AE.l,AE.d,AE.r,AE.u,Prod.mk.injEq]; omega
theorem DW.Fe{w h:Int}{bs:List AE}(t:GL w h bs){J k:Nat}{b q1 q2:AE}(eb:bs[J]?=some b)(Jk:J<k)(kn:k<=bs.length)(c:DW b q1 q2):GL w h (As bs J k q1 q2)/\Bu q1 q2=b:=by
 obtain⟨hj,ej⟩:=List.getElem?_eq_some_iff.mp eb;obtain⟨p1,p2,pp,pq,un⟩:=c.RX (t.tru b (List.mem_of_getElem? eb));have e1:bs=bs.take J++b :: bs.drop (J+1):=by rw[<-ej,<-List.drop_eq_getElem_cons hj]; exact(List.take_append_drop J bs).symm
 have tt:=t.Fw;rw[e1] at tt;have pm:(As bs J k q1 q2).Perm (bs.take J++[p1,p2]++bs.drop (J+1)):=by
  have pm:(As bs J k q1 q2).Perm (bs.take J++[q1,q2]++bs.drop (J+1)):=by
   unfold As;refine List.perm_middle.trans ?_;rw[List.take_append_drop,List.set_eq_take_append_cons_drop,if_pos hj,List.append_assoc];refine List.perm_middle.symm.trans ?_;refine List.Perm.append_left _ ?_;exact List.Perm.swap _ _ _
  exact pm.trans (List.Perm.append_right _ (List.Perm.append_left _ pq))
 refine⟨⟨(tt.Lq pp).Gm pm,λx hx=>?_⟩,un⟩;rcases LB hx with rfl | rfl | hx
 ·exact pp.ok _ (pq.mem_iff.mp (by simp))
 ·exact pp.ok _ (pq.mem_iff.mp (by simp))
 ·exact t.tru x hx
theorem DW.bw{b q1 q2:AE}(c:DW b q1 q2)(bv:Ih b):CP q1/\CP q2:=by
 have p20:(2:Nat) ^ 20=1048576:=by decide
 have p19:(2:Nat) ^ 19=524288:=by decide
 have h0:=bv b.l (by simp);have h1:=bv b.d (by simp);have h2:=bv b.r (by simp);have h3:=bv b.u (by simp);cases c <;>
  ·constructor <;>
   ·intro x hx;simp only[Dy,List.mem_cons,List.not_mem_nil,or_false] at hx;rcases hx with rfl | rfl | rfl | rfl <;> omega
theorem YK{bs:List AE}{j k:Nat}(jk:j<k)(kn:k<bs.length):As (DS Bu z4 bs j k) j k (AO bs j) (AO bs k)=bs/\(DS Bu z4 bs j k)[j]?=some (Bu (AO bs j) (AO bs k))/\k<=(DS Bu z4 bs j k).length:=by
 have ln:=Mw (f:=Bu) (d:=z4) jk kn;refine⟨?_,?_,by omega⟩
 ·apply List.ext_getElem?;intro i;have hj:=Cy (show j<bs.length by omega);have hk:=Cy kn;unfold As DS;rw[<-show AO bs j=bs.getD j z4 from rfl,<-show AO bs k=bs.getD k z4 from rfl];generalize Bu (AO bs j) (AO bs k)=X;have se:((bs.set j X).eraseIdx k).set j (AO bs j)=bs.eraseIdx k:=by
   apply List.ext_getElem?;intro m;rw[List.getElem?_set,List.getElem?_eraseIdx,List.getElem?_eraseIdx,List.length_eraseIdx_of_lt (by rw[List.length_set]; exact kn),List.length_set];by_cases hm:j=m
   ·subst hm;rw[if_pos rfl,if_pos (by omega),if_pos jk,hj]
   ·rw[if_neg hm];split
    ·rw[List.getElem?_set_ne hm]
    ·rw[List.getElem?_set_ne (by omega)]
  rw[se];have tk:((bs.eraseIdx k).take k).length=k:=by rw[List.length_take,List.length_eraseIdx_of_lt kn]; omega
  rcases Nat.lt_trichotomy i k with hi | rfl | hi
  ·rw[List.getElem?_append_left (by rw[tk]; exact hi),List.getElem?_take_of_lt hi,List.getElem?_eraseIdx,if_pos hi]
  ·rw[List.getElem?_append_right (by rw[tk]; exact Nat.le_refl _),tk,Nat.sub_self,hk]; rfl
  ·rw[List.getElem?_append_right (by rw[tk]; omega),tk,show i-k=(i-k-1)+1 by omega,List.getElem?_cons_succ,List.getElem?_drop,List.getElem?_eraseIdx,if_neg (by omega)];congr 1; omega
 ·unfold DS;rw[List.getElem?_eraseIdx,if_pos jk,List.getElem?_set_self (by omega)]
theorem Qj{bs:List AE}{j k:Nat}(h:Cb bs j k=true)(t1:(AO bs j).d<(AO bs j).u)(t2:(AO bs k).d<(AO bs k).u):Bj bs j k=false:=by
 unfold Cb at h;unfold Bj;simp only[Bool.and_eq_true,Bool.or_eq_true,decide_eq_true_eq] at h;rw[Bool.and_eq_false_iff]
 left
 rw[Bool.and_eq_false_iff];obtain⟨⟨_,h⟩,_⟩:=h;by_cases z:(AO bs j).d=(AO bs k).d
 ·right; exact decide_eq_false (by omega)
 ·left; exact decide_eq_false z
structure FK(w h:Int)(bs:List AE)(c:Rat):Prop where
 fl:GL w h bs
 w0:0<w
 u0:0<h
 hw:w.natAbs<=2 ^ 20
 hu:h.natAbs<=2 ^ 20
 n1:1<=bs.length
 n:bs.length<=12
 bv:∀b∈bs,Ih b
 sc:Sb 7 13 c
 cn:0<c.num
theorem Ih.Lx{b:AE}(h:Ih b):CP b:=λx hx=>by
 have p20:(2:Nat) ^ 20=1048576:=by decide
 have p19:(2:Nat) ^ 19=524288:=by decide
 have:=h x hx
 omega
theorem GY{H H':Hp}(s:AQ H H'){p:Addr}{bs:List AE}(h:Bi A4 H p bs):Bi A4 H' p bs:=by
 obtain⟨cs,h1,h2⟩:=h;exact⟨cs,s _ _ h1,h2.keep Dk s⟩
theorem FK.c0{w h:Int}{bs:List AE}{c:Rat}(k:FK w h bs c):0<c:=by rw[Rat.lt_iff]; simpa using k.cn
theorem Ra{bs:List AE}(bv:∀b∈bs,Ih b){j k:Nat}(jk:j<k)(kn:k<bs.length):∀b∈DS Bu z4 bs j k,CP b:=λb hb=>by
 have p20:(2:Nat) ^ 20=1048576:=by decide
 have p19:(2:Nat) ^ 19=524288:=by decide
 rcases List.mem_or_eq_of_mem_set (List.mem_of_mem_eraseIdx hb) with h | rfl
 ·intro x hx
  have:=bv b h x hx
  omega
 ·have h1:=bv _ (List.mem_of_getElem? (Cy (show j<bs.length by omega)));have h2:=bv _ (List.mem_of_getElem? (Cy kn));unfold AO at h1 h2;unfold z4;generalize bs.getD j (0,0,0,0)=X at h1;generalize bs.getD k (0,0,0,0)=Y at h2;obtain⟨x0,x1,x2,x3⟩:=X;obtain⟨y0,y1,y2,y3⟩:=Y;have a0:=h1 x0 (by simp);have a1:=h1 x1 (by simp);have a2:=h1 x2 (by simp);have a3:=h1 x3 (by simp);have c0:=h2 y0 (by simp);have c1:=h2 y1 (by simp);have c2:=h2 y2 (by simp);have c3:=h2 y3 (by simp);intro x hx;simp only[Bu,Dy,AE.l,AE.d,AE.r,AE.u,List.mem_cons,List.not_mem_nil,or_false] at hx;rcases hx with rfl | rfl | rfl | rfl <;> omega
theorem aE{H:Hp}{b:Addr}{s:CG}(h:GH HA HE H b (FR s)):HE (s.1:Int)/\H b=some (.AH [.str (HA (s.1:Int)),.int (s.2.1:Int),.int (s.2.2:Int)]):=by
 obtain⟨c,rest,e,sc,h⟩:=h;unfold FR at e;injection e with e1 e2
 subst e1 e2;exact⟨sc,h⟩
def Gy(s:CG):Ba:=if s.1=0 then .ab (s.2.1:Int) (s.2.2:Int) else .bs (s.2.1:Int) (s.2.2:Int)
theorem YQ{H:Hp}{b:Addr}{s:CG}(h:HE (s.1:Int)/\H b=some (.AH [.str (HA (s.1:Int)),.int (s.2.1:Int),.int (s.2.2:Int)])):FW H b (Gy s)/\S7 (Gy s)=true:=by
 obtain⟨h0,h⟩:=h;unfold Gy;rcases h0 with z | z
 ·rw[if_pos (by omega)];rw[z] at h;exact⟨h,rfl⟩
 ·rw[if_neg (by omega)];rw[z] at h;exact⟨h,rfl⟩
theorem KG{H:Hp}{r:Addr}{rows:List (List Rat)}{j:Nat}{x:List Rat}(h:A7 (A7 Ac) H r rows)(e:rows[j]?=some x):∃vs b,H r=some (.AH vs)/\BN vs (j:Int)=some (.ref b)/\A7 Ac H b x:=by
 obtain⟨cs,hr,hC⟩:=h;obtain⟨b,eb,hb⟩:=hC.get e;exact⟨_,b,hr,Al (BA eb),hb⟩
theorem WM{w h:Int}{bs:List AE}{c:Rat}(k:FK w h bs c){s:CG}(hs:s∈D3 bs.length)(fs:DY bs s=true):
  Lj ((w:Rat)*c) ((h:Rat)*c) (Am c bs) (Am c (DS Bu z4 bs s.2.1 s.2.2)) (Gy s) (.sp (s.2.1:Int) (s.2.2:Int) (Au c (AO bs s.2.1)) (Au c (AO bs s.2.2)) true):=by
 obtain⟨s0,jk,kn⟩:=GS.mp hs;obtain⟨e1,e2,e3⟩:=YK jk kn;have ln:=Mw (f:=Bu) (d:=z4) jk kn;have hn:=k.n;have gj:=List.mem_of_getElem? (Cy (show s.2.1<bs.length by omega));have gk:=List.mem_of_getElem? (Cy kn)
 have:=(Qr k.w0 k.u0 k.hw k.hu (by omega) k.sc k.c0 k.cn (J:=s.2.1) (k:=s.2.2) (Ra k.bv jk kn) (k.bv _ gj).Lx (k.bv _ gk).Lx (by rw[e1]; exact k.fl) e2 jk e3 rfl).1 (Bj bs s.2.1 s.2.2)
 rw[e1] at this;unfold DY at fs;rcases s0 with z | z
 ·rw[if_pos z] at fs;have nb:=Qj fs (k.fl.tru _ gj).2 (k.fl.tru _ gk).2
  have:=(this (by rw[nb,fs]; rfl) rfl).2
  rw[nb,if_neg (by decide)] at this;unfold Gy;rw[if_pos z]; exact this
 ·rw[if_neg (by omega)] at fs
  have:=(this (by rw[fs]; rfl) rfl).2
  rw[fs,if_pos rfl] at this;unfold Gy;rw[if_neg (by omega)]; exact this
variable {f5 f6 f7 f8 C C3 CN CE CS CF:Addr} {d5 d6 d7 d8:FuncData}
variable {g1 g2 g3 t1 t2 t3:Addr} {gd1 gd2 gd3 td1 td2 td3:FuncData}
def IQ(K:PySem.W.Frag):Sp:=λvs H Q _=>∃(a pb pc:Addr) (ns:List Int) (w h:Int) (bs:List AE) (c:Rat),vs=[.ref a,.ref pb,.int w,.int h,.ref pc]/\Lv K H a ns/\Bi A4 H pb bs/\Ac H pc c/\FK w h bs c/\∀H',AQ H H'->Q (.bl true) H'
theorem HY:Ak ["_law_script","_law_boxes","_law_wide","_law_high","_law_scale","_law_steps","_law_step","_law_floor","_law_behind","_law_made_here","_law_back"] ["_law_script","_law_boxes","_law_wide","_law_high","_law_scale"] (Af s_law_joined):=Ap
set_option maxHeartbeats 4000000 in
seal L2.Cs L2.PS L2.PE L2.PA in
theorem UG (F:Ag K "_law_joined" "_law_joined" s_law_joined f fd) (T1:StC K C1) (T2:StC K C2) (T3:DQ K C3)
  (G1:AG P w K mg base AM 1 f1 d1 ["_law_script","_law_k"] (Hz K)) (b1:AV K d1 ["_law_script","_law_k"] []) (k1:KP K f1) (m1:mg "_law_cell_at" = some (.ref f1))
  (G2:AG P w K mg base AM 2 f2 d2 ["_law_boxes"] Nl) (b2:AV K d2 ["_law_boxes"] []) (k2:KP K f2) (m2:mg "_law_fitting" = some (.ref f2))
  (G3:AG P w K mg base AM 4 f3 d3 ["_law_boxes","_law_wide","_law_high","_law_scale"] LX) (b3:AV K d3 ["_law_boxes","_law_wide","_law_high","_law_scale"] []) (k3:KP K f3) (m3:mg "_law_floor_of" = some (.ref f3))
  (G4:AG P w K mg base AM 1 f4 d4 ["_law_boxes","_law_j","_law_k"] Nv) (b4:AV K d4 ["_law_boxes","_law_j","_law_k"] []) (k4:KP K f4) (m4:mg "_law_done" = some (.ref f4))
  (G5:AG P w K mg base AM 5 f5 d5 ["_law_step","_law_way_here"] (NP C1 C2 C3)) (b5:AV K d5 ["_law_step","_law_way_here"] []) (k5:KP K f5) (m5:mg "_law_made" = some (.ref f5))
  (G6:AG P w K mg base AM 12 f6 d6 ["_law_floor","_law_step","_law_behind","_law_back"] (Lm C1 C2 C3)) (b6:AV K d6 ["_law_floor","_law_step","_law_behind","_law_back"] []) (k6:KP K f6) (m6:mg "_law_way" = some (.ref f6))
  (T:Ms P w K mg base C1 C2 C3 CN "told" AM 1 1 1 ["self"] (Dp C1 "above") (Dp C2 "beside") (HM C3) t1 t2 t3 td1 td2 td3) (ml:mg "len" = none) :
  AG P w K mg base AM 13 f fd ["_law_script","_law_boxes","_law_wide","_law_high","_law_scale"] (IQ K):=by
 refine F.ok HY (λvs H Q E h=>?_) (λcdv A outer s H vs Q E hr h=>?_)
 ·obtain⟨a,pb,pc,ns,w,h,bs,c,rfl,_⟩:=h;rfl
 obtain⟨a,pb,pc,ns,w,h,bs,c,rfl,hS,hB,hc,kk,q⟩:=h;have n1:=hr.mono (show 1<=12 by decide);have n2:=hr.mono (show 2<=12 by decide);have n4:=hr.mono (show 4<=12 by decide);have n5:=hr.mono (show 5<=12 by decide);refine⟨_,AR (Ab (i:=5) HY.nd rfl (Or.inl rfl) (Ad G2 n2 (by rfl) m2 k2 b2 .nil AZ (AA (pv 1) AI)))
  (AR (A3 (Aw CQ (BJ (Ci (K:=K)) (by rfl) ml Cj (AA (pv 5) AI)) AF (Ai _)) (AU (AY CA)) A6)
  (AR (Ab (i:=6) HY.nd rfl (Or.inl rfl) (pT K (pv 5) (AW Bs (Ad G1 n1 (by rfl) m1 k1 b1 .nil AZ (AA (pv 0) (AA AF AI))) (BJ (Ci (K:=K)) (by rfl) ml Cj (AA (pv 5) AI)))))
  (AR (Ab (i:=7) HY.nd rfl (Or.inl rfl) (Ad G3 n4 (by rfl) m3 k3 b3 .nil AZ (AA (pv 1) (AA (pv 2) (AA (pv 3) (AA (pv 4) AI))))))
  (AR (Ab (i:=8) HY.nd rfl (Or.inl rfl) (Ad G3 n4 (by rfl) m3 k3 b3 .nil AZ (AA (Ad G4 n1 (by rfl) m4 k4 b4 .nil AZ (AA (pv 1) (AA (pT K (pv 6) AF) (AA (pT K (pv 6) AF) AI)))) (AA (pv 2) (AA (pv 3) (AA (pv 4) AI))))))
  (AR (Ab (i:=9) HY.nd rfl (Or.inl rfl) (Ad G5 n5 (by rfl) m5 k5 b5 .nil AZ (AA (pv 6) (AA (AW Bs (Ad G1 n1 (by rfl) m1 k1 b1 .nil AZ (AA (pv 0) (AA AF AI))) AF) AI))))
  (AR (A3 (Aw (Ge hr.units) (GR (E:=E0) (pv 9) T1.cl T2.cl T3.cl T.e1 T.e2 T.e3 T.G1 T.G2 T.G3 n1 n1 n1 T.b1 T.b2 T.b3 AZ) (pv 6) (Ai _)) (AU (AY CA)) A6)
  (AR (Ab (i:=10) HY.nd rfl (Or.inl rfl) (A0 (AA Bk (AA (pT K (pv 6) AF) (AA (pT K (pv 6) AF) (AA (pT K (pT K (pv 7) AF) (pT K (pv 6) AF)) (AA (pT K (pT K (pv 7) AF) (pT K (pv 6) AF)) AI)))))))
  (AU (AY (Ad G6 hr (by rfl) m6 k6 b6 .nil AZ (AA (pv 7) (AA (pv 9) (AA (pv 8) (AA (pv 10) AI)))))))))))))),?_⟩
 have lsb:∀{H1 H2:Hp} {p:Addr} {bs:List AE},AQ H1 H2->Bi A4 H1 p bs->Bi A4 H2 p bs:=λs h=>GY s h
 have few:((D3 bs.length).filter (DY bs)).length<64:=by
  have:=Xl kk.fl.Fw.Lh kk.fl.tru
  have:=kk.n
  omega
 have kn:=kk.n;refine⟨_,rfl,?_⟩;dsimp only[L2.BH];refine⟨pb,bs,rfl,hB,by omega,few,λtf cs rs H1 s1 htf hA pm pw=>?_⟩;refine⟨_,rfl,tf,_,rfl,.inr (AJ.of htf),rfl,_,rfl,?_⟩;by_cases z:cs.length=0
 ·exact BQ (by rw[List.length_map,z]; rfl) (q H1 s1)
 refine BU (λe=>z (by rw[List.length_map] at e; injection e with e; omega)) ?_;have hl:(0:Int)<((cs.map V.ref).length:Nat):=by rw[List.length_map]; omega
 refine⟨_,rfl,_,rfl,a,ns,3,rfl,⟨s1.seq hS.1,hS.2⟩,by decide,λz3 _=>⟨_,rfl,tf,_,rfl,.inr (AJ.of htf),_,_,rfl,rfl,hl,?_⟩⟩;have a0:=Int.emod_nonneg z3 (Int.ne_of_gt hl);have a1:=Int.emod_lt_of_pos z3 hl;obtain⟨i,hi⟩:=Int.eq_ofNat_of_zero_le a0;rw[hi];rw[hi,List.length_map] at a1;have il:i<cs.length:=by omega
 obtain⟨g,eg⟩:∃g,cs[i]?=some g:=⟨_,List.getElem?_eq_getElem il⟩;obtain⟨r0,er⟩:∃r,rs[i]?=some r:=⟨_,List.getElem?_eq_getElem (show i<rs.length by rw[<-hA.1]; exact il)⟩;have hg:=hA.2 i _ _ eg er;obtain⟨st,hst,rfl⟩:=List.mem_map.mp (pm.mem_iff.mp (List.mem_of_getElem? er));obtain⟨hs1,hs2⟩:=List.mem_filter.mp hst;obtain⟨_,jk,jn⟩:=GS.mp hs1;replace hg:=aE hg;obtain⟨hT,hJ⟩:=YQ hg;have hg:=hg.2;have wj:=WM kk hs1 hs2;have nt:=Rj wj.k1;refine⟨tf,_,_,_,rfl,rfl,AJ.of htf,Al (BA eg),?_⟩;have bw:∀b∈bs,CP b:=λb hb=>(kk.bv b hb).Lx
 refine⟨_,rfl,_,rfl,_,rfl,_,rfl,?_⟩;dsimp only[L2.BH];refine⟨pb,pc,bs,_,_,c,rfl,lsb s1 hB,by omega,s1 _ _ hc,kk.sc,kk.hw,kk.hu,bw,λpf H2 s2 hF=>?_⟩;have s02:=s1.trans s2;have hg2:=s2 _ _ hg;refine⟨_,rfl,_,rfl,g,_,_,_,rfl,rfl,AJ.of hg2,E3 _ _ _,_,rfl,g,_,_,_,rfl,rfl,AJ.of hg2,B5 _ _ _,pb,bs,st.2.1,st.2.2,rfl,lsb s02 hB,by omega,jk,jn,λqd H3 _ s3 hD=>?_⟩;have dl:=Mw (f:=Bu) (d:=z4) jk jn;refine⟨_,rfl,_,rfl,_,rfl,?_⟩;dsimp only[L2.BH];refine⟨qd,pc,_,_,_,c,rfl,hD,by omega,(s02.trans s3) _ _ hc,kk.sc,kk.hw,kk.hu,Ra kk.bv jk jn,λpf2 H4 s4 hF2=>?_⟩;have s04:=s02.trans (s3.trans s4);have s14:=s2.trans (s3.trans s4);refine⟨_,rfl,_,rfl,a,ns,2,rfl,⟨s04.seq hS.1,hS.2⟩,by decide,λz4' _=>⟨_,_,rfl,rfl,(show(0:Int)<2 by decide),?_⟩⟩;refine⟨g,_,Gy st,rfl,D5 s14 hT,hJ,λx H5 s5 hx=>?_⟩;refine⟨_,rfl,GU (λ_ h=>h) hx (λp6 H6 s6 h6=>?_)⟩;have s16:=s14.trans (s5.trans s6);refine⟨_,rfl,_,_,Ga h6,Ga (D5 s16 hT),Fs nt,Fs nt,_,rfl,?_⟩;rw[KO nt];refine Bh ?_;have hg6:=s16 _ _ hg;have hF6:=BO ((s3.trans s4).trans (s5.trans s6)) hF;have hF26:=BO (s5.trans s6) hF2;obtain⟨e0,e1,er',hpf,_,_,hrr⟩:=id hF6;have rj:(Am c bs)[st.2.1]?=some (Au c (AO bs st.2.1)):=by rw[List.getElem?_map,Cy (show st.2.1<bs.length by omega)]; rfl
 have rk:(Am c bs)[st.2.2]?=some (Au c (AO bs st.2.2)):=by rw[List.getElem?_map,Cy jn]; rfl
 obtain⟨vs,y1,hvs,ev1,h1⟩:=KG hrr rj;obtain⟨vs',y2,hvs',ev2,h2⟩:=KG hrr rk;obtain rfl:vs'=vs:=by rw[hvs] at hvs'; injection hvs' with e; injection e with e; exact e.symm
 refine⟨_,rfl,g,_,_,_,rfl,rfl,AJ.of hg6,E3 _ _ _,_,rfl,g,_,_,_,rfl,rfl,AJ.of hg6,B5 _ _ _,_,rfl,pf,_,_,_,rfl,rfl,AJ.of hpf,B5 _ _ _,_,rfl,g,_,_,_,rfl,rfl,AJ.of hg6,E3 _ _ _,er',_,_,_,rfl,rfl,AJ.of hvs,ev1,_,rfl,pf,_,_,_,rfl,rfl,AJ.of hpf,B5 _ _ _,_,rfl,g,_,_,_,rfl,rfl,AJ.of hg6,B5 _ _ _,er',_,_,_,rfl,rfl,AJ.of hvs,ev2,by exact L5,λpk hpk=>?_⟩;have s7:=Ae hpk (.AH [.str "split",.int (st.2.1:Int),.int (st.2.2:Int),.ref y1,.ref y2]);refine⟨_,rfl,_,rfl,_,rfl,_,rfl,?_⟩;dsimp only[L2.BH];exact⟨pf,x,pf2,pk,_,_,_,_,Gy st,.sp (st.2.1:Int) (st.2.2:Int) (Au c (AO bs st.2.1)) (Au c (AO bs st.2.2)) true,rfl,BO s7 hF6,DD (s6.trans s7) hx,BO s7 hF26,⟨y1,y2,AX,BI s7 h1,BI s7 h2⟩,wj,λH8 s8=>q H8 (s1.trans (s16.trans (s7.trans s8)))⟩
variable {f9 f10:Addr} {d9 d10:FuncData}
theorem Ez:Ak ["_law_script","_law_boxes","_law_wide","_law_high","_law_scale","_law_j","_law_k","_law_parts","_law_new","_law_floor","_law_behind","_law_told","_law_step"] ["_law_script","_law_boxes","_law_wide","_law_high","_law_scale"] (Af s_law_parted):=Ap
set_option maxHeartbeats 4000000 in
seal L2.Cs L2.PS L2.PE L2.PA in
theorem UO (F:Ag K "_law_parted" "_law_parted" s_law_parted f fd) (T1:StC K C1) (T2:StC K C2) (T3:DQ K C3)
  (G1:AG P w K mg base AM 1 f1 d1 ["_law_script","_law_k"] (Hz K)) (b1:AV K d1 ["_law_script","_law_k"] []) (k1:KP K f1) (m1:mg "_law_cell_at" = some (.ref f1))
  (G2:AG P w K mg base AM 1 f2 d2 ["_law_box","_law_cell"] N7) (b2:AV K d2 ["_law_box","_law_cell"] []) (k2:KP K f2) (m2:mg "_law_cut" = some (.ref f2))
  (G3:AG P w K mg base AM 4 f3 d3 ["_law_boxes","_law_wide","_law_high","_law_scale"] LX) (b3:AV K d3 ["_law_boxes","_law_wide","_law_high","_law_scale"] []) (k3:KP K f3) (m3:mg "_law_floor_of" = some (.ref f3))
  (G4:AG P w K mg base (Aj P w) 4 f4 d4 ["told"] (IH C1 C2 C3 CE)) (b4:AV K d4 ["told"] []) (k4:KP K f4) (m4:mg "step_of" = some (.ref f4))
  (M3:Mk K C3 f5) (mC3:mg "Split" = some (.ref C3)) (G5:AG P w K mg base AM 2 f5 d5 ["self","one","other","first","second"] (JF K)) (b5:AV K d5 ["self","one","other","first","second"] [])
  (G6:AG P w K mg base AM 12 f6 d6 ["_law_floor","_law_step","_law_behind","_law_back"] (Lm C1 C2 C3)) (b6:AV K d6 ["_law_floor","_law_step","_law_behind","_law_back"] []) (k6:KP K f6) (m6:mg "_law_way" = some (.ref f6))
  (G7:AG P w K mg base AM 1 f7 d7 ["_law_boxes","_law_j","_law_k"] (Eo Cb)) (b7:AV K d7 ["_law_boxes","_law_j","_law_k"] []) (k7:KP K f7) (m7:mg "_law_above" = some (.ref f7))
  (G8:AG P w K mg base AM 1 f8 d8 ["_law_boxes","_law_j","_law_k"] (Eo Bj)) (b8:AV K d8 ["_law_boxes","_law_j","_law_k"] []) (k8:KP K f8) (m8:mg "_law_beside" = some (.ref f8))
  (G9:AG P w K mg base AM 11 f9 d9 ["_law_step","_law_floor"] (NR C1 C2 C3)) (b9:AV K d9 ["_law_step","_law_floor"] []) (k9:KP K f9) (m9:mg "_law_refused" = some (.ref f9))
  (T:Ms P w K mg base C1 C2 C3 CN "told" AM 1 1 1 ["self"] (Dp C1 "above") (Dp C2 "beside") (HM C3) t1 t2 t3 td1 td2 td3) (ml:mg "len" = none) :
  AG P w K mg base AM 13 f fd ["_law_script","_law_boxes","_law_wide","_law_high","_law_scale"] (IQ K):=by
 refine F.ok Ez (λvs H Q E h=>?_) (λcdv A outer s H vs Q E hr h=>?_)
 ·obtain⟨a,pb,pc,ns,w,h,bs,c,rfl,_⟩:=h;rfl
 obtain⟨a,pb,pc,ns,ww,hh,bs,c,rfl,hS,hB,hc,kk,q⟩:=h;have n1:=hr.mono (show 1<=12 by decide);have n3:=hr.mono (show 2+1<=12 by decide);have n4:=hr.mono (show 4<=12 by decide);have n11:=hr.mono (show 11<=12 by decide);refine⟨_,AR (Ab (i:=5) Ez.nd rfl (Or.inl rfl) (AW Bs (Ad G1 n1 (by rfl) m1 k1 b1 .nil AZ (AA (pv 0) (AA AF AI))) (BJ (Ci (K:=K)) (by rfl) ml Cj (AA (pv 1) AI))))
  (AR (Ab (i:=6) Ez.nd rfl (Or.inl rfl) (AW BW (AW BW (pv 5) AF) (AW Bs (Ad G1 n1 (by rfl) m1 k1 b1 .nil AZ (AA (pv 0) (AA AF AI))) (AW CI (BJ (Ci (K:=K)) (by rfl) ml Cj (AA (pv 1) AI)) (pv 5)))))
  (AR (Ab (i:=7) Ez.nd rfl (Or.inl rfl) (Ad G2 n1 (by rfl) m2 k2 b2 .nil AZ (AA (pL K (pv 1) (pv 5)) (AA (Ad G1 n1 (by rfl) m1 k1 b1 .nil AZ (AA (pv 0) (AA AF AI))) AI))))
  (AR (A3 (JP (Q9 (pv 7))) (AU (AY CA)) A6)
  (AR (Ab (i:=8) Ez.nd rfl (Or.inl rfl) (AW DT (AW DT (EK (FY (K:=K)) (pv 1) Ej (D4 (pv 5))) (CU (AA (pL K (pv 7) AF) AI))) (EK (FY (K:=K)) (pv 1) (D4 (AW BW (pv 5) AF)) Ej)))
  (AR (Ab (i:=8) Ez.nd rfl (Or.inl rfl) (AW DT (AW DT (EK (FY (K:=K)) (pv 8) Ej (D4 (pv 6))) (CU (AA (pL K (pv 7) AF) AI))) (EK (FY (K:=K)) (pv 8) (D4 (pv 6)) Ej)))
  (AR (Ab (i:=9) Ez.nd rfl (Or.inl rfl) (Ad G3 n4 (by rfl) m3 k3 b3 .nil AZ (AA (pv 1) (AA (pv 2) (AA (pv 3) (AA (pv 4) AI))))))
  (AR (Ab (i:=10) Ez.nd rfl (Or.inl rfl) (Ad G3 n4 (by rfl) m3 k3 b3 .nil AZ (AA (pv 8) (AA (pv 2) (AA (pv 3) (AA (pv 4) AI))))))
  (AR (Ab (i:=11) Ez.nd rfl (Or.inl rfl) (A0 (AA Bk (AA (pv 5) (AA (pv 6) (AA (pT K (pT K (pv 10) AF) (pv 5)) (AA (pT K (pT K (pv 10) AF) (pv 6)) AI)))))))
  (AR (Ab (i:=12) Ez.nd rfl (Or.inl rfl) (Ad (CX:=Aj P w) (E:=E0) G4 n4 (by rfl) m4 k4 b4 .nil FJ (AA (pv 11) AI)))
  (AR (A3 (Aw CQ (AW Bs (Ad G1 n1 (by rfl) m1 k1 b1 .nil AZ (AA (pv 0) (AA AF AI))) AF) AF (Ai _))
   (AU (Ab (i:=12) Ez.nd rfl (Or.inl rfl) (Fm M3 G5 n3 rfl mC3 b5 .nil AZ (AA (pv 5) (AA (pv 6) (AA (pT K (pT K (pv 10) AF) (pv 5)) (AA (pT K (pT K (pv 10) AF) (pv 6)) AI))))))) A6)
  (AR (A3 (Aw (Ge hr.units) (GR (E:=E0) (pv 12) T1.cl T2.cl T3.cl T.e1 T.e2 T.e3 T.G1 T.G2 T.G3 n1 n1 n1 T.b1 T.b2 T.b3 AZ) (pv 11) (Ai _)) (AU (AY CA)) A6)
  (AR (A3 (DC (Ad G7 n1 (by rfl) m7 k7 b7 .nil AZ (AA (pv 8) (AA (pv 5) (AA (pv 6) AI))))) (AU (AY (Ad G6 hr (by rfl) m6 k6 b6 .nil AZ (AA (pv 9) (AA (pv 12) (AA (pv 10) (AA (A0 (AA Bk (AA (pv 5) (AA (pv 6) AI)))) AI))))))) A6)
  (AR (A3 (DC (Ad G8 n1 (by rfl) m8 k8 b8 .nil AZ (AA (pv 8) (AA (pv 5) (AA (pv 6) AI))))) (AU (AY (Ad G6 hr (by rfl) m6 k6 b6 .nil AZ (AA (pv 9) (AA (pv 12) (AA (pv 10) (AA (A0 (AA Bk (AA (pv 5) (AA (pv 6) AI)))) AI))))))) A6)
  (AU (AY (Ad G9 n11 (by rfl) m9 k9 b9 .nil AZ (AA (pv 12) (AA (pv 9) AI)))))))))))))))))),?_⟩
 have kn:=kk.n;have k1':=kk.n1;obtain⟨cs,hpb,hC⟩:=id hB;have lc:cs.length=bs.length:=hC.1;have lm:(cs.map V.ref).length=bs.length:=by rw[List.length_map,lc]
 have hl:(0:Int)<((cs.map V.ref).length:Nat):=by rw[lm]; omega
 refine⟨_,rfl,a,ns,31,rfl,hS,by decide,λz1 _=>⟨_,rfl,pb,_,rfl,.inl (AS.of hpb),_,_,rfl,rfl,hl,?_⟩⟩;have a0:=Int.emod_nonneg z1 (Int.ne_of_gt hl);have a1:=Int.emod_lt_of_pos z1 hl;obtain⟨J,hJ⟩:=Int.eq_ofNat_of_zero_le a0;rw[hJ];rw[hJ,lm] at a1;have Jl:J<bs.length:=by omega
 have hl2:(0:Int)<(((cs.map V.ref).length:Nat):Int)-(J:Int):=by rw[lm]; omega
 refine⟨_,rfl,_,_,rfl,rfl,_,rfl,a,ns,32,rfl,hS,by decide,λz2 _=>⟨_,rfl,pb,_,rfl,.inl (AS.of hpb),_,rfl,_,_,rfl,rfl,_,_,rfl,rfl,hl2,_,_,rfl,rfl,?_⟩⟩;have c0:=Int.emod_nonneg z2 (Int.ne_of_gt hl2);have c1:=Int.emod_lt_of_pos z2 hl2;obtain⟨k0,hk0⟩:=Int.eq_ofNat_of_zero_le c0;rw[hk0,lm] at c1;obtain⟨k,hk⟩:∃k:Nat,(J:Int)+1+z2 % ((((cs.map V.ref).length:Nat):Int)-(J:Int))=(k:Int):=⟨J+1+k0,by rw[hk0]; omega⟩;rw[hk0] at hk;have Jk:J<k:=by omega
 have kl:k<=bs.length:=by omega
 have ek:(J:Int)+1+z2 % ((((cs.map V.ref).length:Nat):Int)-(J:Int))=(k:Int):=by rw[hk0]; exact hk
 rw[ek];obtain⟨pj,ej,hj⟩:=hC.get (Cy Jl);refine⟨_,rfl,_,rfl,pb,_,_,_,rfl,rfl,AS.of hpb,Al (BA ej),_,rfl,a,ns,33,rfl,hS,by decide,λz3 _=>?_⟩;dsimp only[L2.BH];refine⟨pj,_,z3,rfl,hj,λH1 s1=>?_,λpp p1 p2 q1 q2 H1 s1 hpp h1 h2 cu=>?_⟩
 ·exact⟨_,rfl,_,rfl,BQ rfl (q H1 s1)⟩
 refine⟨_,rfl,_,rfl,BU (by intro z; cases z) ?_⟩;have hpb1:=s1 _ _ hpb;have hC1:=hC.keep Dk s1;refine⟨_,rfl,_,rfl,_,rfl,pb,_,rfl,AS.of hpb1,λx1 hx1=>?_⟩;rw[show Bv (cs.map V.ref) none (some (J:Int))=(cs.take J).map V.ref from (Iz _ (by omega)).trans (List.map_take ..).symm];obtain⟨H2,e2,s2,g2⟩:=Cg hx1 ((cs.take J).map V.ref);rw[e2];refine⟨_,rfl,pp,_,_,_,rfl,rfl,AS.of (s2 _ _ hpp),Sg,by exact sz1,λx2 hx2=>?_⟩;obtain⟨H3,e3,s3,g3⟩:=Cg hx2 [.ref p1];rw[e3];refine⟨x1,x2,_,_,rfl,rfl,s3 _ _ g2,g3,by simp; exact DO (by omega),λx3 hx3=>?_⟩;obtain⟨H4,e4,s4,g4⟩:=Cg hx3 ((cs.take J).map V.ref++[.ref p1]);rw[e4];have s24:=s2.trans (s3.trans s4);refine⟨_,rfl,_,rfl,_,_,rfl,rfl,_,rfl,pb,_,rfl,AS.of (s24 _ _ hpb1),λx4 hx4=>?_⟩;rw[show Bv (cs.map V.ref) (some ((J:Int)+1)) none=(cs.drop (J+1)).map V.ref from (Ir (j:=J+1) _ (by omega)).trans (List.map_drop ..).symm];obtain⟨H5,e5,s5,g5⟩:=Cg hx4 ((cs.drop (J+1)).map V.ref);rw[e5];refine⟨x3,x4,_,_,rfl,rfl,s5 _ _ g4,g5,by simp; exact DO (by omega),λx5 hx5=>?_⟩;have en:(cs.take J).map V.ref++[.ref p1]++(cs.drop (J+1)).map V.ref=(cs.set J p1).map V.ref:=by
  rw[List.set_eq_take_append_cons_drop,if_pos (by omega)]; simp
 rw[en];obtain⟨H6,e6,s6,g6⟩:=Cg hx5 ((cs.set J p1).map V.ref);rw[e6];have s26:=s24.trans (s5.trans s6);have lset:((cs.set J p1).map V.ref).length=bs.length:=by rw[List.length_map,List.length_set,lc]
 refine⟨_,rfl,_,rfl,_,rfl,x5,_,rfl,AS.of g6,λy1 hy1=>?_⟩;rw[show Bv ((cs.set J p1).map V.ref) none (some (k:Int))=((cs.set J p1).take k).map V.ref from (Iz _ (by omega)).trans (List.map_take ..).symm];obtain⟨H7,e7,s7,g7⟩:=Cg hy1 (((cs.set J p1).take k).map V.ref);rw[e7];refine⟨_,rfl,pp,_,_,_,rfl,rfl,AS.of ((s26.trans s7) _ _ hpp),Sa,by exact sz1,λy2 hy2=>?_⟩;obtain⟨H8,e8,s8,g8⟩:=Cg hy2 [.ref p2];rw[e8];refine⟨y1,y2,_,_,rfl,rfl,s8 _ _ g7,g8,by simp; exact DO (by omega),λy3 hy3=>?_⟩;obtain⟨H9,e9,s9,g9⟩:=Cg hy3 (((cs.set J p1).take k).map V.ref++[.ref p2]);rw[e9];have s79:=s7.trans (s8.trans s9);refine⟨_,rfl,_,rfl,_,rfl,x5,_,rfl,AS.of (s79 _ _ g6),λy4 hy4=>?_⟩;rw[show Bv ((cs.set J p1).map V.ref) (some (k:Int)) none=((cs.set J p1).drop k).map V.ref from (Ir _ (by omega)).trans (List.map_drop ..).symm];obtain⟨H10,e10,s10,g10⟩:=Cg hy4 (((cs.set J p1).drop k).map V.ref);rw[e10];refine⟨y3,y4,_,_,rfl,rfl,s10 _ _ g9,g10,by simp; exact DO (by omega),λy5 hy5=>?_⟩;have en2:((cs.set J p1).take k).map V.ref++[.ref p2]++((cs.set J p1).drop k).map V.ref=(As cs J k p1 p2).map V.ref:=by unfold As; simp
 rw[en2];obtain⟨H11,e11,s11,g11⟩:=Cg hy5 ((As cs J k p1 p2).map V.ref);rw[e11];have s111:=s26.trans (s79.trans (s10.trans s11));have hN:Bi A4 H11 y5 (As bs J k q1 q2):=by
  refine⟨_,g11,?_⟩
  have:=((LO hC1 J h1).take k).snoc h2
  have:=this.E7 ((LO hC1 J h1).drop k)
  unfold As;rw[List.append_assoc,List.append_assoc] at this;exact this.keep Dk s111
 clear g11 e11 hy5 en2 g10 e10 hy4 s10 s11 g9 e9 hy3 s9 s79 g8 e8 hy2 s8 g7 e7 hy1 s7 lset s26 g6 e6 hx5 en g5 e5 hx4 s5 s6 s24 g4 e4 hx3 s4 g3 e3 hx2 s3 g2 e2 hx1 s2 hpb1 hC1;have s011:=s1.trans s111;have eb:=Cy Jl;obtain⟨fl2,un⟩:=cu.Fe kk.fl eb Jk kl;obtain⟨w1,w2⟩:=cu.bw (kk.bv _ (List.mem_of_getElem? eb));have bw:∀b∈bs,CP b:=λb hb=>(kk.bv b hb).Lx
 have bw2:∀b∈As bs J k q1 q2,CP b:=λb hb=>by
  rcases LB hb with rfl | rfl | hb
  ·exact w1
  ·exact w2
  ·exact bw b hb
 have ll:=Ks (l:=bs) (j:=J) (a:=q1) (b:=q2) kl;obtain⟨wy,wn⟩:=Qr kk.w0 kk.u0 kk.hw kk.hu (by omega) kk.sc kk.c0 kk.cn bw w1 w2 fl2 eb Jk kl un;have hB11:=GY s011 hB;refine⟨_,rfl,_,rfl,_,rfl,_,rfl,?_⟩;dsimp only[L2.BH];refine⟨pb,pc,bs,_,_,c,rfl,hB11,by omega,s011 _ _ hc,kk.sc,kk.hw,kk.hu,bw,λpf H12 s12 hF=>?_⟩;refine⟨_,rfl,_,rfl,_,rfl,_,rfl,?_⟩;dsimp only[L2.BH];refine⟨y5,pc,_,_,_,c,rfl,GY s12 hN,by omega,(s011.trans s12) _ _ hc,kk.sc,kk.hw,kk.hu,bw2,λpg H13 s13 hG=>?_⟩;have s013:=s011.trans (s12.trans s13);have hN13:=GY (s12.trans s13) hN;have hF13:=BO s13 hF;obtain⟨e0,e1,er,hpg,_,_,hrr⟩:=id hG;have rj:(Am c (As bs J k q1 q2))[J]?=some (Au c q1):=by rw[List.getElem?_map,Jq Jk kl]; rfl
 have rk:(Am c (As bs J k q1 q2))[k]?=some (Au c q2):=by rw[List.getElem?_map,Jp kl]; rfl
 obtain⟨vs,r1,hvs,ev1,hr1⟩:=KG hrr rj;obtain⟨vs',r2,hvs',ev2,hr2⟩:=KG hrr rk;obtain rfl:vs'=vs:=by rw[hvs] at hvs'; injection hvs' with e; injection e with e; exact e.symm
 refine⟨_,rfl,_,rfl,_,rfl,pg,_,_,_,rfl,rfl,AJ.of hpg,B5 _ _ _,_,rfl,er,_,_,_,rfl,rfl,AJ.of hvs,ev1,_,rfl,pg,_,_,_,rfl,rfl,AJ.of hpg,B5 _ _ _,_,rfl,er,_,_,_,rfl,rfl,AJ.of hvs,ev2,by exact L5,λpk hpk=>?_⟩;obtain⟨H14,e14,s14,g14⟩:=HK hpk [.str "split",.int (J:Int),.int (k:Int),.ref r1,.ref r2];rw[e14];have hT:FW H14 pk (.sp (J:Int) (k:Int) (Au c q1) (Au c q2) true):=⟨r1,r2,g14,BI s14 hr1,BI s14 hr2⟩;refine⟨_,rfl,?_⟩;dsimp only[L2.BH];refine⟨pk,_,rfl,hT,λx0 H15 s15 hx0=>?_,λy=>?_⟩
 case refine_2=>obtain⟨_,_,_,y⟩:=y; cases y
 have s1315:=s14.trans s15
 (try dsimp only)
 try refine W6 ?_
 try dsimp only
 refine Pq (G:=λσ H16=>∃x:Addr,σ=[some (.ref a),some (.ref pb),some (.int ww),some (.int hh),some (.ref pc),some (.int (J:Int)),some (.int (k:Int)),some (.ref pp),some (.ref y5),some (.ref pf),some (.ref pg),some (.ref pk),some (.ref x)]/\AQ H15 H16/\EB C1 C2 C3 H16 x (.sp (J:Int) (k:Int) (Au c q1) (Au c q2) true)) (λr=>?_) ?_
 ·refine⟨_,rfl,a,ns,34,rfl,⟨(s013.trans s1315).seq hS.1,hS.2⟩,by decide,λz4 _=>⟨_,_,rfl,rfl,(show(0:Int)<2 by decide),rfl,_,rfl,?_⟩⟩;have rr:=r _ _ ⟨x0,rfl,AQ.refl _,hx0⟩;refine Ey (λ_=>?_) (λ_=>by first | exact rr | exact nx_go rr);have hpg':=s1315 _ _ hpg;have hvs'':=s1315 _ _ hvs;refine⟨_,rfl,_,rfl,_,rfl,pg,_,_,_,rfl,rfl,AJ.of hpg',B5 _ _ _,_,rfl,er,_,_,_,rfl,rfl,AJ.of hvs'',ev1,_,rfl,pg,_,_,_,rfl,rfl,AJ.of hpg',B5 _ _ _,_,rfl,er,_,_,_,rfl,rfl,AJ.of hvs'',ev2,λx dx nx ndx nex=>?_⟩;refine⟨x,C3,dx,r1,r2,_,_,rfl,T3,AX,λH16 hx sb=>⟨rfl,?_⟩⟩;have s16:AQ H15 H16:=λb o e=>sb b o (A5 e nx) (by rw[An (A5 e nx),An (A5 e ndx)]; exact e)
  exact r _ _ ⟨x,rfl,s16,dx,r1,r2,hx,BI (s1315.trans s16) hr1,BI (s1315.trans s16) hr2⟩
 rintro σ H16 ⟨x,rfl,s16,hx⟩;refine⟨_,rfl,GU (λ_ h=>h) hx (λp17 H17 s17 h17=>?_)⟩;have s1417:=s15.trans (s16.trans s17);have nt:GN (.sp (J:Int) (k:Int) (Au c q1) (Au c q2) true)=false:=rfl;refine⟨_,rfl,_,_,Ga h17,Ga (D5 s1417 hT),Fs nt,Fs nt,_,rfl,?_⟩;rw[KO nt];refine Bh ?_;have s1317:=s14.trans s1417;have hx17:=DD s17 hx;have sAll:=s013.trans s1317;refine⟨_,rfl,_,rfl,_,rfl,?_⟩;dsimp only[L2.BH];have tJ:((As bs J k q1 q2).length:Nat)<=30:=by omega
 refine⟨y5,_,J,k,rfl,GY s1317 hN13,tJ,Jk,by omega,λH18 s18=>⟨_,rfl,?_⟩⟩;have g1:=Jq (l:=bs) (a:=q1) (b:=q2) Jk kl;have g2:=Jp (l:=bs) (j:=J) (a:=q1) (b:=q2) kl;have u1:=(fl2.tru q1 (List.mem_of_getElem? g1)).2;have u2:=(fl2.tru q2 (List.mem_of_getElem? g2)).2;rw[<-ID g1] at u1;rw[<-ID g2] at u2;have s1318:=s1317.trans s18;cases za:Cb (As bs J k q1 q2) J k with
 | true =>
  refine CL ?_;have nb:=Qj za u1 u2;have wk:=(wy false (by rw[nb,za]; rfl) nb.symm).1;rw[if_neg (by decide)] at wk;refine⟨_,rfl,_,rfl,_,rfl,_,rfl,_,rfl,by exact EF,λp19 hp19=>?_⟩;have s19:=Ae hp19 (.AH [.str "above",.int (J:Int),.int (k:Int)]);exact⟨pf,x,pg,p19,_,_,_,_,_,.ab (J:Int) (k:Int),rfl,BO (s1318.trans s19) hF13,DD (s18.trans s19) hx17,BO (s1318.trans s19) hG,AX,wk,λH20 s20=>q H20 (s013.trans (s1318.trans (s19.trans s20)))⟩
 | false =>
  refine Bh ?_;refine⟨_,rfl,_,rfl,_,rfl,?_⟩;dsimp only[L2.BH];refine⟨y5,_,J,k,rfl,GY s1318 hN13,tJ,Jk,by omega,λH19 s19=>⟨_,rfl,?_⟩⟩;have s1319:=s1318.trans s19;cases zb:Bj (As bs J k q1 q2) J k with
  | true =>
   refine CL ?_;have wk:=(wy true (by rw[zb]; rfl) zb.symm).1;rw[if_pos rfl] at wk;refine⟨_,rfl,_,rfl,_,rfl,_,rfl,_,rfl,by exact EF,λp20 hp20=>?_⟩;have s20:=Ae hp20 (.AH [.str "beside",.int (J:Int),.int (k:Int)]);exact⟨pf,x,pg,p20,_,_,_,_,_,.bs (J:Int) (k:Int),rfl,BO (s1319.trans s20) hF13,DD ((s18.trans s19).trans s20) hx17,BO (s1319.trans s20) hG,AX,wk,λH21 s21=>q H21 (s013.trans (s1319.trans (s20.trans s21)))⟩
  | false =>
   refine Bh ?_;obtain⟨ok,ft⟩:=wn zb za;refine⟨_,rfl,_,rfl,?_⟩;dsimp only[L2.BH];exact⟨x,pf,_,_,_,_,rfl,DD (s18.trans s19) hx17,BO s1319 hF13,ok,ft,λH20 s20=>q H20 (s013.trans (s1319.trans s20))⟩
def LP(K:PySem.W.Frag):Sp:=λvs H Q _=>∃(a:Addr) (ns:List Int),vs=[.ref a]/\AS K H a (ns.map V.int)/\ns.length<=63/\∀H',Q (.bl true) H'
theorem Jo:Ak ["_law_script","_law_wide","_law_high","_law_boxes","_law_scale"] ["_law_script"] (Af sLaw):=Ap
theorem Yz (F:Ag K "law" "law" sLaw f fd) (G1:AG P w K mg base AM 1 f1 d1 ["_law_script","_law_k"] (Hz K)) (b1:AV K d1 ["_law_script","_law_k"] []) (k1:KP K f1) (m1:mg "_law_cell_at" = some (.ref f1))
  (G2:AG P w K mg base AM 1 f2 d2 ["_law_cell"] Mi) (b2:AV K d2 ["_law_cell"] []) (k2:KP K f2) (m2:mg "_law_side" = some (.ref f2))
  (G3:AG P w K mg base AM 3 f3 d3 ["_law_script","_law_first","_law_last","_law_wide","_law_high","_law_most"] (Mc K)) (b3:AV K d3 ["_law_script","_law_first","_law_last","_law_wide","_law_high","_law_most"] []) (k3:KP K f3) (m3:mg "_law_built" = some (.ref f3))
  (G4:AG P w K mg base AM 2 f4 d4 ["_law_cell"] NO) (b4:AV K d4 ["_law_cell"] []) (k4:KP K f4) (m4:mg "_law_scale_by" = some (.ref f4))
  (G5:AG P w K mg base AM 13 f5 d5 ["_law_script","_law_boxes","_law_wide","_law_high","_law_scale"] (IQ K)) (b5:AV K d5 ["_law_script","_law_boxes","_law_wide","_law_high","_law_scale"] []) (k5:KP K f5) (m5:mg "_law_joined" = some (.ref f5))
  (G6:AG P w K mg base AM 13 f6 d6 ["_law_script","_law_boxes","_law_wide","_law_high","_law_scale"] (IQ K)) (b6:AV K d6 ["_law_script","_law_boxes","_law_wide","_law_high","_law_scale"] []) (k6:KP K f6) (m6:mg "_law_parted" = some (.ref f6)):AG P w K mg base AM 14 f fd ["_law_script"] (LP K):=by
 refine F.ok Jo (λvs H Q E h=>?_) (λcdv A outer s H vs Q E hr h=>?_)
 ·obtain⟨a,ns,rfl,_⟩:=h;rfl
 obtain⟨a,ns,rfl,hS0,hS1,q⟩:=h;have hS:Lv K H a ns:=⟨hS0,hS1⟩;have r1:=hr.mono (show 1<=13 by decide);have r2:=hr.mono (show 2<=13 by decide);have r3:=hr.mono (show 3<=13 by decide);refine⟨_,AR (Ab (i:=1) Jo.nd rfl (Or.inl rfl) (Ad G2 r1 (by rfl) m2 k2 b2 .nil AZ (AA (Ad G1 r1 (by rfl) m1 k1 b1 .nil AZ (AA (pv 0) (AA AF AI))) AI)))
  (AR (Ab (i:=2) Jo.nd rfl (Or.inl rfl) (Ad G2 r1 (by rfl) m2 k2 b2 .nil AZ (AA (Ad G1 r1 (by rfl) m1 k1 b1 .nil AZ (AA (pv 0) (AA AF AI))) AI)))
  (AR (Ab (i:=3) Jo.nd rfl (Or.inl rfl) (Ad G3 r3 (by rfl) m3 k3 b3 .nil AZ (AA (pv 0) (AA AF (AA AF (AA (pv 1) (AA (pv 2) (AA AF AI))))))))
  (AR (Ab (i:=4) Jo.nd rfl (Or.inl rfl) (Ad G4 r2 (by rfl) m4 k4 b4 .nil AZ (AA (AW EL (Ad G1 r1 (by rfl) m1 k1 b1 .nil AZ (AA (pv 0) (AA AF AI))) AF) AI)))
  (AR (A3 (Gd (DC (Ad G5 hr (by rfl) m5 k5 b5 .nil AZ (AA (pv 0) (AA (pv 3) (AA (pv 1) (AA (pv 2) (AA (pv 4) AI)))))))) (AU (AY CA)) A6)
  (AU (AY (Ad G6 hr (by rfl) m6 k6 b6 .nil AZ (AA (pv 0) (AA (pv 3) (AA (pv 1) (AA (pv 2) (AA (pv 4) AI)))))))))))),?_⟩
 have p20:(2:Nat) ^ 20=1048576:=by decide
 have p19:(2:Nat) ^ 19=524288:=by decide
 refine⟨_,rfl,a,ns,0,rfl,hS,by decide,λz0 hz0=>⟨z0,rfl,hz0,λW W4 W9=>?_⟩⟩;refine⟨_,rfl,a,ns,1,rfl,hS,by decide,λz1 hz1=>⟨z1,rfl,hz1,λU U4 U9=>?_⟩⟩;refine⟨_,rfl,_,rfl,_,rfl,a,ns,W,U,rfl,hS,by omega,by omega,λpb H1 bs s1 hB n1 n10 fl=>?_⟩;have bv:∀b∈bs,Ih b:=λb hb y hy=>by
  have i:=fl.Fw.Be b hb;have t:=fl.tru b hb;unfold Dx at i;simp only[Dy,List.mem_cons,List.not_mem_nil,or_false] at hy;dsimp only[AE.l,AE.d,AE.r,AE.u] at i t;rcases hy with rfl | rfl | rfl | rfl <;> omega
 refine⟨_,rfl,a,ns,2,rfl,⟨s1.seq hS.1,hS.2⟩,by decide,λz2 hz2=>⟨_,_,rfl,rfl,⟨by decide,by decide⟩,_,rfl,λc sc cp pc hpc=>?_⟩⟩;obtain⟨H2,e2,s2,g2⟩:∃H2,AK H1 pc (.AH [.int c.num,.int c.den])=H2/\AQ H1 H2/\Ac H2 pc c:=⟨_,rfl,Ae hpc _,AX⟩;rw[e2];have s12:=s1.trans s2;have kk:FK W U bs c:=⟨fl,by omega,by omega,by omega,by omega,n1,n10,bv,sc,cp⟩;refine⟨_,rfl,_,rfl,_,rfl,_,rfl,_,rfl,?_⟩;dsimp only[L2.BH];refine⟨a,pb,pc,ns,W,U,bs,c,rfl,⟨s12.seq hS.1,hS.2⟩,GY s2 hB,g2,kk,λH3 s3=>⟨_,rfl,Bh ?_⟩⟩;refine⟨_,rfl,_,rfl,_,rfl,_,rfl,_,rfl,?_⟩;dsimp only[L2.BH];exact⟨a,pb,pc,ns,W,U,bs,c,rfl,⟨(s12.trans s3).seq hS.1,hS.2⟩,GY (s2.trans s3) hB,s3 _ _ g2,kk,λH4 _=>q H4⟩
end
end My
namespace My
open PySem L2 Mth
section
variable {K:PySem.W.Frag} {x qn:Str} {st:Stmt} {f C:Addr} {oc kV doc pm cdv ct:Value} {od an:Option Addr} {osl:Array (Option Value)} {fd:FuncData} {ps:List Str}
structure Dq(K:PySem.W.Frag)(x:Str)(st:Stmt)(ps:List Str)(f:Addr)(fd:FuncData):Prop where
 F:Ag K x x st f fd
 b:AV K fd ps []
 a:PySem.W.nsIn K mainGlobals x=some (some (.ref f))
theorem Dq.all{h:Heap}{mg:Str->Option Value}(d:Dq K x st ps f fd)(X:K.In h)(G:h.Ns mainGlobals mg):Ag K x x st f fd/\AV K fd ps []/\PySem.W.keepIn K (.ref f)=true/\mg x=some (.ref f):=⟨d.F,d.b,d.F.kp,PySem.W.mg_of X G d.a⟩
theorem dq (a:PySem.W.nsIn K mainGlobals x=some (some (.ref f))) (l:K.lookup f=some ⟨oc,od,.func (PySem.W.fnOf x x (Dj st) (C9 st) (Af st) .none kV doc pm an cdv ct),osl⟩) (c:PySem.W.codeIn K cdv x=true) (k:PySem.W.keepIn K (.ref f)=true)
  (b:∀{fd},Ag K x x st f fd->AV K fd ps []):Dq K x st ps f (PySem.W.fnOf x x (Dj st) (C9 st) (Af st) .none kV doc pm an cdv ct):=⟨LG l c k,b (LG l c k),a⟩
structure Dm(K:PySem.W.Frag)(C:Addr)(x qn:Str)(st:Stmt)(ps:List Str)(f:Addr)(fd:FuncData):Prop where
 F:Ag K x qn st f fd
 b:AV K fd ps []
 k:PySem.W.keepIn K (.ref f)=true
 a:PySem.W.findIn K (.ref C) x=some (some (.ref f))
 i:PySem.W.isFn K (.ref f)=true
theorem dm (a:PySem.W.findIn K (.ref C) x=some (some (.ref f))) (i:PySem.W.isFn K (.ref f)=true) (l:K.lookup f=some ⟨oc,od,.func (PySem.W.fnOf x qn (Dj st) (C9 st) (Af st) .none kV doc pm an cdv ct),osl⟩) (c:PySem.W.codeIn K cdv qn=true) (k:PySem.W.keepIn K (.ref f)=true)
  (b:∀{fd},Ag K x qn st f fd->AV K fd ps []):Dm K C x qn st ps f (PySem.W.fnOf x qn (Dj st) (C9 st) (Af st) .none kV doc pm an cdv ct):=⟨LG l c k,b (LG l c k),k,a,i⟩
theorem bn1(st:Stmt)(x qn:Str){p0:Str}(h:∀(kV doc pm:Value) (an:Option Addr) (cdv ct a0:Value),bindArgs (PySem.W.fnOf x qn (Dj st) (C9 st) (Af st) .none kV doc pm an cdv ct) ⟨[a0],[]⟩=pure [(p0,a0)]:=by intros; rfl)(F:Ag K x qn st f fd):AV K fd [p0] []:=F.binds λkV doc pm an cdv ct us hl=>by
 match us,hl with
 | [a0],_=>exact h kV doc pm an cdv ct a0
theorem bn2(st:Stmt)(x qn:Str){p0 p1:Str}(h:∀(kV doc pm:Value) (an:Option Addr) (cdv ct a0 a1:Value),bindArgs (PySem.W.fnOf x qn (Dj st) (C9 st) (Af st) .none kV doc pm an cdv ct) ⟨[a0,a1],[]⟩=pure [(p0,a0),(p1,a1)]:=by intros; rfl)(F:Ag K x qn st f fd):AV K fd [p0,p1] []:=F.binds λkV doc pm an cdv ct us hl=>by
 match us,hl with
 | [a0,a1],_=>exact h kV doc pm an cdv ct a0 a1
theorem bn3(st:Stmt)(x qn:Str){p0 p1 p2:Str}(h:∀(kV doc pm:Value) (an:Option Addr) (cdv ct a0 a1 a2:Value),bindArgs (PySem.W.fnOf x qn (Dj st) (C9 st) (Af st) .none kV doc pm an cdv ct) ⟨[a0,a1,a2],[]⟩=pure [(p0,a0),(p1,a1),(p2,a2)]:=by intros; rfl)(F:Ag K x qn st f fd):AV K fd [p0,p1,p2] []:=F.binds λkV doc pm an cdv ct us hl=>by
 match us,hl with
 | [a0,a1,a2],_=>exact h kV doc pm an cdv ct a0 a1 a2
theorem bn4(st:Stmt)(x qn:Str){p0 p1 p2 p3:Str}(h:∀(kV doc pm:Value) (an:Option Addr) (cdv ct a0 a1 a2 a3:Value),bindArgs (PySem.W.fnOf x qn (Dj st) (C9 st) (Af st) .none kV doc pm an cdv ct) ⟨[a0,a1,a2,a3],[]⟩=pure [(p0,a0),(p1,a1),(p2,a2),(p3,a3)]:=by intros; rfl)(F:Ag K x qn st f fd):AV K fd [p0,p1,p2,p3] []:=F.binds λkV doc pm an cdv ct us hl=>by
 match us,hl with
 | [a0,a1,a2,a3],_=>exact h kV doc pm an cdv ct a0 a1 a2 a3
theorem bn5(st:Stmt)(x qn:Str){p0 p1 p2 p3 p4:Str}(h:∀(kV doc pm:Value) (an:Option Addr) (cdv ct a0 a1 a2 a3 a4:Value),bindArgs (PySem.W.fnOf x qn (Dj st) (C9 st) (Af st) .none kV doc pm an cdv ct) ⟨[a0,a1,a2,a3,a4],[]⟩=pure [(p0,a0),(p1,a1),(p2,a2),(p3,a3),(p4,a4)]:=by intros; rfl)(F:Ag K x qn st f fd):AV K fd [p0,p1,p2,p3,p4] []:=F.binds λkV doc pm an cdv ct us hl=>by
 match us,hl with
 | [a0,a1,a2,a3,a4],_=>exact h kV doc pm an cdv ct a0 a1 a2 a3 a4
theorem bn6(st:Stmt)(x qn:Str){p0 p1 p2 p3 p4 p5:Str}(h:∀(kV doc pm:Value) (an:Option Addr) (cdv ct a0 a1 a2 a3 a4 a5:Value),bindArgs (PySem.W.fnOf x qn (Dj st) (C9 st) (Af st) .none kV doc pm an cdv ct) ⟨[a0,a1,a2,a3,a4,a5],[]⟩=pure [(p0,a0),(p1,a1),(p2,a2),(p3,a3),(p4,a4),(p5,a5)]:=by intros; rfl)(F:Ag K x qn st f fd):AV K fd [p0,p1,p2,p3,p4,p5] []:=F.binds λkV doc pm an cdv ct us hl=>by
 match us,hl with
 | [a0,a1,a2,a3,a4,a5],_=>exact h kV doc pm an cdv ct a0 a1 a2 a3 a4 a5
structure Zq(K:PySem.W.Frag)(x:Str):Prop where
 a:PySem.W.nsIn K mainGlobals x=some none
end
set_option maxHeartbeats 4000000 in
theorem all_mk {l:PySem.W.OpenLaw} {w:World} {K:PySem.W.Frag} {h:Heap} {mg:Str->Option Value} {fa C1 C2 C3 CS CF CN CE f1 f2 f3 f4 f5 f6 f7 f8 f9 f10 f11 f12 f13 f14 f15 f16 f17 f18 f19 f20 f21 f22 f23 f24 f25 f26 f27 f28 f29 f30 f31 f32 f33 f34 f35 f36 f37 f38 f39 f40 f41 f42 f43 f44 f45 f46 f47 f48 f49 f50 f51 f52 f53 f54 f55 f56 f57 f58 f59 f60 f61 f62 f63 f64 f65 f66 f67 f68:Addr} {d1 d2 d3 d4 d5 d6 d7 d8 d9 d10 d11 d12 d13 d14 d15 d16 d17 d18 d19 d20 d21 d22 d23 d24 d25 d26 d27 d28 d29 d30 d31 d32 d33 d34 d35 d36 d37 d38 d39 d40 d41 d42 d43 d44 d45 d46 d47 d48 d49 d50 d51 d52 d53 d54 d55 d56 d57 d58 d59 d60 d61 d62 d63 d64 d65 d66 d67 d68:FuncData} (X:K.In h) (G:h.Ns mainGlobals mg) (hfa:mg "law" = some (.ref fa))
  (aC1:PySem.W.nsIn K mainGlobals "Above" = some (some (.ref C1)))
  (aC2:PySem.W.nsIn K mainGlobals "Beside" = some (some (.ref C2)))
  (aC3:PySem.W.nsIn K mainGlobals "Split" = some (some (.ref C3)))
  (aCS:PySem.W.nsIn K mainGlobals "Step" = some (some (.ref CS)))
  (aCF:PySem.W.nsIn K mainGlobals "FloorError" = some (some (.ref CF)))
  (aCN:PySem.W.nsIn K mainGlobals "NoFit" = some (some (.ref CN)))
  (aCE:PySem.W.nsIn K mainGlobals "NoStep" = some (some (.ref CE)))
  (h1:Dq K "common_part" sCommon ["one","other"] f1 d1)
  (h2:Dq K "fraction" sFraction ["top","bottom"] f2 d2)
  (h3:Dq K "less" sLess ["one","other"] f3 d3)
  (h4:Dq K "common_bottom" sCBot ["row"] f4 d4)
  (h5:Dq K "wholes" sWholes ["row","bottom"] f5 d5)
  (h6:Dq K "rising" s_rising ["one","other"] f6 d6)
  (h7:Dq K "numbers_of" s_numbers_of ["floor"] f7 d7)
  (h8:Dq K "whole_floor" s_whole_floor ["floor","bottom"] f8 d8)
  (h9:Dq K "is_neither" s_is_neither ["rectangle"] f9 d9)
  (h10:Dq K "is_out" s_is_out ["rectangle","width","height"] f10 d10)
  (h11:Dq K "overlap" s_overlap ["one","other"] f11 d11)
  (h12:Dq K "first_overlap" s_first_overlap ["rectangles"] f12 d12)
  (h13:Dq K "borders" s_borders ["rectangles","at","most"] f13 d13)
  (h14:Dq K "covered_cells" s_covered_cells ["columns","rows","rectangles"] f14 d14)
  (h15:Dq K "first_gap" s_first_gap ["width","height","rectangles"] f15 d15)
  (h16:Dq K "looked_whole" s_looked_whole ["width","height","rectangles"] f16 d16)
  (h17:Dq K "looked" s_looked ["floor"] f17 d17)
  (h18:Dq K "covers" s_covers ["floor"] f18 d18)
  (h19:Dq K "is_pair" s_is_pair ["count","j","k"] f19 d19)
  (h20:Dq K "touches" s_touches ["rectangle","level","left","right"] f20 d20)
  (h21:Dq K "common_level" s_common_level ["one","other"] f21 d21)
  (h22:Dq K "is_above" s_is_above ["rectangles","j","k"] f22 d22)
  (h23:Dq K "is_beside" s_is_beside ["rectangles","j","k"] f23 d23)
  (h24:Dq K "together" s_together ["one","other"] f24 d24)
  (h25:Dq K "check_fits" s_check_fits ["step","floor"] f25 d25)
  (h26:Dq K "joined" s_joined ["step","floor"] f26 d26)
  (h27:Dq K "parting" s_parting ["step","floor"] f27 d27)
  (h28:Dq K "step_of" s_step_of ["told"] f28 d28)
  (h29:Dq K "walked" s_walked ["floor","steps"] f29 d29)
  (h30:Dq K "_law_cell_at" sCellAt ["_law_script","_law_k"] f30 d30)
  (h31:Dq K "_law_lowest" s_law_lowest ["_law_top","_law_bottom"] f31 d31)
  (h32:Dq K "_law_wheel" s_law_wheel ["_law_box","_law_x","_law_y","_law_way_here"] f32 d32)
  (h33:Dq K "_law_two" s_law_two ["_law_low","_law_high","_law_cell"] f33 d33)
  (h34:Dq K "_law_broken" s_law_broken ["_law_box","_law_cell"] f34 d34)
  (h35:Dq K "_law_scaled_one" s_law_scaled_one ["_law_number","_law_scale"] f35 d35)
  (h36:Dq K "_law_scaled" s_law_scaled ["_law_box","_law_scale"] f36 d36)
  (h37:Dq K "_law_floor_of" s_law_floor_of ["_law_boxes","_law_wide","_law_high","_law_scale"] f37 d37)
  (h38:Dq K "_law_scale_by" s_law_scale_by ["_law_cell"] f38 d38)
  (h39:Dq K "_law_built" s_law_built ["_law_script","_law_first","_law_last","_law_wide","_law_high","_law_most"] f39 d39)
  (h40:Dq K "_law_side" s_law_side ["_law_cell"] f40 d40)
  (h41:Dq K "_law_above" s_law_above ["_law_boxes","_law_j","_law_k"] f41 d41)
  (h42:Dq K "_law_beside" s_law_beside ["_law_boxes","_law_j","_law_k"] f42 d42)
  (h43:Dq K "_law_fitting" s_law_fitting ["_law_boxes"] f43 d43)
  (h44:Dq K "_law_done" s_law_done ["_law_boxes","_law_j","_law_k"] f44 d44)
  (h45:Dq K "_law_made" s_law_made ["_law_step","_law_way_here"] f45 d45)
  (h46:Dq K "_law_kind" s_law_kind ["_law_step","_law_word"] f46 d46)
  (h47:Dq K "_law_way" s_law_way ["_law_floor","_law_step","_law_behind","_law_back"] f47 d47)
  (h48:Dq K "_law_joined" s_law_joined ["_law_script","_law_boxes","_law_wide","_law_high","_law_scale"] f48 d48)
  (h49:Dq K "_law_refused" s_law_refused ["_law_step","_law_floor"] f49 d49)
  (h50:Dq K "_law_cut" s_law_cut ["_law_box","_law_cell"] f50 d50)
  (h51:Dq K "_law_parted" s_law_parted ["_law_script","_law_boxes","_law_wide","_law_high","_law_scale"] f51 d51)
  (h52:Dq K "law" sLaw ["_law_script"] f52 d52)
  (h53:Dm K C1 "__init__" "Step.__init__" sInit ["self","one","other"] f53 d53)
  (h54:Dm K C1 "fits" "Above.fits" sFitsA ["self","floor"] f54 d54)
  (h55:Dm K C2 "fits" "Beside.fits" sFitsB ["self","floor"] f55 d55)
  (h56:Dm K C1 "done" "Above.done" sDoneA ["self","floor"] f56 d56)
  (h57:Dm K C2 "done" "Beside.done" sDoneB ["self","floor"] f57 d57)
  (h58:Dm K C1 "back" "Above.back" sBackA ["self","floor"] f58 d58)
  (h59:Dm K C2 "back" "Beside.back" sBackB ["self","floor"] f59 d59)
  (h60:Dm K C3 "__init__" "Split.__init__" sInitS ["self","one","other","first","second"] f60 d60)
  (h61:Dm K C3 "made" "Split.made" sMadeS ["self","floor"] f61 d61)
  (h62:Dm K C3 "joining" "Split.joining" sJoiningS ["self"] f62 d62)
  (h63:Dm K C3 "fits" "Split.fits" sFitsS ["self","floor"] f63 d63)
  (h64:Dm K C3 "done" "Split.done" sDoneS ["self","floor"] f64 d64)
  (h65:Dm K C3 "back" "Split.back" sBackS ["self","floor"] f65 d65)
  (h66:Dm K C1 "told" "Above.told" sToldA ["self"] f66 d66)
  (h67:Dm K C2 "told" "Beside.told" sToldB ["self"] f67 d67)
  (h68:Dm K C3 "told" "Split.told" sToldS ["self"] f68 d68)
  (pg1:PySem.W.plainGet K C1 Str.empty=true)
  (hd1:PySem.W.hasDictIn K C1=true)
  (po1:PySem.W.plainOver K C1=true)
  (sa1:PySem.W.findIn K (.ref C1) "__setattr__" = some (some (.builtin "object.__setattr__")))
  (mk1:PySem.W.makesIn K C1=true)
  (kc1:PySem.W.keepIn K (.ref C1)=true)
  (no1:PySem.W.findIn K (.ref C1) "one" = some none)
  (nt1:PySem.W.findIn K (.ref C1) "other" = some none)
  (pg2:PySem.W.plainGet K C2 Str.empty=true)
  (hd2:PySem.W.hasDictIn K C2=true)
  (po2:PySem.W.plainOver K C2=true)
  (sa2:PySem.W.findIn K (.ref C2) "__setattr__" = some (some (.builtin "object.__setattr__")))
  (mk2:PySem.W.makesIn K C2=true)
  (kc2:PySem.W.keepIn K (.ref C2)=true)
  (no2:PySem.W.findIn K (.ref C2) "one" = some none)
  (nt2:PySem.W.findIn K (.ref C2) "other" = some none)
  (pg3:PySem.W.plainGet K C3 Str.empty=true)
  (hd3:PySem.W.hasDictIn K C3=true)
  (po3:PySem.W.plainOver K C3=true)
  (sa3:PySem.W.findIn K (.ref C3) "__setattr__" = some (some (.builtin "object.__setattr__")))
  (mk3:PySem.W.makesIn K C3=true)
  (kc3:PySem.W.keepIn K (.ref C3)=true)
  (no3:PySem.W.findIn K (.ref C3) "one" = some none)
  (nt3:PySem.W.findIn K (.ref C3) "other" = some none)
  (iB:PySem.W.findIn K (.ref C2) "__init__" = some (some (.ref f53)))
  (n3:PySem.W.findIn K (.ref C3) "first" = some none)
  (n4:PySem.W.findIn K (.ref C3) "second" = some none)
  (cs1:PySem.W.specialIn K (.ref CS) "__getattribute__" = some (some (.builtin "type.__getattribute__")))
  (cs2:PySem.W.readsIn K CS (.type "type")=true)
  (cs3:PySem.W.findCls K (.ref CS) (.type "type") "__init__" = some (.val (.ref f53)))
  (xN:PySem.W.excIn K CN [.type "ValueError",.type "Exception",.type "BaseException",.type "object"] "ValueError.__new__" = true)
  (xE:PySem.W.excIn K CE [.type "ValueError",.type "Exception",.type "BaseException",.type "object"] "ValueError.__new__" = true)
  (yNx:PySem.W.exmOne K (.ref CN) (.ref CF)=some true)
  (yNn:PySem.W.kitOne K (.ref CN) (.ref CN)=some true)
  (gN1:PySem.W.findIn K (.ref CN) "__getattribute__" = some (some (.builtin "BaseException.__getattribute__")))
  (gN2:PySem.W.findIn K (.ref CN) "__getattr__" = some none)
  (gN3:PySem.W.findIn K (.ref CN) "__class__" = some (some (.builtin "object.__class__")))
  (gN6:PySem.W.mroIn K CN (.type "object")=some true)
  (gN7:PySem.W.mroIn K CN (.type "BaseException")=some true)
  (gN8:(PySem.W.clsIn K CN).isSome=true)
  (q1a:PySem.W.findIn K (.ref C1) "__class__" = some (some (.builtin "object.__class__")))
  (q1m:PySem.W.mroIn K C1 (.type "object")=some true)
  (q11:PySem.W.kitOne K (.ref C1) (.ref C1)=some true)
  (q12:PySem.W.kitOne K (.ref C1) (.ref C2)=some false)
  (q13:PySem.W.kitOne K (.ref C1) (.ref C3)=some false)
  (q1S:PySem.W.kitOne K (.ref C1) (.ref CS)=some true)
  (q2a:PySem.W.findIn K (.ref C2) "__class__" = some (some (.builtin "object.__class__")))
  (q2m:PySem.W.mroIn K C2 (.type "object")=some true)
  (q21:PySem.W.kitOne K (.ref C2) (.ref C1)=some false)
  (q22:PySem.W.kitOne K (.ref C2) (.ref C2)=some true)
  (q23:PySem.W.kitOne K (.ref C2) (.ref C3)=some false)
  (q2S:PySem.W.kitOne K (.ref C2) (.ref CS)=some true)
  (q3a:PySem.W.findIn K (.ref C3) "__class__" = some (some (.builtin "object.__class__")))
  (q3m:PySem.W.mroIn K C3 (.type "object")=some true)
  (q31:PySem.W.kitOne K (.ref C3) (.ref C1)=some false)
  (q32:PySem.W.kitOne K (.ref C3) (.ref C2)=some false)
  (q33:PySem.W.kitOne K (.ref C3) (.ref C3)=some true)
  (q3S:PySem.W.kitOne K (.ref C3) (.ref CS)=some true)
  (g4:PySem.W.specialIn K (.builtin "object.__class__") "__get__" = some (some (.builtin "getset_descriptor.__get__")))
  (g5:PySem.W.takesIn K (.builtin "object.__class__")=some true)
  (z_abs:Zq K "abs")
  (z_int:Zq K "int")
  (z_len:Zq K "len")
  (z_range:Zq K "range")
  (z_list:Zq K "list")
  (z_tuple:Zq K "tuple")
  (z_isinstance:Zq K "isinstance")
  (z_min:Zq K "min")
  (z_max:Zq K "max")
  (z_enumerate:Zq K "enumerate")
  (z_sorted:Zq K "sorted")
  (z_set:Zq K "set")
  : ∃fd:FuncData,(∀(s:Shared) (v:Value),BindsTo s fd ⟨[v],[]⟩ [("_law_script",v)])/\∀base:Heap,K.In base->base.Ns mainGlobals mg->AG l.prog w K mg base AM 14 fa fd ["_law_script"] (LP K):=by
 have e:=hfa.symm.trans (PySem.W.mg_of X G h52.a);cases e;have ⟨F1,b1,k1,m1⟩:=h1.all X G;have ⟨F2,b2,k2,m2⟩:=h2.all X G;have ⟨F3,b3,k3,m3⟩:=h3.all X G;have ⟨F4,b4,k4,m4⟩:=h4.all X G;have ⟨F5,b5,k5,m5⟩:=h5.all X G;have ⟨F6,b6,k6,m6⟩:=h6.all X G;have ⟨F7,b7,k7,m7⟩:=h7.all X G;have ⟨F8,b8,k8,m8⟩:=h8.all X G;have ⟨F9,b9,k9,m9⟩:=h9.all X G;have ⟨F10,b10,k10,m10⟩:=h10.all X G;have ⟨F11,b11,k11,m11⟩:=h11.all X G;have ⟨F12,b12,k12,m12⟩:=h12.all X G;have ⟨F13,b13,k13,m13⟩:=h13.all X G;have ⟨F14,b14,k14,m14⟩:=h14.all X G;have ⟨F15,b15,k15,m15⟩:=h15.all X G;have ⟨F16,b16,k16,m16⟩:=h16.all X G;have ⟨F17,b17,k17,m17⟩:=h17.all X G;have ⟨F18,b18,k18,m18⟩:=h18.all X G;have ⟨F19,b19,k19,m19⟩:=h19.all X G;have ⟨F20,b20,k20,m20⟩:=h20.all X G;have ⟨F21,b21,k21,m21⟩:=h21.all X G;have ⟨F22,b22,k22,m22⟩:=h22.all X G;have ⟨F23,b23,k23,m23⟩:=h23.all X G;have ⟨F24,b24,k24,m24⟩:=h24.all X G;have ⟨F25,b25,k25,m25⟩:=h25.all X G;have ⟨F26,b26,k26,m26⟩:=h26.all X G;have ⟨F27,b27,k27,m27⟩:=h27.all X G;have ⟨F28,b28,k28,m28⟩:=h28.all X G;have ⟨F29,b29,k29,m29⟩:=h29.all X G;have ⟨F30,b30,k30,m30⟩:=h30.all X G;have ⟨F31,b31,k31,m31⟩:=h31.all X G;have ⟨F32,b32,k32,m32⟩:=h32.all X G;have ⟨F33,b33,k33,m33⟩:=h33.all X G;have ⟨F34,b34,k34,m34⟩:=h34.all X G;have ⟨F35,b35,k35,m35⟩:=h35.all X G;have ⟨F36,b36,k36,m36⟩:=h36.all X G;have ⟨F37,b37,k37,m37⟩:=h37.all X G;have ⟨F38,b38,k38,m38⟩:=h38.all X G;have ⟨F39,b39,k39,m39⟩:=h39.all X G;have ⟨F40,b40,k40,m40⟩:=h40.all X G;have ⟨F41,b41,k41,m41⟩:=h41.all X G;have ⟨F42,b42,k42,m42⟩:=h42.all X G;have ⟨F43,b43,k43,m43⟩:=h43.all X G;have ⟨F44,b44,k44,m44⟩:=h44.all X G;have ⟨F45,b45,k45,m45⟩:=h45.all X G;have ⟨F46,b46,k46,m46⟩:=h46.all X G;have ⟨F47,b47,k47,m47⟩:=h47.all X G;have ⟨F48,b48,k48,m48⟩:=h48.all X G;have ⟨F49,b49,k49,m49⟩:=h49.all X G;have ⟨F50,b50,k50,m50⟩:=h50.all X G;have ⟨F51,b51,k51,m51⟩:=h51.all X G;have ⟨F52,b52,k52,m52⟩:=h52.all X G;have ⟨F53,b53,k53,a53,i53⟩:=h53;have ⟨F54,b54,k54,a54,i54⟩:=h54;have ⟨F55,b55,k55,a55,i55⟩:=h55;have ⟨F56,b56,k56,a56,i56⟩:=h56;have ⟨F57,b57,k57,a57,i57⟩:=h57;have ⟨F58,b58,k58,a58,i58⟩:=h58;have ⟨F59,b59,k59,a59,i59⟩:=h59;have ⟨F60,b60,k60,a60,i60⟩:=h60;have ⟨F61,b61,k61,a61,i61⟩:=h61;have ⟨F62,b62,k62,a62,i62⟩:=h62;have ⟨F63,b63,k63,a63,i63⟩:=h63;have ⟨F64,b64,k64,a64,i64⟩:=h64;have ⟨F65,b65,k65,a65,i65⟩:=h65;have ⟨F66,b66,k66,a66,i66⟩:=h66;have ⟨F67,b67,k67,a67,i67⟩:=h67;have ⟨F68,b68,k68,a68,i68⟩:=h68;have mC1:=PySem.W.mg_of X G aC1;have mC2:=PySem.W.mg_of X G aC2;have mC3:=PySem.W.mg_of X G aC3;have mCS:=PySem.W.mg_of X G aCS;have mCF:=PySem.W.mg_of X G aCF;have mCN:=PySem.W.mg_of X G aCN;have mCE:=PySem.W.mg_of X G aCE;have T1:StC K C1:=⟨⟨pg1,hd1,po1,sa1⟩,no1,nt1⟩;have T2:StC K C2:=⟨⟨pg2,hd2,po2,sa2⟩,no2,nt2⟩;have T3:DQ K C3:=⟨⟨⟨pg3,hd3,po3,sa3⟩,no3,nt3⟩,n3,n4⟩;have CM:L2.M0 K CS "__init__" f53:=⟨cs1,cs2,cs3,k53⟩;have KN:SQ K CN CF:=⟨⟨gN1,gN2,gN3,g4,g5,gN6,gN7,gN8⟩,yNx,yNn⟩;have KD1:Hl K C1 C1 C2 C3 CS true false false:=⟨q1a,g4,g5,q1m,q11,q12,q13,q1S⟩;have KD2:Hl K C2 C1 C2 C3 CS false true false:=⟨q2a,g4,g5,q2m,q21,q22,q23,q2S⟩;have KD3:Hl K C3 C1 C2 C3 CS false false true:=⟨q3a,g4,g5,q3m,q31,q32,q33,q3S⟩;have m_abs:=PySem.W.mg_none_of X G z_abs.a;have m_int:=PySem.W.mg_none_of X G z_int.a;have m_len:=PySem.W.mg_none_of X G z_len.a;have m_range:=PySem.W.mg_none_of X G z_range.a;have m_list:=PySem.W.mg_none_of X G z_list.a;have m_tuple:=PySem.W.mg_none_of X G z_tuple.a;have m_isinstance:=PySem.W.mg_none_of X G z_isinstance.a;have m_min:=PySem.W.mg_none_of X G z_min.a;have m_max:=PySem.W.mg_none_of X G z_max.a;have m_enumerate:=PySem.W.mg_none_of X G z_enumerate.a;have m_sorted:=PySem.W.mg_none_of X G z_sorted.a;have m_set:=PySem.W.mg_none_of X G z_set.a;refine⟨d52,λs v=>by obtain⟨_,_,_,_,_,_,_,_,_,rfl,_⟩:=F52.ex; exact .of_eq rfl,λbase _ _=>?_⟩;have O1:AG l.prog w K mg base AM 1 f1 _ ["one","other"] LR:=Us F1  m_abs;have O2:AG l.prog w K mg base AM 2 f2 _ ["top","bottom"] (LJ CF):=Th F2 O1 b1 k1 m1;have O4:AG l.prog w K mg base AM 2 f4 _ ["row"] M4:=WV F4 O1 b1 k1 m1;have O5:AG l.prog w K mg base AM 1 f5 _ ["row","bottom"] KR:=VT F5;have O7:AG l.prog w K mg base AM 1 f7 _ ["floor"] Mp:=XI F7  m_list;have O8:AG l.prog w K mg base AM 2 f8 _ ["floor","bottom"] N0:=Zf F8 O5 b5 k5 m5;have O9:AG l.prog w K mg base AM 1 f9 _ ["rectangle"] Na:=ZK F9;have O10:AG l.prog w K mg base AM 1 f10 _ ["rectangle","width","height"] NG:=Yo F10;have O11:AG l.prog w K mg base AM 1 f11 _ ["one","other"] NY:=ZL F11  m_max m_min;have O12:AG l.prog w K mg base AM 2 f12 _ ["rectangles"] Nq:=Zb F12 O11 b11 k11 m11 m_enumerate m_range m_len;have O13:AG l.prog w K mg base AM 1 f13 _ ["rectangles","at","most"] N2:=Y4 F13  m_set m_sorted;have O14:AG l.prog w K mg base AM 1 f14 _ ["columns","rows","rectangles"] M6:=X3 F14  m_range;have O15:AG l.prog w K mg base AM 2 f15 _ ["width","height","rectangles"] NW:=ZF F15 O13 b13 k13 m13 O14 b14 k14 m14 m_range m_len;have O16:AG l.prog w K mg base AM 3 f16 _ ["width","height","rectangles"] Nd:=ZQ F16 O9 b9 k9 m9 O10 b10 k10 m10 O12 b12 k12 m12 O15 b15 k15 m15 m_enumerate;have O17:AG l.prog w K mg base AM 4 f17 _ ["floor"] N6:=VJ F17 O7 b7 k7 m7 O2 b2 k2 m2 O4 b4 k4 m4 O16 b16 k16 m16 O8 b8 k8 m8 m_tuple;have O18:AG l.prog w K mg base AM 5 f18 _ ["floor"] Nu:=VE F18 O17 b17 k17 m17;have O3:AG l.prog w K mg base AM 1 f3 _ ["one","other"] IC:=W3 F3;have O19:AG l.prog w K mg base AM 1 f19 _ ["count","j","k"] JA:=Vp F19;have O20:AG l.prog w K mg base AM 2 f20 _ ["rectangle","level","left","right"] NJ:=Tv F20 O3 b3 k3 m3;have O21:AG l.prog w K mg base AM 1 f21 _ ["one","other"] Nf:=WI F21;have O22:AG l.prog w K mg base AM 3 f22 _ ["rectangles","j","k"] (IE Bg):=WR F22 O21 b21 k21 m21 O20 b20 k20 m20 m_enumerate;have O23:AG l.prog w K mg base AM 1 f23 _ ["rectangles","j","k"] (IE BE):=UZ F23;have OBL:AG l.prog w K mg base AM 1 f23 _ ["rectangles","j","k"] (Mn BE):=UE F23;have O53:AG l.prog w K mg base AM 1 f53 _ ["self","one","other"] (Hy K):=W2 F53;have O54:AG l.prog w K mg base AM 4 f54 _ ["self","floor"] (Em C1 Bg):=VX F54 T1 O19 b19 k19 m19 O22 b22 k22 m22 m_len;have O55:AG l.prog w K mg base AM 4 f55 _ ["self","floor"] (Em C2 BE):=Ux F55 T2 O19 b19 k19 m19 O23 b23 k23 m23 m_len;have O6:AG l.prog w K mg base AM 2 f6 _ ["one","other"] ND:=Uu F6 O3 b3 k3 m3;have O24:AG l.prog w K mg base AM 3 f24 _ ["one","other"] NA:=Yx F24 O6 b6 k6 m6;have O60:AG l.prog w K mg base AM 2 f60 _ ["self","one","other","first","second"] (JF K):=Vv F60 mCS CM O53 b53;have OC1:AG l.prog w K mg base (Aj l.prog w) 5 f25 _ ["step","floor"] (FI C1 CN (Em C1 Bg)):=QC F25 T1.cl OR O54 b54 ⟨a54,i54,k54⟩ mCN xN;have OJ1:AG l.prog w K mg base (Aj l.prog w) 6 f26 _ ["step","floor"] (B4 C1 CN Bg):=OT F26 T1 OC1 b25 k25 m25 O24 b24 k24 m24 m_list m_tuple;have OP1:AG l.prog w K mg base (Aj l.prog w) 6 f27 _ ["step","floor"] (Cz C1 C3 CN Bg):=Oa F27 T1 T3 ⟨mk3,a60,i60,kc3⟩ mC3 OC1 b25 k25 m25 O60 b60;have O56:AG l.prog w K mg base (Aj l.prog w) 7 f56 _ ["self","floor"] (B4 C1 CN Bg):=UY F56 OJ1 b26 k26 m26;have O58:AG l.prog w K mg base (Aj l.prog w) 7 f58 _ ["self","floor"] (Cz C1 C3 CN Bg):=VL F58 OP1 b27 k27 m27;have OC2:AG l.prog w K mg base (Aj l.prog w) 5 f25 _ ["step","floor"] (FI C2 CN (Em C2 BE)):=QC F25 T2.cl OR O55 b55 ⟨a55,i55,k55⟩ mCN xN;have OJ2:AG l.prog w K mg base (Aj l.prog w) 6 f26 _ ["step","floor"] (B4 C2 CN BE):=OT F26 T2 OC2 b25 k25 m25 O24 b24 k24 m24 m_list m_tuple;have OP2:AG l.prog w K mg base (Aj l.prog w) 6 f27 _ ["step","floor"] (Cz C2 C3 CN BE):=Oa F27 T2 T3 ⟨mk3,a60,i60,kc3⟩ mC3 OC2 b25 k25 m25 O60 b60;have O57:AG l.prog w K mg base (Aj l.prog w) 7 f57 _ ["self","floor"] (B4 C2 CN BE):=Ui F57 OJ2 b26 k26 m26;have O59:AG l.prog w K mg base (Aj l.prog w) 7 f59 _ ["self","floor"] (Cz C2 C3 CN BE):=Va F59 OP2 b27 k27 m27;have O61:AG l.prog w K mg base AM 1 f61 _ ["self","floor"] (LD C3):=XZ F61 T3 m_list m_tuple;have O62:AG l.prog w K mg base AM 3 f62 _ ["self"] (LZ C1 C2 C3):=UB F62 T1 T2 T3 ⟨mk1,a53,i53,kc1⟩ mC1 ⟨mk2,iB,i53,kc2⟩ mC2 O53 b53 OBL b23 k23 m23;have O63:AG l.prog w K mg base (Aj l.prog w) 8 f63 _ ["self","floor"] (GZ C3):=WE F63 T1 T2 T3 O19 b19 k19 m19 O61 b61 ⟨a61,i61,k61⟩ O62 b62 ⟨a62,i62,k62⟩ O18 b18 k18 m18 O54 b54 ⟨a54,i54,k54⟩ O55 b55 ⟨a55,i55,k55⟩ O56 b56 ⟨a56,i56,k56⟩ O57 b57 ⟨a57,i57,k57⟩ m_len;have OCS:AG l.prog w K mg base (Aj l.prog w) 9 f25 _ ["step","floor"] (FI C3 CN (GZ C3)):=Xm F25 T3.cl O63 b63 ⟨a63,i63,k63⟩ mCN xN;have O64:AG l.prog w K mg base (Aj l.prog w) 10 f64 _ ["self","floor"] (Gi C3 CN):=Vh F64 T3 OCS b25 k25 m25 O61 b61 ⟨a61,i61,k61⟩;have O65:AG l.prog w K mg base (Aj l.prog w) 10 f65 _ ["self","floor"] (IF C1 C2 C3 CN):=Vq F65 T3 OCS b25 k25 m25 O62 b62 ⟨a62,i62,k62⟩;have O28:AG l.prog w K mg base (Aj l.prog w) 4 f28 _ ["told"] (IH C1 C2 C3 CE):=Vx F28 T1 T2 T3 ⟨mk1,a53,i53,kc1⟩ ⟨mk2,iB,i53,kc2⟩ ⟨mk3,a60,i60,kc3⟩ mC1 mC2 mC3 O53 b53 O60 b60 mCE xE;have O29:AG l.prog w K mg base (Aj l.prog w) 11 f29 _ ["floor","steps"] (NL CN CE):=Vn F29 T1 T2 T3 O28 b28 k28 m28 O56 b56 ⟨a56,i56,k56⟩ O57 b57 ⟨a57,i57,k57⟩ O64 b64 ⟨a64,i64,k64⟩;have O30:AG l.prog w K mg base AM 1 f30 _ ["_law_script","_law_k"] (Hz K):=XO F30  m_len;have O31:AG l.prog w K mg base AM 1 f31 _ ["_law_top","_law_bottom"] LK:=Yv F31  m_abs;have O33:AG l.prog w K mg base AM 1 f33 _ ["_law_low","_law_high","_law_cell"] M7:=Yg F33;have O32:AG l.prog w K mg base AM 1 f32 _ ["_law_box","_law_x","_law_y","_law_way_here"] Mf:=Vs F32;have O34:AG l.prog w K mg base AM 2 f34 _ ["_law_box","_law_cell"] MP:=VP F34 O33 b33 k33 m33 O32 b32 k32 m32;have O35:AG l.prog w K mg base AM 2 f35 _ ["_law_number","_law_scale"] Ja:=Yh F35 O31 b31 k31 m31;have O36:AG l.prog w K mg base AM 3 f36 _ ["_law_box","_law_scale"] LV:=YM F36 O35 b35 k35 m35 m_tuple;have O37:AG l.prog w K mg base AM 4 f37 _ ["_law_boxes","_law_wide","_law_high","_law_scale"] LX:=Yk F37 O35 b35 k35 m35 O36 b36 k36 m36 m_tuple;have O38:AG l.prog w K mg base AM 2 f38 _ ["_law_cell"] NO:=YU F38 O31 b31 k31 m31;have O39:AG l.prog w K mg base AM 3 f39 _ ["_law_script","_law_first","_law_last","_law_wide","_law_high","_law_most"] (Mc K):=V5 F39 O30 b30 k30 m30 O34 b34 k34 m34 m_len m_min m_range;have O40:AG l.prog w K mg base AM 1 f40 _ ["_law_cell"] Mi:=Xq F40;have O41:AG l.prog w K mg base AM 1 f41 _ ["_law_boxes","_law_j","_law_k"] (Eo Cb):=Vd F41  m_len m_max m_enumerate;have O42:AG l.prog w K mg base AM 1 f42 _ ["_law_boxes","_law_j","_law_k"] (Eo Bj):=UL F42  m_len;have O43:AG l.prog w K mg base AM 2 f43 _ ["_law_boxes"] Nl:=XM F43 O41 b41 k41 m41 O42 b42 k42 m42 m_len m_range m_tuple m_sorted;have O44:AG l.prog w K mg base AM 1 f44 _ ["_law_boxes","_law_j","_law_k"] Nv:=WJ F44  m_min m_max;have O66:AG l.prog w K mg base AM 1 f66 _ ["self"] (Dp C1 "above"):=WX F66 T1;have O67:AG l.prog w K mg base AM 1 f67 _ ["self"] (Dp C2 "beside"):=Vt F67 T2;have O68:AG l.prog w K mg base AM 1 f68 _ ["self"] (HM C3):=Wb F68 T3;have MD:Ms l.prog w K mg base C1 C2 C3 CN "done" (Aj l.prog w) 7 7 10 ["self","floor"] (B4 C1 CN Bg) (B4 C2 CN BE) (Gi C3 CN) f56 f57 f64 _ _ _:=⟨O56,O57,O64,b56,b57,b64,⟨a56,i56,k56⟩,⟨a57,i57,k57⟩,⟨a64,i64,k64⟩⟩;have MB:Ms l.prog w K mg base C1 C2 C3 CN "back" (Aj l.prog w) 7 7 10 ["self","floor"] (Cz C1 C3 CN Bg) (Cz C2 C3 CN BE) (IF C1 C2 C3 CN) f58 f59 f65 _ _ _:=⟨O58,O59,O65,b58,b59,b65,⟨a58,i58,k58⟩,⟨a59,i59,k59⟩,⟨a65,i65,k65⟩⟩;have MT:Ms l.prog w K mg base C1 C2 C3 CN "told" AM 1 1 1 ["self"] (Dp C1 "above") (Dp C2 "beside") (HM C3) f66 f67 f68 _ _ _:=⟨O66,O67,O68,b66,b67,b68,⟨a66,i66,k66⟩,⟨a67,i67,k67⟩,⟨a68,i68,k68⟩⟩;have O45:AG l.prog w K mg base AM 5 f45 _ ["_law_step","_law_way_here"] (NP C1 C2 C3):=V9 F45  T1 T2 ⟨mk1,a53,i53,kc1⟩ ⟨mk2,iB,i53,kc2⟩ mC1 mC2 O53 b53 O28 b28 k28 m28;have O46:AG l.prog w K mg base AM 1 f46 _ ["_law_step","_law_word"] (Nj C1 C2 C3):=Xd F46  T1 T2 T3 mC1 mC2 mC3 mCS m_isinstance KD1 KD2 KD3;have O47:AG l.prog w K mg base AM 12 f47 _ ["_law_floor","_law_step","_law_behind","_law_back"] (Lm C1 C2 C3):=Ya F47  T1 T2 T3 MD MB MT O28 b28 k28 m28 O29 b29 k29 m29 O46 b46 k46 m46;have O49:AG l.prog w K mg base AM 11 f49 _ ["_law_step","_law_floor"] (NR C1 C2 C3):=Ws F49  T1 T2 T3 MD MB mCF mCN m_isinstance m_int KN;have O50:AG l.prog w K mg base AM 1 f50 _ ["_law_box","_law_cell"] N7:=XB F50;have O48:AG l.prog w K mg base AM 13 f48 _ ["_law_script","_law_boxes","_law_wide","_law_high","_law_scale"] (IQ K):=UG F48  T1 T2 T3 O30 b30 k30 m30 O43 b43 k43 m43 O37 b37 k37 m37 O44 b44 k44 m44 O45 b45 k45 m45 O47 b47 k47 m47 MT m_len;have O51:AG l.prog w K mg base AM 13 f51 _ ["_law_script","_law_boxes","_law_wide","_law_high","_law_scale"] (IQ K):=UO F51  T1 T2 T3 O30 b30 k30 m30 O50 b50 k50 m50 O37 b37 k37 m37 O28 b28 k28 m28 ⟨mk3,a60,i60,kc3⟩ mC3 O60 b60 O47 b47 k47 m47 O41 b41 k41 m41 O42 b42 k42 m42 O49 b49 k49 m49 MT m_len;exact Yz F52 O30 b30 k30 m30 O40 b40 k40 m40 O39 b39 k39 m39 O38 b38 k38 m38 O48 b48 k48 m48 O51 b51 k51 m51
theorem walk {l:PySem.W.OpenLaw} {q:Program} {loose:List Str} {XP:(Str->Option Value)->Heap->Prop} {YP:World->Heap->Prop} {d:DefRec} {K:Params->PySem.W.Frag} (hn:l.most=some 63) (hdf:d.params.defaults=[])
  (hY:∀(w:World) (h:Heap),YP w h->(K w.params).In h)
  (F:∀(w:World) (mg:Str->Option Value) (fa:Addr) (h:Heap),(K w.params).In h->h.Ns mainGlobals mg->mg d.name=some (.ref fa) →
   ∃fd:FuncData,(∀(s:Shared) (u:Value),BindsTo s fd ⟨[u],[]⟩ [("_law_script",u)])/\∀base:Heap,(K w.params).In base->base.Ns mainGlobals mg->AG l.prog w (K w.params) mg base AM 14 fa fd ["_law_script"] (LP (K w.params))) :
  PySem.W.WalkO q loose XP YP l.row.toRowW d [] (λf vs=>PySem.call f vs) :=
 L2.Xj (n:=63) (k:=14) (x:="_law_script") (CX:=λ_=>AM) (sp:=λw=>LP (K w.params)) hn (by decide) hdf ⟨rfl,by decide,by decide⟩ hY F (λ_ _ a ns hl _ hS=>⟨a,ns,rfl,hS,hl,λ_=>rfl⟩) λ_ _ _ _ _ z=>z
end My
namespace PySem.W.Fast
theorem tw11070589559434457633:True:=trivial
theorem tw5317730817860149938:True:=trivial
theorem tw5549092615415889516:True:=trivial
theorem tw2202536964926430416:True:=trivial
theorem tw6331602039252542747:True:=trivial
theorem tw4348185972284238599:True:=trivial
theorem tw6402760202225713887:True:=trivial
theorem tw10246286624293407041:True:=trivial
theorem tw7183973110583115343:True:=trivial
theorem tw18292181284918171118:True:=trivial
theorem tw5540452299672727985:True:=trivial
theorem tw11174123088166231652:True:=trivial
theorem tw18304918379594245855:True:=trivial
theorem tw8739415290893070207:True:=trivial
theorem tw7503449914332633397:True:=trivial
theorem tw15890675749884064855:True:=trivial
theorem tw382384317948905934:True:=trivial
theorem tw18207052700624489130:True:=trivial
theorem tw2354808304602009118:True:=trivial
theorem tw10905138681551685299:True:=trivial
theorem tw7331256523895481521:True:=trivial
theorem tw5598563981769029272:True:=trivial
theorem tw13867692965720647585:True:=trivial
theorem tw15842058177661048986:True:=trivial
theorem tw9469519418092796796:True:=trivial
theorem tw10107056466242289846:True:=trivial
theorem tw16351740697230207354:True:=trivial
theorem tw1931055584584486929:True:=trivial
theorem tw16967892634073333620:True:=trivial
theorem tw9005961678616249476:True:=trivial
theorem tw8579647794021758344:True:=trivial
theorem tw7963630515632256699:True:=trivial
theorem tw7746787688917315862:True:=trivial
theorem tw12164331559418153794:True:=trivial
theorem tw5257454159713855553:True:=trivial
theorem tw297925916672765487:True:=trivial
theorem tw161713917383608699:True:=trivial
theorem tw18097583655757606308:True:=trivial
theorem tw8844582905006358003:True:=trivial
theorem tw8498904356764864581:True:=trivial
theorem tw119220902069339814:True:=trivial
theorem tw17407276208575233491:True:=trivial
theorem tw3446924266483435285:True:=trivial
theorem tw10971259332101745229:True:=trivial
theorem tw15303374046125366429:True:=trivial
theorem tw14385978132658297593:True:=trivial
theorem tw2741169016560464136:True:=trivial
theorem tw14984583450238630405:True:=trivial
theorem tw4222044375810492825:True:=trivial
theorem tw8697110241061536028:True:=trivial
theorem tw174227269281980717:True:=trivial
theorem tw17747107972009801296:True:=trivial
theorem tw12153296998484240680:True:=trivial
theorem tw16275562008568112462:True:=trivial
theorem tw11843801447592982458:True:=trivial
theorem tw8426769486354920551:True:=trivial
theorem tw3093468519887375811:True:=trivial
theorem tw344167613480676107:True:=trivial
theorem tw6608047863723757673:True:=trivial
theorem tw1592297246842362545:True:=trivial
theorem tw10973941450533657226:True:=trivial
theorem tw6976497988426265957:True:=trivial
theorem tw6069899337573051086:True:=trivial
theorem tw14560777336093464322:True:=trivial
theorem tw2698828090070127204:True:=trivial
theorem tw12791570159172988008:True:=trivial
theorem tw9404968816581272513:True:=trivial
theorem tw7042485180902143455:True:=trivial
theorem tw14136271231982194450:True:=trivial
theorem tw10573058051176770096:True:=trivial
theorem tw16106305915408987521:True:=trivial
theorem tw10596722111252550680:True:=trivial
theorem tw15236743726346392252:True:=trivial
theorem tw1370659840182218875:True:=trivial
theorem tw14167333750600262272:True:=trivial
theorem tw1093270316173937063:True:=trivial
theorem tw13448124019152793948:True:=trivial
theorem tw17780628292091129054:True:=trivial
theorem tw7287737841405442145:True:=trivial
theorem tw14111605954210998294:True:=trivial
theorem tw5285935141930949502:True:=trivial
theorem tw3687346376590064563:True:=trivial
theorem tw7636585395887171893:True:=trivial
theorem tw10164866082010580264:True:=trivial
theorem tw7868604141869667414:True:=trivial
theorem tw4458451198631304223:True:=trivial
theorem tw1666425816512589620:True:=trivial
theorem tw3089477877974581967:True:=trivial
theorem tw4593338063478102183:True:=trivial
theorem tw14766566829964154492:True:=trivial
theorem tw7650160061093089338:True:=trivial
theorem tw7532781187837577560:True:=trivial
theorem tw367853298618881914:True:=trivial
theorem tw10348684485590710683:True:=trivial
theorem tw5482882013074676902:True:=trivial
theorem tw16120022843771845590:True:=trivial
theorem tw16624569760612355911:True:=trivial
theorem tw12866311979642799666:True:=trivial
theorem tw7731236026798451077:True:=trivial
theorem tw5185542371185732991:True:=trivial
theorem tw14425522418454970996:True:=trivial
theorem tw10062478935223240005:True:=trivial
theorem tw17570450788382538756:True:=trivial
theorem tw6451214951765003962:True:=trivial
theorem tw8631857105920635841:True:=trivial
theorem tw11888431350166053162:True:=trivial
theorem tw3333203898204555466:True:=trivial
theorem tw3036699056026095871:True:=trivial
theorem tw3094652179893367697:True:=trivial
theorem tw3449507696838955789:True:=trivial
theorem tw9789253250626232830:True:=trivial
theorem te1421391194439587442:True:=trivial
theorem tw9467903174610491432:True:=trivial
theorem tw3546217412953775870:True:=trivial
theorem tw8952766853476887269:True:=trivial
theorem tw14208428970614997639:True:=trivial
theorem tw18108530503721536731:True:=trivial
theorem tw1666284656349187835:True:=trivial
theorem tw18140594421391468864:True:=trivial
theorem tw13537907420695717443:True:=trivial
theorem tw13421010404693300078:True:=trivial
theorem tw3974670502624888087:True:=trivial
theorem tw13478608658141645777:True:=trivial
theorem tw13818057840074331042:True:=trivial
theorem tw2527465446394225885:True:=trivial
theorem tw11941938683254383846:True:=trivial
theorem tw15515422382309471212:True:=trivial
theorem tw5402333770736693415:True:=trivial
theorem tw14683774391988587744:True:=trivial
theorem tw3848386265682083546:True:=trivial
theorem tw12208939542870107563:True:=trivial
theorem tw5318059788827261590:True:=trivial
theorem tw5780454044363242065:True:=trivial
theorem tw11622002366518239084:True:=trivial
theorem tw6028139748533677949:True:=trivial
theorem tw11268371476668735213:True:=trivial
theorem tw849855124852024997:True:=trivial
theorem tw14163741424152056588:True:=trivial
theorem tw17158691890231032518:True:=trivial
theorem tw8787694116019435330:True:=trivial
theorem tw18041663426277011582:True:=trivial
theorem tw3680020159979151224:True:=trivial
theorem tw16784748384463976022:True:=trivial
theorem tw13576212213122380062:True:=trivial
theorem tw6264301702912568941:True:=trivial
theorem tw6657162910434776490:True:=trivial
theorem tw12880480092976366655:True:=trivial
theorem tw11161587781629772850:True:=trivial
theorem tw16928187449920161619:True:=trivial
theorem tw12015851717414916340:True:=trivial
theorem tw6964397645122545181:True:=trivial
theorem tw2625389570751670186:True:=trivial
theorem tw9020844635196432841:True:=trivial
theorem tw8681091663155342302:True:=trivial
theorem tw13103235726613886231:True:=trivial
theorem tw16286367833210221046:True:=trivial
theorem tw2713536201524389174:True:=trivial
theorem tw12533238944358053321:True:=trivial
theorem tw12076477942177141255:True:=trivial
theorem tw5416491605801806827:True:=trivial
theorem tw16956131643290117785:True:=trivial
theorem tw188393348044634354:True:=trivial
theorem tw16266871317824771628:True:=trivial
theorem tw6640198897454163611:True:=trivial
theorem tw12465529224865390147:True:=trivial
theorem tw10430028237211390358:True:=trivial
theorem tw11010998695211167534:True:=trivial
theorem tw3210541251307635526:True:=trivial
theorem tw16625528562068356803:True:=trivial
theorem tw10961402548886188471:True:=trivial
theorem tw3578584099242688439:True:=trivial
theorem tw11309167945574068405:True:=trivial
theorem tw15486615223030826340:True:=trivial
theorem tw17044768452546057199:True:=trivial
theorem tw210424951884257999:True:=trivial
theorem tw6458867909599792651:True:=trivial
end PySem.W.Fast
open PySem PySem.W PyProof.Rows
set_option maxRecDepth 100000 in
set_option maxHeartbeats 0 in
theorem PySem.Challenge.cw_currentfloor_k41_steps_done_and_back_holds : PySem.Challenge.rw_currentfloor_k41_steps_done_and_back.Holds := by
  w_on; o_law; k_head; (case hw => w_witness2)
  k_fill
  refine My.walk (l := PySem.Challenge.rw_currentfloor_k41_steps_done_and_back) rfl rfl (fun w h Y => PySem.W.kIn_of Y) ?F
  case F =>
    intro w mg fa h KX G hmg
    refine' My.all_mk KX G hmg ?_ ?_ ?_ ?_ ?_ ?_ ?_ (My.dq ?_ ?_ ?_ ?_ (My.bn2 My.sCommon _ _)) (My.dq ?_ ?_ ?_ ?_ (My.bn2 My.sFraction _ _)) (My.dq ?_ ?_ ?_ ?_ (My.bn2 My.sLess _ _)) (My.dq ?_ ?_ ?_ ?_ (My.bn1 My.sCBot _ _)) (My.dq ?_ ?_ ?_ ?_ (My.bn2 My.sWholes _ _)) (My.dq ?_ ?_ ?_ ?_ (My.bn2 My.s_rising _ _)) (My.dq ?_ ?_ ?_ ?_ (My.bn1 My.s_numbers_of _ _)) (My.dq ?_ ?_ ?_ ?_ (My.bn2 My.s_whole_floor _ _)) (My.dq ?_ ?_ ?_ ?_ (My.bn1 My.s_is_neither _ _)) (My.dq ?_ ?_ ?_ ?_ (My.bn3 My.s_is_out _ _)) (My.dq ?_ ?_ ?_ ?_ (My.bn2 My.s_overlap _ _)) (My.dq ?_ ?_ ?_ ?_ (My.bn1 My.s_first_overlap _ _)) (My.dq ?_ ?_ ?_ ?_ (My.bn3 My.s_borders _ _)) (My.dq ?_ ?_ ?_ ?_ (My.bn3 My.s_covered_cells _ _)) (My.dq ?_ ?_ ?_ ?_ (My.bn3 My.s_first_gap _ _)) (My.dq ?_ ?_ ?_ ?_ (My.bn3 My.s_looked_whole _ _)) (My.dq ?_ ?_ ?_ ?_ (My.bn1 My.s_looked _ _)) (My.dq ?_ ?_ ?_ ?_ (My.bn1 My.s_covers _ _)) (My.dq ?_ ?_ ?_ ?_ (My.bn3 My.s_is_pair _ _)) (My.dq ?_ ?_ ?_ ?_ (My.bn4 My.s_touches _ _)) (My.dq ?_ ?_ ?_ ?_ (My.bn2 My.s_common_level _ _)) (My.dq ?_ ?_ ?_ ?_ (My.bn3 My.s_is_above _ _)) (My.dq ?_ ?_ ?_ ?_ (My.bn3 My.s_is_beside _ _)) (My.dq ?_ ?_ ?_ ?_ (My.bn2 My.s_together _ _)) (My.dq ?_ ?_ ?_ ?_ (My.bn2 My.s_check_fits _ _)) (My.dq ?_ ?_ ?_ ?_ (My.bn2 My.s_joined _ _)) (My.dq ?_ ?_ ?_ ?_ (My.bn2 My.s_parting _ _)) (My.dq ?_ ?_ ?_ ?_ (My.bn1 My.s_step_of _ _)) (My.dq ?_ ?_ ?_ ?_ (My.bn2 My.s_walked _ _)) (My.dq ?_ ?_ ?_ ?_ (My.bn2 My.sCellAt _ _)) (My.dq ?_ ?_ ?_ ?_ (My.bn2 My.s_law_lowest _ _)) (My.dq ?_ ?_ ?_ ?_ (My.bn4 My.s_law_wheel _ _)) (My.dq ?_ ?_ ?_ ?_ (My.bn3 My.s_law_two _ _)) (My.dq ?_ ?_ ?_ ?_ (My.bn2 My.s_law_broken _ _)) (My.dq ?_ ?_ ?_ ?_ (My.bn2 My.s_law_scaled_one _ _)) (My.dq ?_ ?_ ?_ ?_ (My.bn2 My.s_law_scaled _ _)) (My.dq ?_ ?_ ?_ ?_ (My.bn4 My.s_law_floor_of _ _)) (My.dq ?_ ?_ ?_ ?_ (My.bn1 My.s_law_scale_by _ _)) (My.dq ?_ ?_ ?_ ?_ (My.bn6 My.s_law_built _ _)) (My.dq ?_ ?_ ?_ ?_ (My.bn1 My.s_law_side _ _)) (My.dq ?_ ?_ ?_ ?_ (My.bn3 My.s_law_above _ _)) (My.dq ?_ ?_ ?_ ?_ (My.bn3 My.s_law_beside _ _)) (My.dq ?_ ?_ ?_ ?_ (My.bn1 My.s_law_fitting _ _)) (My.dq ?_ ?_ ?_ ?_ (My.bn3 My.s_law_done _ _)) (My.dq ?_ ?_ ?_ ?_ (My.bn2 My.s_law_made _ _)) (My.dq ?_ ?_ ?_ ?_ (My.bn2 My.s_law_kind _ _)) (My.dq ?_ ?_ ?_ ?_ (My.bn4 My.s_law_way _ _)) (My.dq ?_ ?_ ?_ ?_ (My.bn5 My.s_law_joined _ _)) (My.dq ?_ ?_ ?_ ?_ (My.bn2 My.s_law_refused _ _)) (My.dq ?_ ?_ ?_ ?_ (My.bn2 My.s_law_cut _ _)) (My.dq ?_ ?_ ?_ ?_ (My.bn5 My.s_law_parted _ _)) (My.dq ?_ ?_ ?_ ?_ (My.bn1 My.sLaw _ _)) (My.dm ?_ ?_ ?_ ?_ ?_ (My.bn3 My.sInit _ _)) (My.dm ?_ ?_ ?_ ?_ ?_ (My.bn2 My.sFitsA _ _)) (My.dm ?_ ?_ ?_ ?_ ?_ (My.bn2 My.sFitsB _ _)) (My.dm ?_ ?_ ?_ ?_ ?_ (My.bn2 My.sDoneA _ _)) (My.dm ?_ ?_ ?_ ?_ ?_ (My.bn2 My.sDoneB _ _)) (My.dm ?_ ?_ ?_ ?_ ?_ (My.bn2 My.sBackA _ _)) (My.dm ?_ ?_ ?_ ?_ ?_ (My.bn2 My.sBackB _ _)) (My.dm ?_ ?_ ?_ ?_ ?_ (My.bn5 My.sInitS _ _)) (My.dm ?_ ?_ ?_ ?_ ?_ (My.bn2 My.sMadeS _ _)) (My.dm ?_ ?_ ?_ ?_ ?_ (My.bn1 My.sJoiningS _ _)) (My.dm ?_ ?_ ?_ ?_ ?_ (My.bn2 My.sFitsS _ _)) (My.dm ?_ ?_ ?_ ?_ ?_ (My.bn2 My.sDoneS _ _)) (My.dm ?_ ?_ ?_ ?_ ?_ (My.bn2 My.sBackS _ _)) (My.dm ?_ ?_ ?_ ?_ ?_ (My.bn1 My.sToldA _ _)) (My.dm ?_ ?_ ?_ ?_ ?_ (My.bn1 My.sToldB _ _)) (My.dm ?_ ?_ ?_ ?_ ?_ (My.bn1 My.sToldS _ _)) ?_ ?_ ?_ ?_ ?_ ?_ ?_ ?_ ?_ ?_ ?_ ?_ ?_ ?_ ?_ ?_ ?_ ?_ ?_ ?_ ?_ ?_ ?_ ?_ ?_ ?_ ?_ ?_ ?_ ?_ ?_ ?_ ?_ ?_ ?_ ?_ ?_ ?_ ?_ ?_ ?_ ?_ ?_ ?_ ?_ ?_ ?_ ?_ ?_ ?_ ?_ ?_ ?_ ?_ ?_ ?_ ?_ ?_ ?_ ?_ ⟨?_⟩ ⟨?_⟩ ⟨?_⟩ ⟨?_⟩ ⟨?_⟩ ⟨?_⟩ ⟨?_⟩ ⟨?_⟩ ⟨?_⟩ ⟨?_⟩ ⟨?_⟩ ⟨?_⟩
    all_goals try first | k_is | k_exc | kernel_rfl
