import PyProof.Rows.All
import Wide.All
import OpenK.AllK
import Wide.FinOn
import Lean
import PyProof.EqAt
import PyProof.EqKinds
import PyProof.TupleCall
import PySem.Challenge.RW_currentfloor_k53_sizes_refused
noncomputable section
set_option Elab.async false
set_option linter.all false
set_option maxRecDepth 100000
namespace L2
open PySem PySem.Spec PyProof.Rows
abbrev Key:=Sum Int Str
def keyIs:Key->Value->Bool
 | .inl k,v=>Value.isInt k v
 | .inr x,v=>Value.isStrOf x v
def keyH(w:World):Key->Int
 | .inl k=>hashInt k
 | .inr x=>hashStr w x
theorem zax:∀{k:Key} {v:Value},keyIs k v=true->(∃i t,k=Sum.inl i/\v=Value.int i t)\/(∃x t,k=Sum.inr x/\v=Value.str x t)
 | .inl i,v,h=>by
  obtain⟨t,e⟩:=Value.isInt_shape (k:=i) (v:=v) h;exact .inl ⟨i,t,rfl,e⟩
 | .inr x,v,h=>by
  obtain⟨t,e⟩:=Value.isStrOf_shape (x:=x) (v:=v) h;exact .inr ⟨x,t,rfl,e⟩
theorem zm6(i:Int)(t:Tok):keyIs (.inl i) (.int i t)=true:=by simp[keyIs,Value.isInt]
theorem zm5(x:Str)(t:Tok):keyIs (.inr x) (.str x t)=true:=by simp[keyIs,Value.isStrOf]
theorem key_ll(a b:Int):decide ((Sum.inl a:Key)=Sum.inl b)=(a == b):=by
 by_cases e:a=b
 ·subst e; simp
 ·have h:¬(Sum.inl a:Key)=Sum.inl b:=fun q=>e (Sum.inl.inj q)
  rw[decide_eq_false h];exact(beq_eq_false_iff_ne.mpr e).symm
theorem key_rr(a b:Str):decide ((Sum.inr a:Key)=Sum.inr b)=decide (a=b):=by
 by_cases e:a=b
 ·subst e; simp
 ·have h:¬(Sum.inr a:Key)=Sum.inr b:=fun q=>e (Sum.inr.inj q)
  rw[decide_eq_false h,decide_eq_false e]
theorem key_lr(a:Int)(b:Str):decide ((Sum.inl a:Key)=Sum.inr b)=false:=decide_eq_false (fun q=>nomatch q)
theorem key_rl(a:Str)(b:Int):decide ((Sum.inr a:Key)=Sum.inl b)=false:=decide_eq_false (fun q=>nomatch q)
def mixKind(prog:Program)(w:World):PySem.KeyKind prog w Key where
 is:=keyIs
 hash:=keyH w
 inj:=fun v a b ha hb=>by
  rcases zax ha with ⟨i,t,rfl,rfl⟩ | ⟨x,t,rfl,rfl⟩
  ·rcases zax hb with ⟨j,u,rfl,e⟩ | ⟨y,u,rfl,e⟩
   ·injection e with e1 _; rw[e1]
   ·exact nomatch e
  ·rcases zax hb with ⟨j,u,rfl,e⟩ | ⟨y,u,rfl,e⟩
   ·exact nomatch e
   ·injection e with e1 _; rw[e1]
 byValue:=fun k v h=>by
  rcases zax h with ⟨i,t,rfl,rfl⟩ | ⟨x,t,rfl,rfl⟩ <;> rfl
 pyHash:=fun hv h=>by
  rcases zax hv with ⟨i,t,rfl,rfl⟩ | ⟨x,t,rfl,rfl⟩
  ·exact wpAny_pyHash_int h
  ·exact wpAny_pyHash_str h
 eqBool:=fun hu hv h=>by
  rcases zax hu with ⟨i,t,rfl,rfl⟩ | ⟨x,t,rfl,rfl⟩
  ·rcases zax hv with ⟨j,u,rfl,rfl⟩ | ⟨y,u,rfl,rfl⟩
   ·rw[key_ll] at h; exact wpAny_eqBool_int h
   ·rw[key_lr] at h; exact SeqAt.EqAt.int_str i t y u _ _ _ _ h
  ·rcases zax hv with ⟨j,u,rfl,rfl⟩ | ⟨y,u,rfl,rfl⟩
   ·rw[key_rl] at h; exact SeqAt.EqAt.str_int x t j u _ _ _ _ h
   ·rw[key_rr] at h; exact wpAny_eqBool_str h
 «strs»:=fun k x t v h=>by
  rcases zax h with ⟨i,u,rfl,e⟩ | ⟨y,u,rfl,e⟩
  ·exact nomatch e
  ·injection e with e1 _
   subst e1;cases v <;> rfl
theorem zhv(prog:Program)(w:World)(i:Int)(t:Tok):(mixKind prog w).is (.inl i) (.int i t)=true:=zm6 i t
theorem zhu(prog:Program)(w:World)(x:Str)(t:Tok):(mixKind prog w).is (.inr x) (.str x t)=true:=zm5 x t
inductive V where
 | non | bl (b:Bool) | int (i:Int) | str (x:Str) | byt (b:Array UInt8) | flt (b:UInt64) | ref (a:Addr) | ty (n:String)
 deriving DecidableEq
def RelV:V->Value->Prop
 | .non,u=>u=Value.none
 | .bl b,u=>u=Value.bool b
 | .int i,u=>∃t,u=Value.int i t
 | .str x,u=>∃t,u=Value.str x t
 | .byt b,u=>∃t,u=Value.bytes b t
 | .flt b,u=>∃t,u=Value.float b t
 | .ref a,u=>u=Value.ref a
 | .ty n,u=>u=Value.type n
abbrev Vals:List V->List Value->Prop:=Paired RelV
theorem Vals.length{xs:List V}{us:List Value}(r:Vals xs us):xs.length=us.length:=Paired.length r
theorem Vals.get:∀{xs:List V} {us:List Value} {i:Nat} {x:V},Vals xs us->xs[i]?=some x->∃u,us[i]?=some u/\RelV x u
 | _,_,_,_,.nil,e=>by simp at e
 | _,_,0,_,.cons r _,e=>by simp at e; subst e; exact⟨_,rfl,r⟩
 | _,_,i+1,x,.cons _ t,e=>by
  obtain⟨u,h1,h2⟩:=Vals.get (i:=i) (x:=x) t (by simpa using e);exact⟨u,by simpa using h1,h2⟩
theorem Vals.set{x:V}{u:Value}(r:RelV x u):∀{xs:List V} {us:List Value} (i:Nat),Vals xs us->Vals (xs.set i x) (us.set i u)
 | _,_,_,.nil=>.nil
 | _,_,0,.cons _ t=>.cons r t
 | _,_,i+1,.cons q t=>.cons q (Vals.set r i t)
theorem Vals.append:∀{xs ys:List V} {us ws:List Value},Vals xs us->Vals ys ws->Vals (xs++ys) (us++ws)
 | _,_,_,_,.nil,s=>s
 | _,_,_,_,.cons r t,s=>.cons r (Vals.append t s)
theorem Vals.take:∀{xs:List V} {us:List Value} (n:Nat),Vals xs us->Vals (xs.take n) (us.take n)
 | _,_,0,_=>.nil
 | _,_,_+1,.nil=>.nil
 | _,_,n+1,.cons r t=>.cons r (Vals.take n t)
theorem Vals.drop:∀{xs:List V} {us:List Value} (n:Nat),Vals xs us->Vals (xs.drop n) (us.drop n)
 | _,_,0,r=>r
 | _,_,_+1,.nil=>.nil
 | _,_,n+1,.cons _ t=>Vals.drop n t
def RelO:Option V->Option Value->Prop
 | some v,some u=>RelV v u
 | none,none=>True
 | _,_=>False
def KV{κ:Type}:List (κ×V)->List (κ×Value)->Prop:=Paired fun (p:κ×V) (q:κ×Value)=>p.1=q.1/\RelV p.2 q.2
def kV:Key->V
 | .inl i=>.int i
 | .inr x=>.str x
inductive HO where
  | lst (xs:List V)
  | tup (xs:List V)
  | dK (kvs:List (Key×V)) | dT (kvs:List (List Key×V))
  | set (S:Int->Bool) (n:Nat)
  | ins (C dx:Addr) (fs:List (Str×V))
  | own (x:Addr)
  | xd (fs:List (Str×V))
  | met (f x:Addr)
  | rng (lo hi:Int)
  | frz (o:Obj) (u:HO)
  | tbl (ps:Array Value)
  | ext (φ:Heap->Prop)
abbrev Hp:=Addr->Option HO
def upd(H:Hp)(a:Addr)(o:HO):Hp:=fun b=>if b=a then some o else H b
theorem za1{H:Hp}{a:Addr}{o:HO}:upd H a o a=some o:=by unfold upd; rw[if_pos rfl]
theorem upd_ne{H:Hp}{a b:Addr}{o:HO}(h:b≠a):upd H a o b=H b:=by unfold upd; rw[if_neg h]
theorem zq2{H:Hp}{a:Addr}{o u:HO}:upd (upd H a o) a u=upd H a u:=by
 funext b; unfold upd; split <;> rfl
theorem ne_of{H:Hp}{a b:Addr}{o u:HO}(h:H a=some o)(h':H b=some u)(d:o≠u):a≠b:=by
 intro e; subst e; rw[h] at h'; exact d (Option.some.inj h')
theorem ne_of_none{H:Hp}{a b:Addr}{o:HO}(h:H a=some o)(h':H b=none):a≠b:=by
 intro e; subst e; rw[h] at h'; cases h'
section
variable (P:Program) (w:World)
def ObjOk(H:Hp)(h:Heap)(a:Addr):HO->Prop
 | .lst xs=>xs.length<=sizeLine/\∃(its:List Value) (n:Nat),Vals xs its/\h.get? a=some { cls:=.type "list",data:=.seq its.toArray n }
 | .tup xs=>xs.length<=sizeLine/\∃its:List Value,Vals xs its/\IsTup h a its.toArray/\∃o,h.get? a=some o/\o.dict=none
 | .dK kvs=>kvs.length<=sizeLine/\(a == sysModules)=false/\∃vs,KV kvs vs/\h.DictOf (mixKind P w) a vs
 | .dT kvs=>kvs.length<=sizeLine/\(a == sysModules)=false/\∃xs:List (List Key×Addr×Value),
   Paired (fun (p:List Key×V) (q:List Key×Addr×Value)=>p.1=q.1/\H q.2.1=some (.tup (p.1.map kV))/\RelV p.2 q.2.2) kvs xs /\
   ∃o es ep,h.get? a=some o/\o.ExactDict/\o.data=.dict es ep/\es.toList=xs.map (entryOfKey (tupleKind (mixKind P w)))/\(xs.map (·.1)).Nodup
 | .set S n=>h.SetOf (intKind P w) a S n
 | .ins C dx fs=>H dx=some (.own a)/\fs.length<=1000/\dx≠a/\h.get? a=some (PySem.W.instObj C dx) /\
   ∃mA,h.Ns1 dx mA/\(∀f,RelO (fs.lookup f) (mA f))/\PySem.Within mA (fs.map (·.1))
 | .own _=>∃o,h.get? a=some o
 | .xd fs=>∃mA,h.Ns1 a mA/\∀f,RelO (fs.lookup f) (mA f)
 | .rng lo hi=>∃t u v,h.get? a=some { cls:=.type "range",data:=.fields #[.int lo t,.int hi u,.int 1 v] }
 | .frz o u=>h.get? a=some o/\ObjOk H h a u
 | .tbl ps=>h.get? a=some { cls:=.none,data:=.fields ps }
 | .met f x=>h.get? a=some (PySem.W.methodObj (.ref f) (.ref x))
 | .ext φ=>φ h/\(∃o,h.get? a=some o)/\∀h1 h2:Heap,φ h1->(∀o,h1.get? a=some o->h2.get? a=some o)->φ h2
def HOk(H:Hp)(h:Heap):Prop:=∀a o,H a=some o->ObjOk P w H h a o
end
section
variable {P:Program} {w:World} {H H':Hp} {h h':Heap} {a:Addr} {o:HO}
theorem ObjOk.lt(x:ObjOk P w H h a o):a<h.objs.size:=by
 cases o with
 | lst xs=>obtain⟨_,_,_,_,e⟩:=x; exact Heap.lt_size e
 | tup xs=>obtain⟨_,_,_,p,_⟩:=x; exact p.lt
 | dK kvs=>obtain⟨_,_,_,_,o,_,_,e,_⟩:=x; exact Heap.lt_size e
 | dT kvs=>obtain⟨_,_,_,_,o,_,_,e,_⟩:=x; exact Heap.lt_size e
 | set S n=>obtain⟨o,_,_,_,e,_⟩:=x; exact Heap.lt_size e
 | ins C dx fs=>obtain⟨_,_,_,e,_⟩:=x; exact Heap.lt_size e
 | own y=>obtain⟨_,e⟩:=x; exact Heap.lt_size e
 | xd fs=>obtain⟨_,⟨_,_,_,e,_⟩,_⟩:=x; exact Heap.lt_size e
 | rng lo hi=>obtain⟨_,_,_,e⟩:=x; exact Heap.lt_size e
 | frz ob u=>obtain⟨e,_⟩:=x; exact Heap.lt_size e
 | tbl ps=>exact Heap.lt_size (show h.get? a=some _ from x)
 | met f y=>exact Heap.lt_size (show h.get? a=some _ from x)
 | ext φ=>obtain⟨_,⟨_,e⟩,_⟩:=x; exact Heap.lt_size e
theorem Paired.mapP{α β:Type}{F G:α->β->Prop}:∀{l₁:List α} {l₂:List β},Paired F l₁ l₂->(∀a b,F a b->G a b)->Paired G l₁ l₂
 | _,_,.nil,_=>.nil
 | _,_,.cons r t,f=>.cons (f _ _ r) (Paired.mapP t f)
theorem ObjOk.stay (x:ObjOk P w H h a o) (k:∀b u,(b=a\/H b=some (.own a))->h.get? b=some u->h'.get? b=some u)
  (ho:∀b,H b=some (.own a)->H' b=some (.own a)) (ht:∀b xs,H b=some (.tup xs)->H' b=some (.tup xs)):ObjOk P w H' h' a o:=by
 induction o with
 | lst xs=>obtain⟨z,its,n,r,e⟩:=x; exact⟨z,its,n,r,k _ _ (.inl rfl) e⟩
 | tup xs=>obtain⟨z,its,r,⟨ob,e,c⟩,ob2,e2,c2⟩:=x; exact⟨z,its,r,⟨ob,k _ _ (.inl rfl) e,c⟩,ob2,k _ _ (.inl rfl) e2,c2⟩
 | dK kvs=>obtain⟨z,y,vs,r,ob,es,ep,e,c⟩:=x; exact⟨z,y,vs,r,ob,es,ep,k _ _ (.inl rfl) e,c⟩
 | dT kvs =>
  obtain⟨z,y,xs,r,ob,es,ep,e,c⟩:=x;exact⟨z,y,xs,Paired.mapP r fun p q z=>⟨z.1,ht _ _ z.2.1,z.2.2⟩,ob,es,ep,k _ _ (.inl rfl) e,c⟩
 | set S n=>obtain⟨ob,es,ep,t,e,c⟩:=x; exact⟨ob,es,ep,t,k _ _ (.inl rfl) e,c⟩
 | ins C dx fs =>
  obtain⟨d,z,ne,e,mA,⟨od,es,ep,e2,c⟩,r⟩:=x;exact⟨ho _ d,z,ne,k _ _ (.inl rfl) e,mA,⟨od,es,ep,k _ _ (.inr d) e2,c⟩,r⟩
 | own y=>obtain⟨ob,e⟩:=x; exact⟨ob,k _ _ (.inl rfl) e⟩
 | xd fs=>obtain⟨mA,⟨od,es,ep,e,c⟩,r⟩:=x; exact⟨mA,⟨od,es,ep,k _ _ (.inl rfl) e,c⟩,r⟩
 | rng lo hi=>obtain⟨t,u,v,e⟩:=x; exact⟨t,u,v,k _ _ (.inl rfl) e⟩
 | frz ob u ih=>obtain⟨e,q⟩:=x; exact⟨k _ _ (.inl rfl) e,ih q⟩
 | tbl ps =>
  have e:h.get? a=some { cls:=.none,data:=.fields ps }:=x;show h'.get? a=some { cls:=.none,data:=.fields ps };exact k a _ (.inl rfl) e
 | met f y =>
  have e:h.get? a=some (PySem.W.methodObj (.ref f) (.ref y)):=x;show h'.get? a=some (PySem.W.methodObj (.ref f) (.ref y));exact k a _ (.inl rfl) e
 | ext φ=>obtain⟨p,⟨o,e⟩,st⟩:=x; exact⟨st _ _ p fun o q=>k _ _ (.inl rfl) q,⟨o,k _ _ (.inl rfl) e⟩,st⟩
theorem HOk.lt(x:HOk P w H h)(e:H a=some o):a<h.objs.size:=(x a o e).lt
theorem HOk.fresh(x:HOk P w H h)(e:h.objs.size<=a):H a=none:=by
 cases q:H a with
 | none=>rfl
 | some u=>exact absurd (Nat.lt_of_lt_of_le (x.lt q) e) (Nat.lt_irrefl _)
theorem HOk.kept(x:HOk P w H h)(k:∀b u,h.get? b=some u->h'.get? b=some u):HOk P w H h':=fun a o e =>
 (x a o e).stay (fun b u _ q=>k b u q) (fun _ q=>q) fun _ _ q=>q
theorem HOk.laid(x:HOk P w H h)(k:∀b u,h.get? b=some u->h'.get? b=some u)(hp:h.objs.size<=a)(new:ObjOk P w (upd H a o) h' a o):HOk P w (upd H a o) h':=fun b u e=>by
 have hn:=x.fresh hp;by_cases hb:b=a
 ·subst hb; rw[za1] at e; cases e; exact new
 ·rw[upd_ne hb] at e;exact(x b u e).stay (fun c v _ q=>k c v q) (fun c q=>by rw[upd_ne (ne_of_none q hn)]; exact q) fun c xs q=>by rw[upd_ne (ne_of_none q hn)]; exact q
end
def Rd(H:Hp)(a:Addr)(u:HO):Prop:=H a=some u\/∃o,H a=some (.frz o u)
theorem Rd.of{H:Hp}{a:Addr}{u:HO}(h:H a=some u):Rd H a u:=.inl h
theorem Rd.ok{P:Program}{w:World}{H:Hp}{h:Heap}{a:Addr}{u:HO}(r:Rd H a u)(x:HOk P w H h):ObjOk P w H h a u:=by
 rcases r with r | ⟨o,r⟩
 ·exact x a u r
 ·obtain⟨_,q⟩:=x a _ r;exact q
def Mut:Option HO->Prop
 | some (.lst _)=>True
 | some (.dK _)=>True
 | some (.dT _)=>True
 | some (.set _ _)=>True
 | some (.ins _ _ _)=>True
 | some (.ext _)=>True
 | _=>False
section
variable {P:Program} {w:World} {H:Hp} {h h':Heap} {x e:Addr} {o':HO}
theorem HOk.write (ok:HOk P w H h) (mu:Mut (H x)) (he:e=x\/H e=some (.own x)) (k:∀b u,b≠e->h.get? b=some u->h'.get? b=some u) (heo:∃u,h'.get? e=some u)
  (new:ObjOk P w (upd H x o') h' x o'):HOk P w (upd H x o') h':=fun b u q=>by
 have nown:∀c y,H c=some (.own y)->c≠x:=fun c y r z=>by subst z; rw[r] at mu; exact mu
 have ntup:∀c xs,H c=some (.tup xs)->c≠x:=fun c xs r z=>by subst z; rw[r] at mu; exact mu
 by_cases hb:b=x
 ·subst hb; rw[za1] at q; cases q; exact new
 ·rw[upd_ne hb] at q;by_cases hbe:b=e
  ·have q':H b=some (.own x):=by
    rcases he with z | z
    ·exact absurd (hbe.trans z) hb
    ·rw[hbe]; exact z
   rw[q] at q'; cases q';obtain⟨v,hv⟩:=heo;exact⟨v,by rw[hbe]; exact hv⟩
  ·refine(ok b u q).stay (fun c v hc r=>k c v ?_ r) (fun c r=>by rw[upd_ne (nown c b r)]; exact r) fun c xs r=>by rw[upd_ne (ntup c xs r)]; exact r
   rcases hc with rfl | hc
   ·exact hbe
   ·rintro rfl;rcases he with z | z
    ·exact nown c b hc z
    ·rw[hc] at z; cases z; exact hb rfl
end
structure Un(fs ex:List Addr)(H H':Hp)(h h':Heap):Prop where
 keep:∀b o,h.get? b=some o->H b=none->b∉fs->b∉ex->h'.get? b=some o
 slot:∀b o,h.get? b=some o->H b=none->b∈fs->b∉ex->∃sl,h'.get? b=some { o with slots:=sl }
 free:∀b o,h.get? b=some o->H b=none->b∉ex->H' b=none
 there:∀b o,h.get? b=some o->b∉ex->∃o',h'.get? b=some o'
 tups:∀b xs,H b=some (.tup xs)->H' b=some (.tup xs)
 frzs:∀b o u,H b=some (.frz o u)->H' b=some (.frz o u)
 tbls:∀b ps,H b=some (.tbl ps)->∃more,H' b=some (.tbl (ps++more))
section
variable {fs fs' ex ex':List Addr} {H H1 H2:Hp} {h h1 h2 h':Heap} {a x e:Addr} {o:HO}
theorem Un.any(u:Un fs ex H H1 h h1){b:Addr}{ob:Obj}(q:h.get? b=some ob)(n:H b=none)(hx:b∉ex):∃sl,h1.get? b=some { ob with slots:=sl }:=by
 by_cases hb:b∈fs
 ·exact u.slot b ob q n hb hx
 ·exact⟨ob.slots,u.keep b ob q n hb hx⟩
theorem Un.trans(a:Un fs ex H H1 h h1)(b:Un fs ex H1 H2 h1 h2):Un fs ex H H2 h h2 where
 keep:=fun c ob q n hc hx=>b.keep c ob (a.keep c ob q n hc hx) (a.free c ob q n hx) hc hx
 slot:=fun c ob q n hc hx=>by
  obtain⟨sl,e1⟩:=a.slot c ob q n hc hx;obtain⟨sl',e2⟩:=b.slot c _ e1 (a.free c ob q n hx) hc hx;exact⟨sl',e2⟩
 free:=fun c ob q n hx=>by
  obtain⟨o',e1⟩:=a.there c ob q hx;exact b.free c o' e1 (a.free c ob q n hx) hx
 there:=fun c ob q hx=>by
  obtain⟨o',e1⟩:=a.there c ob q hx;exact b.there c o' e1 hx
 tups:=fun c xs q=>b.tups c xs (a.tups c xs q)
 frzs:=fun c ob xs q=>b.frzs c ob xs (a.frzs c ob xs q)
 tbls:=fun c ps q=>by
  obtain⟨m1,e1⟩:=a.tbls c ps q;obtain⟨m2,e2⟩:=b.tbls c _ e1;exact⟨m1++m2,by rw[e2,Array.append_assoc]⟩
theorem Un.kept(k:∀b u,h.get? b=some u->h'.get? b=some u):Un fs ex H H h h' :=
 ⟨fun b ob q _ _ _=>k b ob q,fun b ob q _ _ _=>⟨ob.slots,k b ob q⟩,fun _ _ _ n _=>n,fun b ob q _=>⟨ob,k b ob q⟩,fun _ _ q=>q,fun _ _ _ q=>q,fun _ ps q=>⟨#[],by rw[q]; simp⟩⟩
theorem Un.refl:Un fs ex H H h h:=Un.kept fun _ _ q=>q
theorem Un.laid(k:∀b u,h.get? b=some u->h'.get? b=some u)(hp:h.objs.size<=a)(hn:H a=none):Un fs ex H (upd H a o) h h' where
 keep:=fun b u q _ _ _=>k b u q
 slot:=fun b u q _ _ _=>⟨u.slots,k b u q⟩
 free:=fun b u q n _=>by rw[upd_ne (Nat.ne_of_lt (Nat.lt_of_lt_of_le (Heap.lt_size q) hp))]; exact n
 there:=fun b u q _=>⟨u,k b u q⟩
 tups:=fun b xs q=>by rw[upd_ne (ne_of_none q hn)]; exact q
 frzs:=fun b u xs q=>by rw[upd_ne (ne_of_none q hn)]; exact q
 tbls:=fun b ps q=>⟨#[],by rw[upd_ne (ne_of_none q hn),q]; simp⟩
theorem Un.write(mu:Mut (H x))(he:e=x\/H e=some (.own x))(k:∀b u,b≠e->h.get? b=some u->h'.get? b=some u)(heo:∃u,h'.get? e=some u):Un fs ex H (upd H x o) h h':=by
 have hx:∀b,H b=none->b≠x:=fun b n z=>by subst z; rw[n] at mu; exact mu
 have hb:∀b,H b=none->b≠e:=fun b n z=>by
  subst z;rcases he with r | r
  ·exact hx b n r
  ·rw[n] at r; cases r
 have hm:∀b u,H b=some u->¬Mut (some u)->b≠x:=fun b u q nm z=>by subst z; rw[q] at mu; exact nm mu
 refine⟨fun b u q n _ _=>k b u (hb b n) q,fun b u q n _ _=>⟨u.slots,k b u (hb b n) q⟩,fun b u q n _=>by rw[upd_ne (hx b n)]; exact n,fun b u q _=>?_,
  fun b xs q=>by rw[upd_ne (hm b _ q fun z=>z)]; exact q,fun b u xs q=>by rw[upd_ne (hm b _ q fun z=>z)]; exact q,fun b ps q=>⟨#[],by rw[upd_ne (hm b _ q fun z=>z),q]; simp⟩⟩
 by_cases hbe:b=e
 ·subst hbe; exact heo
 ·exact⟨u,k b u hbe q⟩
theorem Un.mono(u:Un fs ex H H1 h h1)(hs:∀b∈fs,b∈fs')(hx:∀b∈ex,b∈ex'):Un fs' ex' H H1 h h1 :=
 ⟨fun b ob q n hb he=>u.keep b ob q n (fun z=>hb (hs b z)) fun z=>he (hx b z),fun _ _ q n _ he=>u.any q n fun z=>he (hx _ z),fun b ob q n he=>u.free b ob q n fun z=>he (hx b z),fun b ob q he=>u.there b ob q fun z=>he (hx b z),u.tups,u.frzs,u.tbls⟩
end
def trk(h:Heap)(H:Hp):List Addr:=(List.range h.objs.size).filter fun a=>(H a).isSome
def hidT(h:Heap)(H:Hp):Heap:=PySem.W.hideAll h (trk h H)
theorem zgu(h:Heap)(H:Hp):(hidT h H).objs.size=h.objs.size:=PySem.W.hideAll_size _ _
theorem ziy{h:Heap}{H:Hp}{b:Addr}{o:Obj}(e:h.get? b=some o)(n:H b=none):(hidT h H).get? b=some o :=
 PySem.W.hideAll_get _ e fun hm=>by
  have q:(H b).isSome=true:=(List.mem_filter.mp hm).2;rw[n] at q; simp at q
theorem zlj{h:Heap}{H:Hp}{b:Addr}{o:Obj}(e:(hidT h H).get? b=some o):h.get? b=some o/\H b=none:=by
 have e':h.get? b=some o:=PySem.W.of_hideAll (trk h H) e;refine⟨e',?_⟩;cases q:H b with
 | none=>rfl
 | some x =>
  have hm:b∈trk h H:=List.mem_filter.mpr ⟨List.mem_range.mpr (Heap.lt_size e'),by simp[q]⟩;have z:(hidT h H).get? b=none:=PySem.W.hideAll_none (trk h H) hm;rw[z] at e; cases e
def allNews(g h:Heap)(L:Addr):List (Addr×Obj):=(List.range h.objs.size).filterMap fun a=>if a=L\/(g.get? a).isSome=true then none else (h.get? a).map fun o=>(a,o)
def rest(g h:Heap)(L d:Addr):List (Addr×Obj):=(allNews g h L).filter fun p=>decide (p.1≠d)
structure Mod(K:PySem.W.Frag)(mg:Str->Option Value)(base:Heap):Prop where
 kin:K.In base
 glob:base.Ns mainGlobals mg
 blt:∃mb,base.Ns builtinsNs mb/\∀x:Str,x≠"__name__"->mb x=bootBuiltins x
 nolimit:base.NoLimit
structure Cx where
 prog:Program
 w:World
 K:PySem.W.Frag
 mg:Str->Option Value
 base:Heap
 A:Around
 N:List Str
 s₀:Shared
 H₀:Hp
 env:Env
 outer:List Env
 stack:List Env
 ex:List Addr
 fn:Str->Bool
 calm:Bool
 pn:List (Addr×Obj)
 xe:Value->Shared->Prop
def frs(l:List Env):List Addr:=l.filterMap (·.frame)
abbrev Cx.fs(X:Cx):List Addr:=frs X.outer
def Vis(sc:Scope)(x:Str):Prop:=sc.names.lookup x=some .local\/sc.names.lookup x=some .cell\/sc.names.lookup x=some .free
def Loc(sc:Scope)(x:Str):Prop:=sc.names.lookup x=some .local\/sc.names.lookup x=some .cell
def Look(env:Env)(h:Heap)(m:Str->Option Value)(x:Str)(u:Value):Prop :=
 (env.kindOf x=some .local/\m x=some u)\/((env.kindOf x=some .cell\/env.kindOf x=some .free)/\∃c,env.cells.lookup x=some c/\h.IsCell c (some u))
structure Cx.Ok(X:Cx):Prop where
 mod:Mod X.K X.mg X.base
 kind:X.env.scope.kind=.function
 glob:X.env.globals=mainGlobals
 blt:X.env.builtins=builtinsNs
 above:X.s₀.heap.objs.size<=X.env.locals
 inj:∀x y c,X.env.cells.lookup x=some c->X.env.cells.lookup y=some c->x=y
 has:∀x,(X.env.kindOf x=some .cell\/X.env.kindOf x=some .free)->∃c,X.env.cells.lookup x=some c
 cab:∀x c,X.fn x=true->X.env.cells.lookup x=some c->X.s₀.heap.objs.size<=c
 hd:X.calm=true->X.A.handled=none
 frames:X.A.frames=some X.stack
 stk:X.stack=X.outer\/(X.stack=X.env :: X.outer/\X.env.frame=some X.env.locals)
 exf:∀b∈X.ex,b≠X.env.locals/\∀x c,X.env.cells.lookup x=some c->c≠b
 bs:∀b o,X.base.get? b=some o->X.s₀.heap.get? b=some o/\X.H₀ b=none
 bsz:X.base.objs.size<=X.s₀.heap.objs.size
 noex:∀b o,X.base.get? b=some o->b∉X.ex
 exfs:∀b∈X.ex,b∉X.fs
 funs:X.s₀.heap.FunFrames X.base X.outer
 frf:∀b∈X.fs,X.H₀ b=none
structure Inv(X:Cx)(pins:List (Addr×Obj))(σ:List (Option V))(H:Hp)(s:Shared):Prop where
 ok:X.Ok
 os:s.os=X.s₀.os
 bare:AllBare s.gens
 base:Un X.fs X.ex X.H₀ H X.s₀.heap s.heap
 loc:∃m,s.heap.Ns X.env.locals m/\∀(i:Nat) (x:Str) (v:V),X.N[i]?=some x->σ[i]?=some (some v)->Vis X.env.scope x->∃u,RelV v u/\Look X.env s.heap m x u
 cell:∀x c,X.env.cells.lookup x=some c->∃v,s.heap.IsCell c v
 free:H X.env.locals=none
 freeC:∀x c,X.env.cells.lookup x=some c->H c=none
 pin:∀p∈X.pn++pins,s.heap.get? p.1=some p.2/\H p.1=none/\p.1≠X.env.locals/\p.1∉X.fs/\∀v,p.2.data≠.cell v
 hok:HOk X.prog X.w H s.heap
 len:σ.length=X.N.length
section
variable {X:Cx} {pins:List (Addr×Obj)} {σ:List (Option V)} {H H':Hp} {s:Shared} {h':Heap}
theorem Cx.Ok.nofr(ok:X.Ok){b:Addr}{o:Obj}(e:X.base.get? b=some o):b∉X.fs:=fun hb=>by
 have:=(ok.funs.mem hb).1
 rw[e] at this; cases this
theorem Inv.bs(I:Inv X pins σ H s):∀b o,X.base.get? b=some o->s.heap.get? b=some o/\H b=none:=fun b o e =>
 ⟨I.base.keep b o (I.ok.bs b o e).1 (I.ok.bs b o e).2 (I.ok.nofr e) (I.ok.noex b o e),I.base.free b o (I.ok.bs b o e).1 (I.ok.bs b o e).2 (I.ok.noex b o e)⟩
theorem Inv.bk(I:Inv X pins σ H s):∀b o,X.base.get? b=some o->s.heap.get? b=some o:=fun b o e=>(I.bs b o e).1
theorem Inv.mod(I:Inv X pins σ H s):Mod X.K X.mg X.base:=I.ok.mod
theorem Inv.kIn(I:Inv X pins σ H s):X.K.In s.heap:=I.ok.mod.kin.keeps I.bk
theorem Inv.nolimit(I:Inv X pins σ H s):s.heap.NoLimit:=I.ok.mod.nolimit.keeps I.bk
theorem Inv.lt(I:Inv X pins σ H s):X.env.locals<s.heap.objs.size:=let ⟨_,hn,_⟩:=I.loc; hn.lt
theorem Inv.sz(I:Inv X pins σ H s):X.s₀.heap.objs.size<=s.heap.objs.size:=Nat.le_trans I.ok.above (Nat.le_of_lt I.lt)
theorem Inv.nofs(I:Inv X pins σ H s){a:Addr}(h:s.heap.objs.size<=a):a∉X.fs:=fun hb=>by
 obtain⟨_,o,ho,_⟩:=I.ok.funs.mem hb;exact absurd (Nat.lt_of_lt_of_le (Heap.lt_size ho) (Nat.le_trans I.sz h)) (Nat.lt_irrefl _)
theorem Inv.cne(I:Inv X pins σ H s):∀x c,X.env.cells.lookup x=some c->c≠X.env.locals:=fun x c e z=>by
 obtain⟨v,o,ho,hd⟩:=I.cell x c e;obtain⟨m,⟨o',es,ep,ho',hd',_⟩,_⟩:=I.loc;rw[z,ho'] at ho; cases ho; rw[hd'] at hd; cases hd
theorem Inv.funs(I:Inv X pins σ H s):s.heap.FunFrames X.base X.outer:=by
 have all:∀(l:List Env),(∀b∈frs l,b∈X.fs)->X.s₀.heap.FunFrames X.base l->s.heap.FunFrames X.base l:=by
  intro l
  induction l with
  | nil=>intro _ _; trivial
  | cons env r ih =>
   intro hs hl;obtain⟨hk,⟨L,o,hf,hn,ho,hd⟩,hr⟩:=hl;have hL:L∈X.fs:=hs L (by unfold frs; rw[List.filterMap_cons,hf]; exact List.mem_cons_self);obtain⟨sl,e⟩:=I.base.slot L o ho (I.ok.frf L hL) hL fun z=>I.ok.exfs L z hL
   exact⟨hk,⟨L,_,hf,hn,e,hd⟩,ih (fun b hb=>hs b (by unfold frs; rw[List.filterMap_cons,hf]; exact List.mem_cons_of_mem _ hb)) hr⟩
 exact all X.outer (fun _ hb=>hb) I.ok.funs
theorem Inv.stack(I:Inv X pins σ H s):s.heap.FunFrames X.base X.stack:=by
 rcases I.ok.stk with e | ⟨e,hf⟩
 ·rw[e]; exact I.funs
 ·rw[e];obtain⟨m,hn,_⟩:=I.loc;refine .cons (by rw[I.ok.kind]; decide) hf hn ?_ I.funs;exact Heap.get?_none_of_le (Nat.le_trans I.ok.bsz I.ok.above)
theorem Inv.stkSub(I:Inv X pins σ H s):∀b∈frs X.stack,b∈X.env.locals :: X.fs:=fun b hb=>by
 rcases I.ok.stk with e | ⟨e,hf⟩
 ·rw[e] at hb; exact List.mem_cons_of_mem _ hb
 ·rw[e] at hb;unfold frs at hb;rw[List.filterMap_cons,hf] at hb;exact hb
theorem Inv.stkFree(I:Inv X pins σ H s):∀b∈frs X.stack,H b=none:=fun b hb=>by
 rcases List.mem_cons.mp (I.stkSub b hb) with e | hb
 ·rw[e]; exact I.free
 ·obtain⟨_,o,ho,_⟩:=I.ok.funs.mem hb;exact I.base.free b o ho (I.ok.frf b hb) fun z=>I.ok.exfs b z hb
theorem Inv.step {g':Array GenState} {t':Nat} {d':Drawn} {ch:List Addr} (I:Inv X pins σ H s)
  (hch:∀b∈ch,(b∈X.ex\/X.s₀.heap.objs.size<=b)/\b≠X.env.locals/\(∀x c,X.env.cells.lookup x=some c->c≠b)/\∀p∈X.pn++pins,p.1≠b)
  (keep:∀b o,b≠X.env.locals->b∉X.fs->b∉ch->s.heap.get? b=some o->H b=none->h'.get? b=some o)
  (slot:∀b o,b≠X.env.locals->b∈X.fs->b∉ch->s.heap.get? b=some o->H b=none->∃sl,h'.get? b=some { o with slots:=sl }) (free:∀b o,b∉ch->s.heap.get? b=some o->H b=none->H' b=none)
  (there:∀b o,b∉ch->s.heap.get? b=some o->∃o',h'.get? b=some o')
  (tups:∀b xs,H b=some (.tup xs)->H' b=some (.tup xs)) (frzs:∀b o u,H b=some (.frz o u)->H' b=some (.frz o u)) (tbls:∀b ps,H b=some (.tbl ps)->∃more,H' b=some (.tbl (ps++more)))
  (ns:∀m,s.heap.Ns X.env.locals m->h'.Ns X.env.locals m) (hok:HOk X.prog X.w H' h') (hg:AllBare g') :
  Inv X pins σ H' { s with heap:=h',gens:=g',drawn:=d',toks:=t' }:=by
 have neL:∀b o,X.s₀.heap.get? b=some o->b≠X.env.locals:=fun b o e=>Nat.ne_of_lt (Nat.lt_of_lt_of_le (Heap.lt_size e) I.ok.above)
 have neC:∀b o,X.s₀.heap.get? b=some o->b∉X.ex->b∉ch:=fun b o e hx hb=>by
  rcases(hch b hb).1 with z | z
  ·exact hx z
  ·exact absurd (Nat.lt_of_lt_of_le (Heap.lt_size e) z) (Nat.lt_irrefl _)
 have cellK:∀x c,X.env.cells.lookup x=some c->∀v,s.heap.IsCell c v->h'.IsCell c v:=fun x c e v ⟨o,ho,hd⟩=>by
  have nch:c∉ch:=fun z=>(hch c z).2.2.1 x c e rfl
  by_cases hc:c∈X.fs
  ·obtain⟨sl,q⟩:=slot c o (I.cne x c e) hc nch ho (I.freeC x c e);exact⟨_,q,hd⟩
  ·exact⟨o,keep c o (I.cne x c e) hc nch ho (I.freeC x c e),hd⟩
 refine⟨I.ok,I.os,hg,⟨fun b o e n hb hx=>?_,fun b o e n hb hx=>?_,fun b o e n hx=>?_,fun b o e hx=>?_,fun b xs e=>tups b xs (I.base.tups b xs e),fun b o xs e=>frzs b o xs (I.base.frzs b o xs e),fun b ps e=>?_⟩,?_,fun x c e=>?_,?_,fun x c e=>?_,fun p hp=>?_,hok,I.len⟩
 ·exact keep b o (neL b o e) hb (neC b o e hx) (I.base.keep b o e n hb hx) (I.base.free b o e n hx)
 ·obtain⟨sl,e1⟩:=I.base.slot b o e n hb hx;obtain⟨sl',e2⟩:=slot b _ (neL b o e) hb (neC b o e hx) e1 (I.base.free b o e n hx);exact⟨sl',e2⟩
 ·obtain⟨o',e1⟩:=I.base.there b o e hx;exact free b o' (neC b o e hx) e1 (I.base.free b o e n hx)
 ·obtain⟨o',e1⟩:=I.base.there b o e hx;exact there b o' (neC b o e hx) e1
 ·obtain⟨m1,e1⟩:=I.base.tbls b ps e;obtain⟨m2,e2⟩:=tbls b _ e1;exact⟨m1++m2,by rw[e2,Array.append_assoc]⟩
 ·obtain⟨m,hn,hl⟩:=I.loc;refine⟨m,ns m hn,fun i x v e1 e2 e3=>?_⟩;obtain⟨u,r,l⟩:=hl i x v e1 e2 e3;refine⟨u,r,?_⟩;rcases l with l | ⟨k,c,e,z⟩
  ·exact .inl l
  ·exact .inr ⟨k,c,e,cellK x c e _ z⟩
 ·obtain⟨v,z⟩:=I.cell x c e;exact⟨v,cellK x c e v z⟩
 ·obtain⟨m,⟨o,_,_,ho,_⟩,_⟩:=I.loc;exact free _ o (fun z=>(hch _ z).2.1 rfl) ho I.free
 ·obtain⟨v,o,ho,hd⟩:=I.cell x c e;exact free c o (fun z=>(hch c z).2.2.1 x c e rfl) ho (I.freeC x c e)
 ·obtain⟨e,n,ne,nf,d⟩:=I.pin p hp;have nch:p.1∉ch:=fun z=>(hch p.1 z).2.2.2 p hp rfl
  exact⟨keep p.1 p.2 ne nf nch e n,free p.1 p.2 nch e n,ne,nf,d⟩
theorem Inv.un{t':Nat}(I:Inv X pins σ H s)(u:Un X.fs [] H H' s.heap h')(hok:HOk X.prog X.w H' h'):Inv X pins σ H' { s with heap:=h',toks:=t' }:=by
 obtain⟨m,⟨o,es,ep,ho,r⟩,_⟩:=id I.loc;obtain⟨sl,hL⟩:=u.any ho I.free (by simp);exact I.step (g':=s.gens) (d':=s.drawn) (ch:=[]) (fun _ z=>nomatch z) (fun b o _ hb _ e n=>u.keep b o e n hb (by simp)) (fun b o _ hb _ e n=>u.slot b o e n hb (by simp)) (fun b o _ e n=>u.free b o e n (by simp)) (fun b o _ e=>u.there b o e (by simp)) u.tups u.frzs u.tbls (fun m' hm=>by
  obtain⟨o',es',ep',ho',r'⟩:=hm;rw[ho] at ho'; cases ho';exact⟨_,es',ep',hL,r'⟩) hok I.bare
theorem Inv.call {g':Array GenState} {t':Nat} {d':Drawn} {ch:List Addr} (I:Inv X pins σ H s) (u:Un (frs X.stack) ch H H' s.heap h') (hok:HOk X.prog X.w H' h') (hg:AllBare g')
  (hch:∀b∈ch,(b∈X.ex\/X.s₀.heap.objs.size<=b)/\b≠X.env.locals/\(∀x c,X.env.cells.lookup x=some c->c≠b)/\∀p∈X.pn++pins,p.1≠b) :
  Inv X pins σ H' { s with heap:=h',gens:=g',drawn:=d',toks:=t' }:=by
 obtain⟨m,⟨o,es,ep,ho,r⟩,_⟩:=id I.loc;obtain⟨sl,hL⟩:=u.any ho I.free fun z=>(hch _ z).2.1 rfl
 exact I.step (ch:=ch) hch (fun b o hL hb hc e n=>u.keep b o e n (fun z=>(List.mem_cons.mp (I.stkSub b z)).elim hL hb) hc) (fun b o _ _ hc e n=>u.any e n hc) (fun b o hc e n=>u.free b o e n hc) (fun b o hc e=>u.there b o e hc) u.tups u.frzs u.tbls (fun m' hm=>by
  obtain⟨o',es',ep',ho',r'⟩:=hm;rw[ho] at ho'; cases ho';exact⟨_,es',ep',hL,r'⟩) hok hg
theorem Inv.turned {t':Nat} {it:Addr} (I:Inv X pins σ H s) (k:∀b o,b≠it->s.heap.get? b=some o->h'.get? b=some o) (hn:H it=none) (hL:it≠X.env.locals)
  (h1:it∈X.ex\/X.s₀.heap.objs.size<=it) (h2:∀x c,X.env.cells.lookup x=some c->c≠it) (h3:∀p∈X.pn++pins,p.1≠it):Inv X pins σ H { s with heap:=h',toks:=t' }:=by
 have nit:∀b u,H b=some u->b≠it:=fun b u e z=>by rw[z,hn] at e; cases e
 refine I.step (g':=s.gens) (d':=s.drawn) (ch:=[it]) (fun b hb=>?_) (fun b o _ _ hc e _=>k b o (fun z=>hc (by simp[z])) e) (fun b o _ _ hc e _=>⟨o.slots,k b o (fun z=>hc (by simp[z])) e⟩) (fun _ _ _ _ n=>n)
  (fun b o hc e=>⟨o,k b o (fun z=>hc (by simp[z])) e⟩) (fun _ _ e=>e) (fun _ _ _ e=>e) (fun b ps e=>⟨#[],by rw[e]; simp⟩) (fun m hm=>?_) (fun b u e=>?_) I.bare
 ·have e:b=it:=by simpa using hb
  subst e;exact⟨h1,hL,h2,h3⟩
 ·obtain⟨o,es,ep,ho,r⟩:=hm;exact⟨o,es,ep,k _ o (Ne.symm hL) ho,r⟩
 ·refine(I.hok b u e).stay (fun c v hc q=>k c v ?_ q) (fun _ q=>q) fun _ _ q=>q
  rcases hc with z | z
  ·rw[z]; exact nit b u e
  ·exact nit c _ z
theorem Inv.tok(I:Inv X pins σ H s)(t:Nat):Inv X pins σ H { s with toks:=t }:=I.un (h':=s.heap) (t':=t) Un.refl I.hok
theorem Inv.kept{t':Nat}(I:Inv X pins σ H s)(k:∀b u,s.heap.get? b=some u->h'.get? b=some u):Inv X pins σ H { s with heap:=h',toks:=t' }:=I.un (Un.kept k) (I.hok.kept k)
theorem Inv.laid{a:Addr}{o:HO}{t':Nat}(I:Inv X pins σ H s)(k:∀b u,s.heap.get? b=some u->h'.get? b=some u)(hp:s.heap.objs.size<=a)(new:ObjOk X.prog X.w (upd H a o) h' a o):
  Inv X pins σ (upd H a o) { s with heap:=h',toks:=t' }:=I.un (Un.laid k hp (I.hok.fresh hp)) (I.hok.laid k hp new)
theorem Inv.write {x e:Addr} {o:HO} {t':Nat} (I:Inv X pins σ H s) (mu:Mut (H x)) (he:e=x\/H e=some (.own x)) (k:∀b u,b≠e->s.heap.get? b=some u->h'.get? b=some u) (heo:∃u,h'.get? e=some u)
  (new:ObjOk X.prog X.w (upd H x o) h' x o):Inv X pins σ (upd H x o) { s with heap:=h',toks:=t' }:=I.un (Un.write mu he k heo) (I.hok.write mu he k heo new)
theorem Inv.pins_of{pins':List (Addr×Obj)}(I:Inv X pins σ H s)(h:∀p∈pins',s.heap.get? p.1=some p.2/\H p.1=none/\p.1≠X.env.locals/\p.1∉X.fs/\∀v,p.2.data≠.cell v):Inv X pins' σ H s :=
 ⟨I.ok,I.os,I.bare,I.base,I.loc,I.cell,I.free,I.freeC,fun p hp=>(List.mem_append.mp hp).elim (fun z=>I.pin p (List.mem_append_left _ z)) (h p),I.hok,I.len⟩
theorem zfy{N:List Str}(hN:N.Nodup){i j:Nat}{x:Str}(a:N[i]?=some x)(b:N[j]?=some x):i=j:=by
 obtain⟨h1,e1⟩:=List.getElem?_eq_some_iff.mp a;obtain⟨h2,e2⟩:=List.getElem?_eq_some_iff.mp b;exact(List.getElem_inj hN).mp (e1.trans e2.symm)
theorem zg9 {M:Model} {A:Around} {E:Value->Shared->Prop} {i:Nat} {x:Str} {v:V} {u:Value} {Q:Unit->Shared->Prop} (I:Inv X pins σ H s) (hN:X.N.Nodup) (hi:X.N[i]?=some x) (hx:Loc X.env.scope x) (r:RelV v u)
  (h:∀s',Inv X pins (σ.set i (some v)) H s'->(∃a,Heap.SameBut a s.heap s'.heap/\(a=X.env.locals\/X.env.cells.lookup x=some a))->Q () s') (hf:X.fn x=true\/X.env.scope.names.lookup x=some .local:=by first | exact .inl rfl | exact .inr rfl | assumption):wpAny M A (storeName X.env x u) Q E s:=by
 obtain⟨m,hn,hl⟩:=id I.loc;have hcls:(X.env.scope.kind == .class || (X.env.scope.kind == .module && X.env.locals != X.env.globals))=false:=by rw[I.ok.kind]; rfl
 have hiσ:i<σ.length:=by rw[I.len]; exact(List.getElem?_eq_some_iff.mp hi).1
 have cne:=I.cne;have tracked:∀{a:Addr} {h':Heap},(∃o,s.heap.get? a=some o/\H a=none)->Heap.SameBut a s.heap h'->HOk X.prog X.w H h':=fun {a h'} ha hs b ob e=>by
  obtain⟨_,_,hfree⟩:=ha;refine(I.hok b ob e).stay (fun c w' hc q=>(hs.2 c ?_).trans q) (fun _ q=>q) fun _ _ q=>q
  rintro rfl;rcases hc with rfl | hc
  ·rw[hfree] at e; cases e
  ·rw[hfree] at hc; cases hc
 rcases hx with hk | hk
 ·refine wpAny_storeName_local hk hn (fun h' hn' hs=>?_) hcls;obtain⟨oL,_,_,hoL,_⟩:=id hn;refine h _ ⟨I.ok,I.os,I.bare,⟨fun b o e n hb hx=>?_,fun b o e n hb hx=>?_,I.base.free,fun b o e hx=>?_,I.base.tups,I.base.frzs,I.base.tbls⟩,⟨_,hn',fun j y v' e1 e2 e3=>?_⟩,fun y c e=>?_,I.free,I.freeC,fun p hp=>?_,tracked ⟨oL,hoL,I.free⟩ hs,by simpa using I.len⟩ ⟨_,hs,.inl rfl⟩
  ·exact(hs.2 b (Nat.ne_of_lt (Nat.lt_of_lt_of_le (Heap.lt_size e) I.ok.above))).trans (I.base.keep b o e n hb hx)
  ·obtain⟨sl,e1⟩:=I.base.slot b o e n hb hx;exact⟨sl,(hs.2 b (Nat.ne_of_lt (Nat.lt_of_lt_of_le (Heap.lt_size e) I.ok.above))).trans e1⟩
  ·obtain⟨o',e1⟩:=I.base.there b o e hx;exact⟨o',(hs.2 b (Nat.ne_of_lt (Nat.lt_of_lt_of_le (Heap.lt_size e) I.ok.above))).trans e1⟩
  ·by_cases hj:j=i
   ·subst hj;rw[hi] at e1; cases e1;rw[List.getElem?_set_self hiσ] at e2;cases e2;exact⟨u,r,.inl ⟨hk,by simp⟩⟩
   ·rw[List.getElem?_set_ne (Ne.symm hj)] at e2;obtain⟨u',r',q⟩:=hl j y v' e1 e2 e3;refine⟨u',r',?_⟩;rcases q with ⟨k,e⟩ | ⟨k,c,e,z⟩
    ·refine .inl ⟨k,?_⟩
     have:y≠x:=fun e=>hj (zfy hN e1 (e ▸ hi))
     simp[this,e]
    ·exact .inr ⟨k,c,e,z.sameBut hs (cne y c e)⟩
  ·obtain⟨w',z⟩:=I.cell y c e;exact⟨w',z.sameBut hs (cne y c e)⟩
  ·obtain⟨e,n,ne,nf,d⟩:=I.pin p hp;exact⟨(hs.2 p.1 ne).trans e,n,ne,nf,d⟩
 ·have hfn:X.fn x=true:=by
   rcases hf with z | z
   ·exact z
   ·rw[z] at hk; cases hk
  obtain⟨c,hc⟩:=I.ok.has x (.inl hk);obtain⟨w',z⟩:=I.cell x c hc;refine wpAny_storeName_cell I.ok.kind hk hc z (fun h' hc' hs=>?_);obtain⟨oc,hoc,hocd⟩:=id z;refine h { s with heap:=h' } ⟨I.ok,I.os,I.bare,⟨fun b o e n hb hx=>?_,fun b o e n hb hx=>?_,I.base.free,fun b o e hx=>?_,I.base.tups,I.base.frzs,I.base.tbls⟩,⟨m,hn.sameBut hs (Ne.symm (cne x c hc)),fun j y v' e1 e2 e3=>?_⟩,fun y c' e=>?_,I.free,I.freeC,fun p hp=>?_,tracked ⟨oc,hoc,I.freeC x c hc⟩ hs,by simpa using I.len⟩ ⟨c,hs,.inr hc⟩
  ·exact(hs.2 b (Nat.ne_of_lt (Nat.lt_of_lt_of_le (Heap.lt_size e) (I.ok.cab x c hfn hc)))).trans (I.base.keep b o e n hb hx)
  ·obtain⟨sl,e1⟩:=I.base.slot b o e n hb hx;exact⟨sl,(hs.2 b (Nat.ne_of_lt (Nat.lt_of_lt_of_le (Heap.lt_size e) (I.ok.cab x c hfn hc)))).trans e1⟩
  ·obtain⟨o',e1⟩:=I.base.there b o e hx;exact⟨o',(hs.2 b (Nat.ne_of_lt (Nat.lt_of_lt_of_le (Heap.lt_size e) (I.ok.cab x c hfn hc)))).trans e1⟩
  ·by_cases hj:j=i
   ·subst hj;rw[hi] at e1; cases e1;rw[List.getElem?_set_self hiσ] at e2;cases e2;exact⟨u,r,.inr ⟨.inl hk,c,hc,hc'⟩⟩
   ·rw[List.getElem?_set_ne (Ne.symm hj)] at e2;obtain⟨u',r',q⟩:=hl j y v' e1 e2 e3;refine⟨u',r',?_⟩;rcases q with q | ⟨k,c',e,z'⟩
    ·exact .inl q
    ·refine .inr ⟨k,c',e,z'.sameBut hs ?_⟩;rintro rfl;exact hj (zfy hN e1 (I.ok.inj _ _ _ e hc ▸ hi))
  ·by_cases hcc:c'=c
   ·subst hcc; exact⟨_,hc'⟩
   ·obtain⟨w2,z2⟩:=I.cell y c' e;exact⟨w2,z2.sameBut hs hcc⟩
  ·obtain⟨e,n,ne,nf,d⟩:=I.pin p hp;refine⟨(hs.2 p.1 ?_).trans e,n,ne,nf,d⟩;intro q;rw[q,hoc] at e;have q':oc=p.2:=Option.some.inj e;exact d w' (by rw[<-q']; exact hocd)
theorem zd6 {M:Model} {A:Around} {E:Value->Shared->Prop} {i:Nat} {x:Str} {v:V} {u:Value} {Q:Unit->Shared->Prop} (I:Inv X pins σ H s) (hN:X.N.Nodup) (hi:X.N[i]?=some x) (hx:Loc X.env.scope x) (r:RelV v u)
  (h:∀s',Inv X pins (σ.set i (some v)) H s'->Q () s') (hf:X.fn x=true\/X.env.scope.names.lookup x=some .local:=by first | exact .inl rfl | exact .inr rfl | assumption):wpAny M A (storeName X.env x u) Q E s :=
 zg9 I hN hi hx r (fun s' I' _=>h s' I') hf
theorem Inv.call' {s':Shared} {ch:List Addr} (I:Inv X pins σ H s) (ho:s'.os=s.os) (u:Un (frs X.stack) ch H H' s.heap s'.heap) (hok:HOk X.prog X.w H' s'.heap) (hg:AllBare s'.gens)
  (hch:∀b∈ch,(b∈X.ex\/X.s₀.heap.objs.size<=b)/\b≠X.env.locals/\(∀x c,X.env.cells.lookup x=some c->c≠b)/\∀p∈X.pn++pins,p.1≠b):Inv X pins σ H' s':=by
 obtain⟨h',g',d',t',o'⟩:=s';have e:o'=s.os:=ho;subst e;exact I.call (g':=g') (t':=t') (d':=d') u hok hg hch
end
abbrev XK:=Value->Option Addr->Hp->Prop
abbrev St:=List (Option V)
abbrev VK:=V->Hp->Prop
abbrev TE:=St->Hp->VK->Prop
abbrev TT:=St->Hp->(Bool->Hp->Prop)->Prop
abbrev TA:=St->Hp->(List V->Hp->Prop)->Prop
structure Ends where
 nx:St->Hp->Prop
 rt:VK
 bk:St->Hp->Prop:=fun _ _=>False
 ct:St->Hp->Prop:=fun _ _=>False
abbrev TS:=Ends->St->Hp->Prop
def EP(X:Cx)(pins:List (Addr×Obj))(σ:St)(Q:VK)(u:Value)(s':Shared):Prop:=∃v H',Inv X pins σ H' s'/\RelV v u/\Q v H'
def TP(X:Cx)(pins:List (Addr×Obj))(σ:St)(Q:Bool->Hp->Prop)(b:Bool)(s':Shared):Prop:=∃H',Inv X pins σ H' s'/\Q b H'
def AP(X:Cx)(pins:List (Addr×Obj))(σ:St)(Q:List V->Hp->Prop)(us:List Value)(s':Shared):Prop:=∃vs H',Inv X pins σ H' s'/\Vals vs us/\Q vs H'
def SP(X:Cx)(pins:List (Addr×Obj))(D:Ends)(f:Flow)(s':Shared):Prop :=
 match f with
 | .next=>∃σ' H',Inv X pins σ' H' s'/\D.nx σ' H'
 | .brk=>∃σ' H',Inv X pins σ' H' s'/\D.bk σ' H'
 | .cont=>∃σ' H',Inv X pins σ' H' s'/\D.ct σ' H'
 | .ret u=>∃v σ' H',Inv X pins σ' H' s'/\RelV v u/\D.rt v H'
def PE(X:Cx)(e:Expr)(t:TE):Prop :=
 ∀(pins:List (Addr×Obj)) (s:Shared) (σ:St) (H:Hp) (Q:VK),Inv X pins σ H s->t σ H Q->wpAny (model X.prog X.w) X.A (eval e X.env) (EP X pins σ Q) X.xe s
def PT(X:Cx)(e:Expr)(t:TT):Prop :=
 ∀(pins:List (Addr×Obj)) (s:Shared) (σ:St) (H:Hp) (Q:Bool->Hp->Prop),Inv X pins σ H s->t σ H Q->wpAny (model X.prog X.w) X.A (isTrue e X.env (eval e X.env)) (TP X pins σ Q) X.xe s
def PW(X:Cx)(e:Expr)(t:TT):Prop :=
 ∀(whole:Sem Value) (pins:List (Addr×Obj)) (s:Shared) (σ:St) (H:Hp) (Q:Bool->Hp->Prop),Inv X pins σ H s->t σ H Q->wpAny (model X.prog X.w) X.A (isTrue e X.env whole) (TP X pins σ Q) X.xe s
theorem PW.pt{X:Cx}{e:Expr}{t:TT}(h:PW X e t):PT X e t:=h _
def PA(X:Cx)(es:List Expr)(t:TA):Prop :=
 ∀(pos:Pos) (pins:List (Addr×Obj)) (s:Shared) (σ:St) (H:Hp) (Q:List V->Hp->Prop),Inv X pins σ H s->t σ H Q->wpAny (model X.prog X.w) X.A (spliced (backTo pos (starEach es X.env))) (AP X pins σ Q) X.xe s
def PS(X:Cx)(st:Stmt)(t:TS):Prop :=
 ∀(pins:List (Addr×Obj)) (s:Shared) (σ:St) (H:Hp) (D:Ends),Inv X pins σ H s->t D σ H->wpAny (model X.prog X.w) X.A (exec st X.env) (SP X pins D) X.xe s
def PSs(X:Cx)(st:List Stmt)(t:TS):Prop :=
 ∀(pins:List (Addr×Obj)) (s:Shared) (σ:St) (H:Hp) (D:Ends),Inv X pins σ H s->t D σ H->wpAny (model X.prog X.w) X.A (execs st X.env) (SP X pins D) X.xe s
theorem thn{α:Type}{t:Sem α}{Q Q':α->Shared->Prop}{M:Model}{A:Around}{E:Value->Shared->Prop}{s:Shared}(h:wpAny M A t Q E s)(hQ:∀a s,Q a s->Q' a s):wpAny M A t Q' E s:=wpAny_mono h hQ fun _ _ x=>x
section
variable {X:Cx}
inductive VarR(i:Nat)(σ:St)(H:Hp)(Q:VK):Prop
 | mk (v:V) (e:σ[i]?=some (some v)) (q:Q v H):VarR i σ H Q
def tVar(i:Nat):TE:=fun σ H Q=>VarR i σ H Q
inductive BlR(x:V)(H:Hp)(Q:Bool->Hp->Prop):Prop
 | mk (c:Bool) (e:x=.bl c) (q:Q c H):BlR x H Q
def tC(v:V):TE:=fun _ H Q=>Q v H
theorem pe_var{i:Nat}{x:Str}{pos:Pos}(hN:X.N[i]?=some x)(hv:Vis X.env.scope x)(hd:(x == ("__debug__":Str))=false:=by decide)(hcd:(x == ("__classdict__":Str))=false:=by decide):PE X (.Name x pos) (tVar i):=by
 intro pins s σ H Q I h;obtain⟨v,e,h⟩:=h;obtain⟨m,hn,hl⟩:=I.loc;obtain⟨u,r,l⟩:=hl i x v hN e hv;have fin:EP X pins σ Q u s:=⟨v,H,I,r,h⟩;rcases l with ⟨hk,hm⟩ | ⟨hk,c,hc,hcell⟩
 ·exact wpAny_Name (wpAny_loadName_local I.ok.kind hk hn hm fin) hd
 ·rcases hk with hk | hk
  ·exact wpAny_Name (wpAny_loadName_cell I.ok.kind hk hc hcell fin) hd
  ·exact wpAny_Name (wpAny_loadName_free I.ok.kind hk hc hcell fin hcd) hd
theorem za4{i j pos}:PE X (.Constant (.int i) j pos) (tC (.int i)):=fun _ _ _ H _ I h=>wpAny_Constant_int ⟨.int i,H,I.tok _,⟨_,rfl⟩,h⟩
theorem zl5{b j pos}:PE X (.Constant (.bool b) j pos) (tC (.bl b)):=fun _ _ _ H _ I h=>Constant_bool ⟨.bl b,H,I,rfl,h⟩
theorem zby{j pos}:PE X (.Constant .none j pos) (tC .non):=fun _ _ _ H _ I h=>Constant_none ⟨.non,H,I,rfl,h⟩
theorem zc1{x j pos}:PE X (.Constant (.str x) j pos) (tC (.str x)):=fun _ _ _ H _ I h=>Calls.Constant_str ⟨.str x,H,I.tok _,⟨_,rfl⟩,h⟩
def Gl(X:Cx)(x:Str):Prop:=X.env.kindOf x=some .globalImplicit
theorem zdj {E:Value->Shared->Prop} {pins:List (Addr×Obj)} {s:Shared} {σ:St} {H:Hp} {x:Str} {u:Value} {pos:Pos} {Q:Value->Shared->Prop} (I:Inv X pins σ H s) (hg:Gl X x) (hm:X.mg x=some u) (h:Q u s)
  (hd:(x == ("__debug__":Str))=false:=by decide):wpAny (model X.prog X.w) X.A (eval (.Name x pos) X.env) Q E s :=
 Calls.Name_function_global I.ok.kind hg (Calls.loadGlobal_global (by rw[I.ok.glob]; exact I.mod.glob.keeps I.bk) hm h) hd
theorem ze7 {E:Value->Shared->Prop} {pins:List (Addr×Obj)} {s:Shared} {σ:St} {H:Hp} {x:Str} {u:Value} {pos:Pos} {Q:Value->Shared->Prop} (I:Inv X pins σ H s) (hg:Gl X x) (hm:X.mg x=none) (hv:bootBuiltins x=some u) (h:Q u s)
  (hn:x≠"__name__":=by decide) (hd:(x == ("__debug__":Str))=false:=by decide):wpAny (model X.prog X.w) X.A (eval (.Name x pos) X.env) Q E s:=by
 obtain⟨mb,h1,h2⟩:=I.mod.blt;exact Calls.Name_function_global I.ok.kind hg (Calls.loadGlobal_builtin (by rw[I.ok.glob]; exact I.mod.glob.keeps I.bk) hm (by rw[I.ok.blt]; exact h1.keeps I.bk) ((h2 x hn).trans hv) h) hd
theorem zl4{x:Str}{v:V}{u:Value}{pos:Pos}(hg:Gl X x)(hm:X.mg x=some u)(r:RelV v u)(hd:(x == ("__debug__":Str))=false:=by decide):PE X (.Name x pos) (tC v) :=
 fun _ _ _ H _ I h=>zdj I hg hm ⟨v,H,I,r,h⟩ hd
theorem zqc{x:Str}{v:V}{u:Value}{pos:Pos}(hg:Gl X x)(hm:X.mg x=none)(hv:bootBuiltins x=some u)(r:RelV v u)(hn:x≠"__name__":=by decide)(hd:(x == ("__debug__":Str))=false:=by decide):PE X (.Name x pos) (tC v) :=
 fun _ _ _ H _ I h=>ze7 I hg hm hv ⟨v,H,I,r,h⟩ hn hd
variable {a b:Expr} {ta tb:TE} {pos:Pos}
def PC(X:Cx)(op:CmpOp)(a b:Expr)(t:TE):Prop :=
 ∀(pins:List (Addr×Obj)) (s:Shared) (σ:St) (H:Hp) (Q:VK),Inv X pins σ H s->t σ H Q →
  wpAny (model X.prog X.w) X.A (eval a X.env) (fun v s₁=>wpAny (model X.prog X.w) X.A (eval b X.env) (fun u s₂=>wpAny (model X.prog X.w) X.A (compareOp op v u) (EP X pins σ Q) X.xe s₂) X.xe s₁) X.xe s
theorem nobehind(b:Expr){op:CmpOp}(h:op≠.In)(h2:op≠.NotIn):behindInMarks op b=false:=by
 have e1:(op == CmpOp.In)=false:=by cases op <;> first | rfl | exact absurd rfl h
 have e2:(op == CmpOp.NotIn)=false:=by cases op <;> first | rfl | exact absurd rfl h2
 cases b <;> simp[behindInMarks,e1,e2]
def tNotN(ta:TE):TE:=fun σ H Q=>ta σ H fun x H1=>Q (.bl (!decide (x=.non))) H1
theorem RelV.none_iff{x:V}{v:Value}(r:RelV x v):(v == Value.none)=decide (x=.non):=by
 cases x with
 | non=>cases r; rfl
 | bl _=>cases r; rfl
 | int _=>obtain⟨t,rfl⟩:=r; rfl
 | str _=>obtain⟨t,rfl⟩:=r; rfl
 | byt _=>obtain⟨t,rfl⟩:=r; rfl
 | flt _=>obtain⟨t,rfl⟩:=r; rfl
 | ref _=>cases r; rfl
 | ty _=>cases r; rfl
theorem zl6{j pos'}(ha:PE X a ta):PC X .IsNot a (.Constant .none j pos') (tNotN ta):=by
 intro pins s σ H Q I h;refine thn (ha pins s σ H _ I h) fun v s1 ⟨x,H1,I1,r1,q1⟩=>?_
 exact Constant_none (isnot_none_gen ⟨.bl _,H1,I1,by rw[r1.none_iff]; rfl,q1⟩)
def tB(t:TE):TT:=fun σ H Q=>t σ H fun x H1=>BlR x H1 Q
theorem zkz{op:CmpOp}{t:TE}(h:PC X op a b t)(h1:behindInMarks op b=false:=by first | exact nobehind _ (by decide) (by decide) | rfl):PT X (.Compare a [op] [b] pos) (tB t):=by
 intro pins s σ H Q I hw;refine wpAny_isTrue_Compare1 (thn (h pins s σ H _ I hw) fun v s1 h1=>thn h1 fun u s2 h2=>thn h2 fun c s3 ⟨x,H1,I1,r1,q1⟩=>?_) h1;obtain⟨d,rfl,q⟩:=q1;cases r1;exact wpAny_truthy_bool ⟨H1,I1,q⟩
theorem ze4{e:Expr}{t:TE}(h:PE X e t)(he:∀whole,isTrue e X.env whole=(do let v <-whole; standAt e.pos; holding [v] (truthy v)):=by intro _; rfl):PT X e (tB t):=by
 intro pins s σ H Q I hw;refine isTrue_plain (thn (h pins s σ H _ I hw) fun v s1 ⟨x,H1,I1,r1,q1⟩=>?_) (he _);obtain⟨d,rfl,q⟩:=q1;cases r1;exact wpAny_truthy_bool ⟨H1,I1,q⟩
variable {tA tB':TT} {rest:List Expr}
def tAnd(t u:TT):TT:=fun σ H Q=>t σ H fun c H1=>if c=true then u σ H1 Q else Q false H1
def tOr(t u:TT):TT:=fun σ H Q=>t σ H fun c H1=>if c=true then Q true H1 else u σ H1 Q
def tNot(t:TT):TT:=fun σ H Q=>t σ H fun c H1=>Q (!c) H1
theorem zft(ha:PT X a tA):PW X (.BoolOp .And [a] pos) tA:=by
 intro wh pins s σ H Q I h;refine isTrue_and (thn (ha pins s σ H Q I h) fun c s1 e=>?_);cases c with
 | true=>exact isTrue_and_nil e
 | false=>exact e
theorem zgf(ha:PT X a tA):PW X (.BoolOp .Or [a] pos) tA:=by
 intro wh pins s σ H Q I h;refine isTrue_or (thn (ha pins s σ H Q I h) fun c s1 e=>?_);cases c with
 | false=>exact isTrue_or_nil e
 | true=>exact e
theorem zgg(ha:PT X a tA)(hb:PW X (.BoolOp .And (b :: rest) pos) tB'):PW X (.BoolOp .And (a :: b :: rest) pos) (tAnd tA tB'):=by
 intro wh pins s σ H Q I h;refine isTrue_and (thn (ha pins s σ H _ I h) fun c s1 ⟨H1,I1,q1⟩=>?_);cases c with
 | true=>exact hb wh pins s1 σ H1 Q I1 q1
 | false=>exact⟨H1,I1,q1⟩
theorem zhk(ha:PT X a tA)(hb:PW X (.BoolOp .Or (b :: rest) pos) tB'):PW X (.BoolOp .Or (a :: b :: rest) pos) (tOr tA tB'):=by
 intro wh pins s σ H Q I h;refine isTrue_or (thn (ha pins s σ H _ I h) fun c s1 ⟨H1,I1,q1⟩=>?_);cases c with
 | true=>exact⟨H1,I1,q1⟩
 | false=>exact hb wh pins s1 σ H1 Q I1 q1
theorem zik(ha:PT X a tA):PT X (.UnaryOp .Not a pos) (tNot tA):=by
 intro pins s σ H Q I h;exact isTrue_not (ha pins s σ H (fun c H1=>Q (!c) H1) I h)
def tAndV(ta tb:TE):TE:=fun σ H Q=>ta σ H fun x H1=>∃c,x=.bl c/\if c=true then tb σ H1 Q else Q (.bl false) H1
def tOrV(ta tb:TE):TE:=fun σ H Q=>ta σ H fun x H1=>∃c,x=.bl c/\if c=true then Q (.bl true) H1 else tb σ H1 Q
def tNotV(ta:TE):TE:=fun σ H Q=>ta σ H fun x H1=>∃c,x=.bl c/\Q (.bl (!c)) H1
theorem zep{op}{t:TE}(h:PE X a t):PE X (.BoolOp op [a] pos) t:=fun pins s σ H Q I hw=>BoolOp_one (h pins s σ H Q I hw)
theorem zeq(ha:PE X a ta)(hb:PE X (.BoolOp .And (b :: rest) pos) tb):PE X (.BoolOp .And (a :: b :: rest) pos) (tAndV ta tb):=by
 intro pins s σ H Q I h;refine BoolOp_and (thn (ha pins s σ H _ I h) fun v s1 ⟨x,H1,I1,r1,q1⟩=>?_);obtain⟨c,rfl,q1⟩:=q1;cases r1;refine wpAny_truthy_bool ?_;cases c with
 | true=>exact hb pins s1 σ H1 Q I1 q1
 | false=>exact⟨.bl false,H1,I1,rfl,q1⟩
theorem zqb(ha:PE X a ta)(hb:PE X (.BoolOp .Or (b :: rest) pos) tb):PE X (.BoolOp .Or (a :: b :: rest) pos) (tOrV ta tb):=by
 intro pins s σ H Q I h;refine BoolOp_or (thn (ha pins s σ H _ I h) fun v s1 ⟨x,H1,I1,r1,q1⟩=>?_);obtain⟨c,rfl,q1⟩:=q1;cases r1;refine wpAny_truthy_bool ?_;cases c with
 | false=>exact hb pins s1 σ H1 Q I1 q1
 | true=>exact⟨.bl true,H1,I1,rfl,q1⟩
theorem zpj(ha:PE X a ta):PE X (.UnaryOp .Not a pos) (tNotV ta):=by
 intro pins s σ H Q I h;refine UnaryOp_ (thn (ha pins s σ H _ I h) fun v s1 ⟨x,H1,I1,r1,q1⟩=>?_);obtain⟨c,rfl,q1⟩:=q1;cases r1;exact not_of (wpAny_truthy_bool ⟨.bl (!c),H1,I1,rfl,q1⟩)
end
def SqL(K:PySem.W.Frag)(H:Hp)(a:Addr)(xs:List V):Prop :=
 Rd H a (.lst xs) \/
  ∃(o:Obj) (its:Array Value) (n:Nat),K.lookup a=some o/\o.cls=.type "list"/\o.dict=none/\o.data=.seq its n/\its.size<=sizeLine/\Vals xs its.toList
def SqT(K:PySem.W.Frag)(H:Hp)(a:Addr)(xs:List V):Prop :=
 Rd H a (.tup xs) \/
  ∃(o:Obj) (its:Array Value) (n:Nat),K.lookup a=some o/\o.cls=.type "tuple"/\o.data=.seq its n/\its.size<=sizeLine/\Vals xs its.toList
def absV:Value->Option V
 | .none=>some .non
 | .bool b=>some (.bl b)
 | .int i _=>some (.int i)
 | .str x _=>some (.str x)
 | .bytes b _=>some (.byt b)
 | .float b _=>some (.flt b)
 | .ref a=>some (.ref a)
 | .type n=>some (.ty n)
 | _=>none
theorem RelV.abs{x:V}{u:Value}(r:RelV x u):absV u=some x:=by
 cases x with
 | non=>cases r; rfl
 | bl _=>cases r; rfl
 | int _=>obtain⟨t,rfl⟩:=r; rfl
 | str _=>obtain⟨t,rfl⟩:=r; rfl
 | byt _=>obtain⟨t,rfl⟩:=r; rfl
 | flt _=>obtain⟨t,rfl⟩:=r; rfl
 | ref _=>cases r; rfl
 | ty _=>cases r; rfl
theorem RelV.inj{x y:V}{u:Value}(r:RelV x u)(q:RelV y u):x=y:=Option.some.inj (r.abs.symm.trans q.abs)
theorem Vals.inj:∀{xs ys:List V} {us:List Value},Vals xs us->Vals ys us->xs=ys
 | _,_,_,.nil,.nil=>rfl
 | _,_,_,.cons r t,.cons r' t'=>by rw[r.inj r',Vals.inj t t']
section
variable {X:Cx} {pins:List (Addr×Obj)} {σ:St} {H:Hp} {s:Shared} {a:Addr} {xs ys:List V}
theorem SqL.of{K:PySem.W.Frag}(h:H a=some (.lst xs)):SqL K H a xs:=.inl (.inl h)
theorem SqT.of{K:PySem.W.Frag}(h:H a=some (.tup xs)):SqT K H a xs:=.inl (.inl h)
theorem Inv.list(I:Inv X pins σ H s)(h:SqL X.K H a xs):∃its:List Value,Vals xs its/\PlainL s.heap a its.toArray/\xs.length<=sizeLine:=by
 rcases h with h | ⟨o,its,n,hk,hc,hd,hs,hz,r⟩
 ·obtain⟨z,its,n,r,e⟩:=h.ok I.hok;exact⟨its,r,⟨_,n,e,rfl,rfl,rfl⟩,z⟩
 ·refine⟨its.toList,r,⟨o,n,I.kIn a o hk,hc,hd,by simpa using hs⟩,?_⟩;have e:=r.length;simp only[Array.length_toList] at e;omega
theorem Inv.tuple(I:Inv X pins σ H s)(h:SqT X.K H a xs):∃its:List Value,Vals xs its/\IsTup s.heap a its.toArray/\xs.length<=sizeLine:=by
 rcases h with h | ⟨o,its,n,hk,hc,hs,hz,r⟩
 ·obtain⟨z,its,r,p,_⟩:=h.ok I.hok;exact⟨its,r,p,z⟩
 ·refine⟨its.toList,r,⟨o,I.kIn a o hk,hc,n,by simpa using hs⟩,?_⟩;have e:=r.length;simp only[Array.length_toList] at e;omega
theorem Inv.list_inj(I:Inv X pins σ H s)(h:SqL X.K H a xs)(h':SqL X.K H a ys):xs=ys:=by
 obtain⟨its,r,⟨o,n,e,_,_,d⟩,_⟩:=I.list h;obtain⟨its',r',⟨o',n',e',_,_,d'⟩,_⟩:=I.list h';rw[e] at e'; cases e';rw[d] at d';injection d' with d1 _
 have:its=its':=by simpa using congrArg Array.toList d1
 subst this;exact r.inj r'
theorem Inv.tuple_inj(I:Inv X pins σ H s)(h:SqT X.K H a xs)(h':SqT X.K H a ys):xs=ys:=by
 obtain⟨its,r,⟨o,e,_,n,d⟩,_⟩:=I.tuple h;obtain⟨its',r',⟨o',e',_,n',d'⟩,_⟩:=I.tuple h';rw[e] at e'; cases e';rw[d] at d';injection d' with d1 _
 have:its=its':=by simpa using congrArg Array.toList d1
 subst this;exact r.inj r'
end
abbrev Cx.wish(X:Cx)(E:Value->Shared->Prop):Cx:={ X with xe:=E }
abbrev Cx.nox(X:Cx):Cx:=X.wish fun _ _=>False
theorem Cx.Ok.wish{X:Cx}(ok:X.Ok)(E:Value->Shared->Prop):(X.wish E).Ok :=
 ⟨ok.mod,ok.kind,ok.glob,ok.blt,ok.above,ok.inj,ok.has,ok.cab,ok.hd,ok.frames,ok.stk,ok.exf,ok.bs,ok.bsz,ok.noex,ok.exfs,ok.funs,ok.frf⟩
theorem Cx.Ok.unwish{X:Cx}{E:Value->Shared->Prop}(ok:(X.wish E).Ok):X.Ok :=
 ⟨ok.mod,ok.kind,ok.glob,ok.blt,ok.above,ok.inj,ok.has,ok.cab,ok.hd,ok.frames,ok.stk,ok.exf,ok.bs,ok.bsz,ok.noex,ok.exfs,ok.funs,ok.frf⟩
section
variable {X:Cx} {pins:List (Addr×Obj)} {σ:St} {H:Hp} {s:Shared} {E:Value->Shared->Prop}
theorem Inv.wish(I:Inv X pins σ H s)(E:Value->Shared->Prop):Inv (X.wish E) pins σ H s:=⟨I.ok.wish E,I.os,I.bare,I.base,I.loc,I.cell,I.free,I.freeC,I.pin,I.hok,I.len⟩
theorem Inv.unwish(I:Inv (X.wish E) pins σ H s):Inv X pins σ H s:=⟨I.ok.unwish,I.os,I.bare,I.base,I.loc,I.cell,I.free,I.freeC,I.pin,I.hok,I.len⟩
theorem SP.unwish{D:Ends}{f:Flow}{s':Shared}(h:SP (X.wish E) pins D f s'):SP X pins D f s':=by
 cases f with
 | next=>obtain⟨σ',H',I,q⟩:=h; exact⟨σ',H',I.unwish,q⟩
 | brk=>obtain⟨σ',H',I,q⟩:=h; exact⟨σ',H',I.unwish,q⟩
 | cont=>obtain⟨σ',H',I,q⟩:=h; exact⟨σ',H',I.unwish,q⟩
 | ret u=>obtain⟨v,σ',H',I,r,q⟩:=h; exact⟨v,σ',H',I.unwish,r,q⟩
theorem PE.nox{e:Expr}{t:TE}(h:PE X.nox e t):PE X e t:=fun pins s σ H Q I hw =>
 wpAny_mono (h pins s σ H Q (I.wish _) hw) (fun _ _ ⟨v,H',I',r,q⟩=>⟨v,H',I'.unwish,r,q⟩) fun _ _ z=>False.elim z
theorem PT.nox{e:Expr}{t:TT}(h:PT X.nox e t):PT X e t:=fun pins s σ H Q I hw =>
 wpAny_mono (h pins s σ H Q (I.wish _) hw) (fun _ _ ⟨H',I',q⟩=>⟨H',I'.unwish,q⟩) fun _ _ z=>False.elim z
theorem PSs.nox{st:List Stmt}{t:TS}(h:PSs X.nox st t):PSs X st t:=fun pins s σ H D I hw =>
 wpAny_mono (h pins s σ H D (I.wish _) hw) (fun _ _ q=>q.unwish) fun _ _ z=>False.elim z
end
section
variable {X:Cx} {st:Stmt} {rest:List Stmt} {t u:TS} {e:Expr} {te:TE} {pos:Pos}
def tNext:TS:=fun D σ H=>D.nx σ H
def tSeq(t u:TS):TS:=fun D σ H=>t { D with nx:=u D } σ H
theorem zaj:PSs X [] tNext:=fun _ _ σ H _ I h=>wpAny_execs_nil ⟨σ,H,I,h⟩
theorem za5(h1:PS X st t)(h2:PSs X rest u):PSs X (st :: rest) (tSeq t u):=by
 intro pins s σ H D I h;refine wpAny_execs_cons (thn (h1 pins s σ H { D with nx:=u D } I h) fun f s1 q=>?_);cases f with
 | next =>
  obtain⟨σ',H',I',q⟩:=q;exact h2 pins s1 σ' H' D I' q
 | ret v=>exact q
 | brk=>exact q
 | cont=>exact q
theorem za6(h1:PS X st t):PSs X [st] t:=by
 intro pins s σ H D I h;refine wpAny_execs_cons (thn (h1 pins s σ H D I h) fun f s1 q=>?_);cases f with
 | next=>exact wpAny_execs_nil q
 | ret v=>exact q
 | brk=>exact q
 | cont=>exact q
theorem Inv.quiet{pins:List (Addr×Obj)}{σ:St}{H:Hp}{s:Shared}(I:Inv X pins σ H s):interactive X.env=false:=by simp[interactive,I.ok.kind]
def tDrop(te:TE):TS:=fun D σ H=>te σ H fun _ H1=>D.nx σ H1
theorem zdg(he:PE X e te)(hs:swapsWith e none pos.line X.env=pure false:=by rfl):PS X (.Expr e pos) (tDrop te):=by
 intro pins s σ H D I h;exact wpAny_Expr_any (thn (he pins s σ H _ I h) fun v s1 ⟨x,H1,I1,r1,q1⟩=>⟨σ,H1,I1,q1⟩) I.quiet hs
def tRet(te:TE):TS:=fun D σ H=>te σ H D.rt
theorem zad(he:PE X e te):PS X (.Return (some e) pos) (tRet te):=by
 intro pins s σ H D I h;exact wpAny_Return_some (thn (he pins s σ H _ I h) fun v s1 ⟨x,H1,I1,r1,q1⟩=>⟨x,σ,H1,I1,r1,q1⟩)
def tIfS(c:TT)(t u:TS):TS:=fun D σ H=>c σ H fun b H1=>if b=true then t D σ H1 else u D σ H1
theorem zaw{c:Expr}{a b:List Stmt}{tc:TT}(hc:PT X c tc)(ha:PSs X a t)(hb:PSs X b u):PS X (.If c a b pos) (tIfS tc t u):=by
 intro pins s σ H D I h;refine wpAny_If (thn (hc pins s σ H _ I h) fun d s1 ⟨H1,I1,q1⟩=>?_);cases d with
 | true=>exact ha pins s1 σ H1 D I1 q1
 | false=>exact hb pins s1 σ H1 D I1 q1
def tNever:TS:=fun _ _ _=>False
theorem ps_never:PS X st tNever:=fun _ _ _ _ _ _ h=>h.elim
end
abbrev TG:=V->St->Hp->(St->Hp->Prop)->Prop
abbrev TGs:=List V->St->Hp->(St->Hp->Prop)->Prop
def PG(X:Cx)(target:Expr)(t:TG):Prop :=
 ∀(pins:List (Addr×Obj)) (s:Shared) (σ:St) (H:Hp) (v:V) (u:Value) (Q:St->Hp->Prop),Inv X pins σ H s->RelV v u->t v σ H Q →
  wpAny (model X.prog X.w) X.A (assign target X.env u) (fun _ s'=>∃σ' H',Inv X pins σ' H' s'/\Q σ' H') X.xe s
def PGs(X:Cx)(ts:List Expr)(t:TGs):Prop :=
 ∀(pins:List (Addr×Obj)) (s:Shared) (σ:St) (H:Hp) (vs:List V) (us:List Value) (Q:St->Hp->Prop),Inv X pins σ H s->Vals vs us->t vs σ H Q →
  wpAny (model X.prog X.w) X.A (assignInOrder ((assignEach ts X.env).map (·.2)) us) (fun _ s'=>∃σ' H',Inv X pins σ' H' s'/\Q σ' H') X.xe s
abbrev TSet:=V->V->V->Hp->(Hp->Prop)->Prop
def PSet(X:Cx)(t:TSet):Prop :=
 ∀(pins:List (Addr×Obj)) (s:Shared) (σ:St) (H:Hp) (o i v:V) (ov iv u:Value) (Q:Hp->Prop),Inv X pins σ H s->RelV o ov->RelV i iv->RelV v u->t o i v H Q →
  wpAny (model X.prog X.w) X.A (setItem ov iv u) (fun _ s'=>∃H',Inv X pins σ H' s'/\Q H') X.xe s
section
variable {X:Cx} {pos:Pos}
def gName(i:Nat):TG:=fun v σ H Q=>Q (σ.set i (some v)) H
theorem zab{i:Nat}{x:Str}(hN:X.N.Nodup)(hi:X.N[i]?=some x)(hx:Loc X.env.scope x)(hf:X.fn x=true\/X.env.scope.names.lookup x=some .local:=by first | exact .inl rfl | exact .inr rfl | assumption):PG X (.Name x pos) (gName i):=by
 intro pins s σ H v u Q I r h;exact wpAny_assign_Name (zd6 I hN hi hx r (fun s' I'=>⟨_,H,I',h⟩) hf)
inductive GNilR(vs:List V)(σ:St)(H:Hp)(Q:St->Hp->Prop):Prop
 | mk (e:vs=[]) (q:Q σ H):GNilR vs σ H Q
def gNil:TGs:=fun vs σ H Q=>GNilR vs σ H Q
inductive GConsR(t:TG)(u:TGs)(vs:List V)(σ:St)(H:Hp)(Q:St->Hp->Prop):Prop
 | mk (v:V) (r:List V) (e:vs=v :: r) (q:t v σ H fun σ' H'=>u r σ' H' Q):GConsR t u vs σ H Q
def gCons(t:TG)(u:TGs):TGs:=fun vs σ H Q=>GConsR t u vs σ H Q
theorem zbd:PGs X [] gNil:=by
 intro pins s σ H vs us Q I r h;obtain⟨e,h⟩:=h;subst e;cases r;exact assignInOrder_nil ⟨σ,H,I,h⟩
theorem zae {e:Expr} {es:List Expr} {t:TG} {u:TGs} (h1:PG X e t) (h2:PGs X es u)
  (hs:(assignEach (e :: es) X.env).map (·.2)=assign e X.env :: (assignEach es X.env).map (·.2):=by rfl):PGs X (e :: es) (gCons t u):=by
 intro pins s σ H vs us Q I r h;obtain⟨v,vr,e1,h⟩:=h;subst e1;cases r with
 | cons r rr =>
  rw[hs];refine assignInOrder_cons (thn (h1 pins s σ H _ _ _ I r h) fun _ s1 ⟨σ1,H1,I1,q1⟩=>?_);exact h2 pins s1 σ1 H1 _ _ Q I1 rr q1
inductive GTupR(K:PySem.W.Frag)(n:Nat)(t:TGs)(v:V)(σ:St)(H:Hp)(Q:St->Hp->Prop):Prop
 | mk (a:Addr) (xs:List V) (e:v=.ref a) (s:SqT K H a xs) (l:xs.length=n) (q:t xs σ H Q):GTupR K n t v σ H Q
def gTup(K:PySem.W.Frag)(n:Nat)(t:TGs):TG:=fun v σ H Q=>GTupR K n t v σ H Q
theorem pg_tup {es:List Expr} {k:Nat} {t:TGs} {n:Nat} (hc:X.calm=true) (h:PGs X es t)
  (hn:(assignEach es X.env).length=n:=by rfl) (hst:(assignEach es X.env).findIdx? (·.1)=none:=by rfl):PG X (.Tuple es k pos) (gTup X.K n t):=by
 intro pins s σ H v u Q I r hw;obtain⟨a,xs,e1,hq,hl,hw⟩:=hw;subst e1;cases r;obtain⟨its,rv,ht,hz⟩:=I.tuple hq;refine assign_Tuple_tuple (I.ok.hd hc) ht (by simp[hn,<-hl,rv.length]) hst fun h' hx=>?_
 have I1:Inv X pins σ H { s with heap:=h' }:=I.kept (t':=s.toks) fun b o e=>hx b o (Nat.ne_of_lt (Heap.lt_size e)) e
 exact h pins _ σ H xs _ Q I1 (by simpa using rv) hw
def gSub(to ti:TE)(t:TSet):TG:=fun v σ H Q=>to σ H fun o H1=>ti σ H1 fun i H2=>t o i v H2 fun H3=>Q σ H3
theorem zl3 {o i:Expr} {to ti:TE} {t:TSet} (ho:PE X o to) (hi:PE X i ti) (hs:PSet X t)
  (ha:∀v,assign (.Subscript o i pos) X.env v=(do
   let ov <-holding [v] (eval o X.env)
   let iv <-holding [v,ov] (eval i X.env)
   standAt pos
   holding [v,ov,iv] (setItem ov iv v)
   release [v,ov,iv] []):=by intro _; rfl):PG X (.Subscript o i pos) (gSub to ti t):=by
 intro pins s σ H v u Q I r h;rw[ha];refine wpAny_bind (wpAny_holding (thn (ho pins s σ H _ I h) fun ov s1 ⟨x,H1,I1,r1,q1⟩=>?_));refine wpAny_bind (wpAny_holding (thn (hi pins s1 σ H1 _ I1 q1) fun iv s2 ⟨y,H2,I2,r2,q2⟩=>?_));refine wpAny_bind (wpAny_standAt (wpAny_bind (wpAny_holding (thn (hs pins s2 σ H2 x y v ov iv u _ I2 r1 r2 r q2) fun _ s3 ⟨H3,I3,q3⟩=>?_))));exact wpAny_release ⟨σ,H3,I3,q3⟩
def tAsg(te:TE)(g:TG):TS:=fun D σ H=>te σ H fun x H1=>g x σ H1 D.nx
theorem ze5 {tg e:Expr} {te:TE} {g:TG} (he:PE X e te) (hg:PG X tg g) (hs:swapsWithSole [tg] e pos.line X.env=pure false:=by rfl) (hw:swappedStores [tg] e X.env=pure none:=by rfl)
  (h1:(assignEach [tg] X.env).map (·.2)=[assign tg X.env]:=by rfl):PS X (.Assign [tg] e pos) (tAsg te g):=by
 intro pins s σ H D I h;refine wpAny_Assign_stores (thn (he pins s σ H _ I h) fun v s1 ⟨x,H1,I1,r1,q1⟩=>?_) hs hw;rw[h1];exact thn (hg pins s1 σ H1 x v _ I1 r1 q1) fun _ s2 q=>q
theorem za9{i:Nat}{x:Str}{e:Expr}{te:TE}{pos':Pos}(hN:X.N.Nodup)(hi:X.N[i]?=some x)(hx:Loc X.env.scope x)(he:PE X e te)(hs:swapsWith e (some (.Name x pos')) pos.line X.env=pure false:=by rfl)(hf:X.fn x=true\/X.env.scope.names.lookup x=some .local:=by first | exact .inl rfl | exact .inr rfl | assumption):
  PS X (.Assign [.Name x pos'] e pos) (tAsg te (gName i)):=by
 intro pins s σ H D I h;refine wpAny_Assign_Name (thn (he pins s σ H _ I h) fun v s1 ⟨y,H1,I1,r1,q1⟩=>?_) hs;exact zd6 I1 hN hi hx r1 (fun s2 I2=>⟨_,H1,I2,q1⟩) hf
end
section
variable {X:Cx} {pos:Pos}
def tWhile(c:TT)(tb:TS):TS:=fun D σ H=>∃W:Nat->St->Hp->Prop,(∃m,W m σ H)/\∀m σ H,W m σ H →
 c σ H fun b H1=>if b=true then ∃N:St->Hp->Prop,(∀σ' H',N σ' H'->∃m',m' < m/\W m' σ' H')/\tb { D with nx:=N,ct:=N,bk:=D.nx } σ H1 else D.nx σ H1
theorem zfu{c:Expr}{body:List Stmt}{tc:TT}{tb:TS}(hp:PassesOwn (model X.prog X.w) X.A X.env X.xe)(hc:PT X c tc)(hb:PSs X body tb):PS X (.While c body [] pos) (tWhile tc tb):=by
 intro pins s σ H D I h;obtain⟨W,⟨m0,w0⟩,turn⟩:=h;refine wpAny_While (codeAny_whileLoop (fun n s'=>∃σ' H',Inv X pins σ' H' s'/\W n σ' H') ?_ m0 ⟨σ,H,I,w0⟩);rintro n s1 ⟨σ1,H1,I1,w1⟩;refine wpAny_passesOwn hp (thn (hc pins s1 σ1 H1 _ I1 (turn n σ1 H1 w1)) fun b s2 ⟨H2,I2,q2⟩=>?_);cases b with
 | true =>
  obtain⟨N,hN,q2⟩:=q2;rw[if_pos rfl];refine wpAny_passesOwn hp (thn (hb pins s2 σ1 H2 _ I2 q2) fun f s3 q3=>?_);cases f with
  | next =>
   obtain⟨σ3,H3,I3,n3⟩:=q3;obtain⟨m',hm,w3⟩:=hN σ3 H3 n3;exact⟨m',hm,σ3,H3,I3,w3⟩
  | cont =>
   obtain⟨σ3,H3,I3,n3⟩:=q3;obtain⟨m',hm,w3⟩:=hN σ3 H3 n3;exact⟨m',hm,σ3,H3,I3,w3⟩
  | brk=>exact q3
  | ret v=>exact q3
 | false =>
  rw[if_neg Bool.false_ne_true];exact wpAny_execs_nil ⟨σ1,H2,I2,q2⟩
end
structure It where
 go:Nat->Hp->Prop
 yld:Nat->Hp->V->Hp->Prop
 stop:Nat->Hp->Prop
def FpOk(X:Cx)(pins:List (Addr×Obj))(H:Hp)(b:Addr):Prop :=
 H b=none/\b≠X.env.locals/\b∉X.fs/\(b∈X.ex\/X.s₀.heap.objs.size<=b)/\(∀x c,X.env.cells.lookup x=some c->c≠b)/\∀p∈X.pn++pins,p.1≠b
theorem Inv.fpOk{X:Cx}{pins:List (Addr×Obj)}{σ:St}{H H':Hp}{s:Shared}{b:Addr}(I:Inv X pins σ H s)(hb:s.heap.objs.size<=b)(hn:H' b=none):FpOk X pins H' b:=by
 refine⟨hn,Nat.ne_of_gt (Nat.lt_of_lt_of_le I.lt hb),I.nofs hb,.inr (Nat.le_trans I.sz hb),fun x c e z=>?_,fun p hp z=>?_⟩
 ·obtain⟨v,q⟩:=I.cell x c e;exact absurd (Nat.lt_of_lt_of_le q.lt (by rw[z]; exact hb)) (Nat.lt_irrefl _)
 ·exact absurd (Nat.lt_of_lt_of_le (Heap.lt_size (I.pin p hp).1) (by rw[z]; exact hb)) (Nat.lt_irrefl _)
structure Turn(P:Program)(w:World)(K:PySem.W.Frag)(tg:Expr)(J:It)(fp:List Addr)(it:Addr)(tn:Nat->Heap->Prop):Prop where
 mem:it∈fp
 obj:∀i h,tn i h->∀b∈fp,∃o,h.get? b=some o/\∀v,o.data≠.cell v
 keep:∀i h h',tn i h->(∀b∈fp,∀o,h.get? b=some o->h'.get? b=some o)->tn i h'
 item:∀(X:Cx),X.prog=P->X.w=w->X.K=K->X.calm=true->∀(i:Nat) (pins:List (Addr×Obj)) (s:Shared) (σ:St) (H:Hp) (E:Value->Shared->Prop),Inv X pins σ H s->(∀b∈fp,FpOk X pins H b)->tn i s.heap->J.go i H →
  wpAny (model P w) X.A (pyNext (.ref it)) (fun r s1=>∃u,r=some u /\
   wpAny (model P w) X.A (letOwnedTupleGo tg (.ref it) u) (fun _ s2=>∃x H',Inv X pins σ H' s2/\RelV x u/\J.yld i H x H'/\tn (i+1) s2.heap/\∀b∈fp,H' b=none) E s1) E s
 done:∀(X:Cx),X.prog=P->X.w=w->X.K=K->X.calm=true->∀(i:Nat) (pins:List (Addr×Obj)) (s:Shared) (σ:St) (H:Hp) (E:Value->Shared->Prop),Inv X pins σ H s->(∀b∈fp,FpOk X pins H b)->tn i s.heap->J.stop i H →
  wpAny (model P w) X.A (pyNext (.ref it)) (fun r s1=>r=none/\Inv X pins σ H s1) E s
 self:∀(A:Around) (i:Nat) (s:Shared) (Q:Value->Shared->Prop) (E:Value->Shared->Prop),tn i s.heap->Q (.ref it) s->wpAny (model P w) A (pyIter (.ref it)) Q E s
abbrev TI:=St->Hp->(It->Hp->Prop)->Prop
def PIE(X:Cx)(pins:List (Addr×Obj))(σ:St)(tg:Expr)(R:It->Hp->Prop)(itv:Value)(s2:Shared):Prop :=
 ∃(it:Addr) (fp:List Addr) (tn:Nat->Heap->Prop) (J:It) (H':Hp),itv=.ref it/\Inv X pins σ H' s2/\Turn X.prog X.w X.K tg J fp it tn/\tn 0 s2.heap/\(∀b∈fp,FpOk X pins H' b)/\R J H'
def PI(X:Cx)(tg iter:Expr)(wi:TI):Prop :=
 ∀(pins:List (Addr×Obj)) (s:Shared) (σ:St) (H:Hp) (R:It->Hp->Prop),Inv X pins σ H s->wi σ H R →
  wpAny (model X.prog X.w) X.A (eval iter X.env) (fun v s1=>wpAny (model X.prog X.w) X.A (pyIter v) (PIE X pins σ tg R) X.xe s1) X.xe s
theorem zr5 {M : Model} {A : Around} {E : Value → Shared → Prop} {s : Shared} {tg : Expr} {it : Addr} {u : Value} {o : Obj} {n : String} {vs : Array Value} {Q : Unit → Shared → Prop} (ho : s.heap.get? it = some o) (hc : o.cls = .type n) (hd : o.data = .fields vs)
    (hn : ["enumerate", "zip", "dict_itemiterator", "dict_reverseitemiterator", "odict_iterator", "itertools.zip_longest", "itertools.pairwise"].contains n = false) (hQ : Q () s) : wpAny M A (letOwnedTupleGo tg (.ref it) u) Q E s := by
  unfold letOwnedTupleGo;cases tg <;> first
    | exact wpAny_pure hQ
    | (cases u <;> first
        | exact wpAny_pure hQ
        | (refine wpAny_bind (wpAny_load ho ?_)
           rw[hc, hd];show wpAny M A (if (["enumerate", "zip", "dict_itemiterator", "dict_reverseitemiterator", "odict_iterator", "itertools.zip_longest", "itertools.pairwise"].contains n && vs[0]? == some (rawInt _)) = true then _ else _) Q E s;rw[if_neg (by intro h; rw[hn, Bool.false_and] at h; cases h)];exact wpAny_pure hQ))
def Itl(K:PySem.W.Frag)(a:Addr):It :=
 ⟨fun i H=>∃xs x,SqL K H a xs/\xs[i]?=some x,fun i H x H'=>H'=H/\∀xs,SqL K H a xs->xs[i]?=some x,fun i H=>∃xs,SqL K H a xs/\xs.length<=i⟩
def Itt(K:PySem.W.Frag)(a:Addr):It :=
 ⟨fun i H=>∃xs x,SqT K H a xs/\xs[i]?=some x,fun i H x H'=>H'=H/\∀xs,SqT K H a xs->xs[i]?=some x,fun i H=>∃xs,SqT K H a xs/\xs.length<=i⟩
def Itr(lo:Int)(n:Nat):It:=⟨fun i _=>i<n,fun i H x H'=>H'=H/\x=.int (lo+i),fun i _=>n<=i⟩
theorem zkf{P:Program}{w:World}{K:PySem.W.Frag}{tg:Expr}(a it:Addr):Turn P w K tg (Itl K a) [it] it (fun i h=>h.IsListIter it a i) where
 mem:=by simp
 obj:=fun i h st b hb=>by
  have e:b=it:=by simpa using hb
  subst e;obtain⟨o,e,c,d⟩:=st;exact⟨o,e,fun v z=>by rw[d] at z; cases z⟩
 keep:=fun i h h' st k=>st.at fun o e=>k it (by simp) o e
 item:=by
  intro X hP hw hK hc i pins s σ H E I hf st hg;subst hP hw hK;obtain⟨xs,x,hq,hx⟩:=hg;obtain⟨its,rv,p,hz⟩:=I.list hq;obtain⟨u,hu,ru⟩:=rv.get hx;obtain⟨f0,f1,f2,f3,f4,f5⟩:=hf it (by simp);refine wpAny_pyNext_list_item st p.isList (x:=u) (by simpa using hu) fun h' st' sb=>?_
  have I1:Inv X pins σ H { s with heap:=h' }:=I.turned (t':=s.toks) (fun b o hb e=>(sb.2 b hb).trans e) f0 f1 f3 f4 f5;obtain⟨o,e,c,d⟩:=id st';exact⟨u,rfl,zr5 (s:={ s with heap:=h' }) e c d (by decide) ⟨x,H,I1,ru,⟨rfl,fun ys hy=>by rw[I.list_inj hy hq]; exact hx⟩,st',fun b hb=>(hf b hb).1⟩⟩
 done:=by
  intro X hP hw hK hc i pins s σ H E I hf st hg;subst hP hw hK;obtain⟨xs,hq,hx⟩:=hg;obtain⟨its,rv,p,hz⟩:=I.list hq;obtain⟨f0,f1,f2,f3,f4,f5⟩:=hf it (by simp);have hl:=rv.length;exact wpAny_pyNext_list_end (I.ok.hd hc) st p.isList (by simp; omega) fun h' eb=>⟨rfl,I.turned (t':=s.toks) (fun b o hb e=>eb b o hb e) f0 f1 f3 f4 f5⟩
 self:=fun _ _ _ _ _ st h=>wpAny_pyIter_listiter st h
theorem zji{P:Program}{w:World}{K:PySem.W.Frag}{tg:Expr}(a it:Addr):Turn P w K tg (Itt K a) [it] it (fun i h=>h.IsTupleIter it a i) where
 mem:=by simp
 obj:=fun i h st b hb=>by
  have e:b=it:=by simpa using hb
  subst e;obtain⟨o,e,c,d⟩:=st;exact⟨o,e,fun v z=>by rw[d] at z; cases z⟩
 keep:=fun i h h' st k=>st.at fun o e=>k it (by simp) o e
 item:=by
  intro X hP hw hK hc i pins s σ H E I hf st hg;subst hP hw hK;obtain⟨xs,x,hq,hx⟩:=hg;obtain⟨its,rv,p,hz⟩:=I.tuple hq;obtain⟨u,hu,ru⟩:=rv.get hx;obtain⟨f0,f1,f2,f3,f4,f5⟩:=hf it (by simp);refine wpAny_pyNext_tuple_item st (show s.heap.IsTuple a its.toArray from p) (x:=u) (by simpa using hu) fun h' st' sb=>?_
  have I1:Inv X pins σ H { s with heap:=h' }:=I.turned (t':=s.toks) (fun b o hb e=>(sb.2 b hb).trans e) f0 f1 f3 f4 f5;obtain⟨o,e,c,d⟩:=id st';exact⟨u,rfl,zr5 (s:={ s with heap:=h' }) e c d (by decide) ⟨x,H,I1,ru,⟨rfl,fun ys hy=>by rw[I.tuple_inj hy hq]; exact hx⟩,st',fun b hb=>(hf b hb).1⟩⟩
 done:=by
  intro X hP hw hK hc i pins s σ H E I hf st hg;subst hP hw hK;obtain⟨xs,hq,hx⟩:=hg;obtain⟨its,rv,p,hz⟩:=I.tuple hq;obtain⟨f0,f1,f2,f3,f4,f5⟩:=hf it (by simp);have hl:=rv.length;exact wpAny_pyNext_tuple_end (I.ok.hd hc) st (show s.heap.IsTuple a its.toArray from p) (by simp; omega) fun h' eb=>⟨rfl,I.turned (t':=s.toks) (fun b o hb e=>eb b o hb e) f0 f1 f3 f4 f5⟩
 self:=fun _ _ _ _ _ st h=>wpAny_pyIter_tupleiter st h
theorem zjj{P:Program}{w:World}{K:PySem.W.Frag}{tg:Expr}(it:Addr)(lo:Int)(n:Nat):Turn P w K tg (Itr lo n) [it] it (fun i h=>IsRangeIter h it (lo+(i:Nat)*1) ((n:Int)-(i:Nat)) 1) where
 mem:=by simp
 obj:=fun i h st b hb=>by
  have e:b=it:=by simpa using hb
  subst e;exact⟨_,st,fun v z=>by
   have z':Data.fields _=Data.cell v:=z;cases z'⟩
 keep:=fun i h h' st k=>k it (by simp) _ st
 item:=by
  intro X hP hw hK hc i pins s σ H E I hf st hg;subst hP hw hK;obtain⟨f0,f1,f2,f3,f4,f5⟩:=hf it (by simp);have W:=Walks.range (prog:=X.prog) (w:=X.w) (I.ok.hd hc) it lo 1 n;refine W.item i s _ _ hg st fun v h' tk hv st' kk=>?_
  obtain⟨t,rfl⟩:=hv;have I1:Inv X pins σ H { s with heap:=h',toks:=tk }:=I.turned (fun b o hb e=>kk b o (by simpa using hb) e) f0 f1 f3 f4 f5;refine⟨_,rfl,zr5 (s:={ s with heap:=h',toks:=tk }) (n:="range_iterator") st' rfl rfl (by decide) ⟨.int (lo+i),H,I1,⟨t,?_⟩,⟨rfl,rfl⟩,st',fun b hb=>(hf b hb).1⟩⟩;rw[Int.mul_one]
 done:=by
  intro X hP hw hK hc i pins s σ H E I hf st hg;subst hP hw hK;obtain⟨f0,f1,f2,f3,f4,f5⟩:=hf it (by simp);exact wpAny_pyNext_range_end (I.ok.hd hc) st (by have:n<=i:=hg; omega) fun h' eb=>⟨rfl,I.turned (t':=s.toks) (fun b o hb e=>eb b o hb e) f0 f1 f3 f4 f5⟩
 self:=fun _ _ _ _ _ st h=>wpAny_pyIter_rangeiter st h
section
variable {X:Cx} {tg:Expr}
inductive IListR(K:PySem.W.Frag)(x:V)(H:Hp)(R:It->Hp->Prop):Prop
 | mk (a:Addr) (e:x=.ref a) (s:∃xs,SqL K H a xs) (q:R (Itl K a) H):IListR K x H R
inductive ITupR(K:PySem.W.Frag)(x:V)(H:Hp)(R:It->Hp->Prop):Prop
 | mk (a:Addr) (e:x=.ref a) (s:∃xs,SqT K H a xs) (q:R (Itt K a) H):ITupR K x H R
def iList(K:PySem.W.Frag)(tl:TE):TI:=fun σ H R=>tl σ H fun x H1=>IListR K x H1 R
def iTup(K:PySem.W.Frag)(tl:TE):TI:=fun σ H R=>tl σ H fun x H1=>ITupR K x H1 R
theorem zhn{l:Expr}{tl:TE}(hl:PE X l tl):PI X tg l (iList X.K tl):=by
 intro pins s σ H R I h;refine thn (hl pins s σ H _ I h) fun v s1 ⟨x,H1,I1,r1,q1⟩=>?_
 obtain⟨a,e,⟨xs,hq⟩,q⟩:=q1;subst e;cases r1;obtain⟨its,rv,p,hz⟩:=I1.list hq;refine wpAny_pyIter_list p.isList ?_;refine⟨s1.heap.objs.size,[s1.heap.objs.size],_,_,H1,rfl,I1.kept (t':=s1.toks) fun b o e=>Heap.get?_push_of_some _ e,zkf a _,⟨_,Heap.get?_push_size _ rfl,rfl,rfl⟩,fun b hb=>?_,q⟩;have e:b=s1.heap.objs.size:=by simpa using hb
 subst e;exact I1.fpOk (Nat.le_refl _) (I1.hok.fresh (Nat.le_refl _))
theorem zgh{l:Expr}{tl:TE}(hl:PE X l tl):PI X tg l (iTup X.K tl):=by
 intro pins s σ H R I h;refine thn (hl pins s σ H _ I h) fun v s1 ⟨x,H1,I1,r1,q1⟩=>?_
 obtain⟨a,e,⟨xs,hq⟩,q⟩:=q1;subst e;cases r1;obtain⟨its,rv,p,hz⟩:=I1.tuple hq;refine wpAny_pyIter_tuple (show s1.heap.IsTuple a its.toArray from p) ?_;refine⟨s1.heap.objs.size,[s1.heap.objs.size],_,_,H1,rfl,I1.kept (t':=s1.toks) fun b o e=>Heap.get?_push_of_some _ e,zji a _,⟨_,Heap.get?_push_size _ rfl,rfl,rfl⟩,fun b hb=>?_,q⟩;have e:b=s1.heap.objs.size:=by simpa using hb
 subst e;exact I1.fpOk (Nat.le_refl _) (I1.hok.fresh (Nat.le_refl _))
theorem zij {pins:List (Addr×Obj)} {σ:St} {H:Hp} {s:Shared} {R:It->Hp->Prop} {E:Value->Shared->Prop} {lo hi:Int} {t u v:Tok} {tk:Nat} (I:Inv X pins σ H s) (h1:-(2 ^ 62)<=lo) (h2:lo<2 ^ 62) (h3:-(2 ^ 62)<=hi) (h4:hi<2 ^ 62)
  (q:R (Itr lo (hi-lo).toNat) H):wpAny (model X.prog X.w) X.A (pyIter (.ref s.heap.objs.size)) (PIE X pins σ tg R) E { s with heap:=s.heap.push { cls:=.type "range",data:=.fields #[.int lo t,.int hi u,.int 1 v] },toks:=tk }:=by
 refine wpAny_pyIter_range (IsRange.new ..) (small_one h1 h2 h3 h4) ?_;have I1:Inv X pins σ H { s with heap:=s.heap.push { cls:=.type "range",data:=.fields #[.int lo t,.int hi u,.int 1 v] },toks:=tk }:=I.kept fun b o e=>Heap.get?_push_of_some _ e
 refine⟨(s.heap.push { cls:=.type "range",data:=.fields #[.int lo t,.int hi u,.int 1 v] }).objs.size,[(s.heap.push { cls:=.type "range",data:=.fields #[.int lo t,.int hi u,.int 1 v] }).objs.size],_,_,H,rfl,
  I1.kept (t':=tk) fun b o e=>Heap.get?_push_of_some _ e,zjj _ lo (hi-lo).toNat,?_,fun b hb=>?_,q⟩
 ·have e1:lo+((0:Nat):Int)*1=lo:=by simp
  have e2:(((hi-lo).toNat:Nat):Int)-((0:Nat):Int)=Builtin.Range.rangeSize lo hi 1:=by rw[rangeSize_one]; split <;> omega
  show IsRangeIter _ _ (lo+((0:Nat):Int)*1) ((((hi-lo).toNat:Nat):Int)-((0:Nat):Int)) 1;rw[e1,e2];exact Heap.get?_push_size _ rfl
 ·have e:b=(s.heap.push { cls:=.type "range",data:=.fields #[.int lo t,.int hi u,.int 1 v] }).objs.size:=by simpa using hb
  subst e;exact I1.fpOk (Nat.le_refl _) (I1.hok.fresh (Nat.le_refl _))
def iRng1(ta:TA):TI:=fun σ H R=>ta σ H fun vs H1=>∃j:Int,vs=[.int j]/\-(2 ^ 62)<=j/\j<2 ^ 62/\R (Itr 0 j.toNat) H1
def iRng2(ta:TA):TI:=fun σ H R=>ta σ H fun vs H1=>∃i j:Int,vs=[.int i,.int j]/\(-(2 ^ 62)<=i/\i<2 ^ 62/\-(2 ^ 62)<=j/\j<2 ^ 62)/\R (Itr i (j-i).toNat) H1
theorem zdn{a:Expr}{ta:TA}{p pos:Pos}(hg:Gl X "range")(hm:X.mg "range" = none)(ha:PA X [a] ta)(hs:starEach [a] X.env=[(false,eval a X.env)]:=by rfl):PI X tg (.Call (.Name "range" p) [a] [] pos) (iRng1 ta):=by
 intro pins s σ H R I h;refine Call_ (ze7 I hg hm boot_range (PyProof.Rows.callWith_type1 (thn (ha pos pins s σ H _ I h) fun us s1 ⟨vs,H1,I1,r1,q1⟩=>?_) hs rfl));obtain⟨j,e,q1,q2,q⟩:=q1;subst e;cases r1 with
 | cons r rr =>
  cases rr;obtain⟨t,rfl⟩:=r;exact call_range_1 (zij I1 (by omega) (by omega) q1 q2 (by simpa using q))
theorem zcd{a b:Expr}{ta:TA}{p pos:Pos}(hg:Gl X "range")(hm:X.mg "range" = none)(ha:PA X [a,b] ta)(hs:starEach [a,b] X.env=[(false,eval a X.env),(false,eval b X.env)]:=by rfl)(hs2:starEach [b] X.env=[(false,eval b X.env)]:=by rfl):
  PI X tg (.Call (.Name "range" p) [a,b] [] pos) (iRng2 ta):=by
 intro pins s σ H R I h;refine Call_ (ze7 I hg hm boot_range (PyProof.Rows.callWith_type1 (thn (ha pos pins s σ H _ I h) fun us s1 ⟨vs,H1,I1,r1,q1⟩=>?_) (by rw[hs,hs2]) (by rw[hs2]; rfl)));obtain⟨i,j,e,⟨q1,q2,q3,q4⟩,q⟩:=q1;subst e;cases r1 with
 | cons r rr =>
  cases rr with
  | cons r' rr =>
   cases rr;obtain⟨t,rfl⟩:=r;obtain⟨t',rfl⟩:=r';exact call_range_2 (zij I1 q1 q2 q3 q4 q)
def tFor(wi:TI)(g:TG)(tb:TS):TS:=fun D σ H=>wi σ H fun J H1=>∃W:Nat->Nat->St->Hp->Prop,(∃m,W 0 m σ H1)/\∀i m σ H,W i m σ H →
 (J.stop i H/\D.nx σ H)\/(J.go i H/\∃N:St->Hp->Prop,(∀σ' H',N σ' H'->∃m',m' < m/\W (i+1) m' σ' H')/\∀x H',J.yld i H x H'->g x σ H' fun σ2 H2=>tb { D with nx:=N,ct:=N,bk:=D.nx } σ2 H2)
def pinsAt(fp:List Addr)(h:Heap):List (Addr×Obj):=fp.filterMap fun b=>(h.get? b).map fun o=>(b,o)
theorem zdb{fp:List Addr}{h:Heap}{b:Addr}{o:Obj}(hb:b∈fp)(e:h.get? b=some o):(b,o)∈pinsAt fp h:=List.mem_filterMap.mpr ⟨b,hb,by rw[e]; rfl⟩
theorem zli{fp:List Addr}{h:Heap}{p:Addr×Obj}(hp:p∈pinsAt fp h):p.1∈fp/\h.get? p.1=some p.2:=by
 obtain⟨b,hb,e⟩:=List.mem_filterMap.mp hp;cases q:h.get? b with
 | none=>rw[q] at e; cases e
 | some o =>
  rw[q] at e;have e':(b,o)=p:=Option.some.inj e;subst e';exact⟨hb,q⟩
theorem Inv.pinned{pins:List (Addr×Obj)}{σ:St}{H:Hp}{s:Shared}{fp:List Addr}(I:Inv X pins σ H s)(hf:∀b∈fp,FpOk X pins H b)(ho:∀b∈fp,∃o,s.heap.get? b=some o/\∀v,o.data≠.cell v):Inv X (pins++pinsAt fp s.heap) σ H s :=
 I.pins_of fun p hp=>(List.mem_append.mp hp).elim (fun z=>I.pin p (List.mem_append_right _ z)) fun z=>by
  obtain⟨hb,e⟩:=zli z;obtain⟨f0,f1,f2,_⟩:=hf p.1 hb;obtain⟨o,e',d⟩:=ho p.1 hb;rw[e] at e'; cases e';exact⟨e,f0,f1,f2,d⟩
theorem Inv.unpinned{pins pl:List (Addr×Obj)}{σ:St}{H:Hp}{s:Shared}(I:Inv X (pins++pl) σ H s):Inv X pins σ H s:=I.pins_of fun p hp=>I.pin p (List.mem_append_right _ (List.mem_append_left _ hp))
theorem zb9 {iter:Expr} {body:List Stmt} {wi:TI} {g:TG} {tb:TS} {pos:Pos} (hp:PassesOwn (model X.prog X.w) X.A X.env X.xe) (hc:X.calm=true) (hi:PI X tg iter wi) (hg:PG X tg g) (hb:PSs X body tb)
  (hs:∀x,foldedSetIterable iter X.env x=pure x:=by intro _; rfl):PS X (.For tg iter body [] pos) (tFor wi g tb):=by
 intro pins s σ H D I h;refine wpAny_For (thn (hi pins s σ H _ I h) fun v s1 h1=>thn h1 fun itv s2 h2=>?_) hs;obtain⟨it,fp,tn,J,H2,e,I2,T,st2,f2,W,⟨m0,w0⟩,turn⟩:=h2;subst e;have stat:∀{H':Hp},(∀b∈fp,H' b=none)->∀b∈fp,FpOk X pins H' b:=fun hn b hb=>⟨hn b hb,(f2 b hb).2⟩
 refine codeAny_forLoop_any (fun n s'=>∃i σ' H',Inv X pins σ' H' s'/\tn i s'.heap/\(∀b∈fp,H' b=none)/\W i n σ' H') ?_ m0 ⟨0,σ,H2,I2,st2,fun b hb=>(f2 b hb).1,w0⟩;rintro n s3 ⟨i,σ3,H3,I3,st3,fr3,w3⟩;rcases turn i n σ3 H3 w3 with ⟨stop,qn⟩ | ⟨go,N,hN,step⟩
 ·refine wpAny_passesOwn hp (thn (T.done X rfl rfl rfl hc i pins s3 σ3 H3 X.xe I3 (stat fr3) st3 stop) fun r s4 ⟨hr,I4⟩=>?_);subst hr;exact wpAny_execs_nil ⟨σ3,H3,I4,qn⟩
 ·refine wpAny_passesOwn hp (thn (T.item X rfl rfl rfl hc i pins s3 σ3 H3 X.xe I3 (stat fr3) st3 go) fun r s4 ⟨u,hr,h4⟩=>?_);subst hr;refine wpAny_passesOwn hp (thn h4 fun _ s5 ⟨x,H5,I5,r5,y5,st5,fr5⟩=>?_);have I5':=I5.pinned (stat fr5) (T.obj _ _ st5);refine wpAny_passesOwn hp (thn (hg _ s5 σ3 H5 x u _ I5' r5 (step x H5 y5)) fun _ s6 ⟨σ6,H6,I6,q6⟩=>?_);refine wpAny_passesOwn hp (thn (hb _ s6 σ6 H6 _ I6 q6) fun f s7 q7=>?_);have again:∀{σ7:St} {H7:Hp},Inv X (pins++pinsAt fp s5.heap) σ7 H7 s7->N σ7 H7->∃m,m<n/\∃i σ' H',Inv X pins σ' H' s7/\tn i s7.heap/\(∀b∈fp,H' b=none)/\W i m σ' H':=fun {σ7 H7} I7 n7=>by
   obtain⟨m',hm,w7⟩:=hN σ7 H7 n7;refine⟨m',hm,i+1,σ7,H7,I7.unpinned,T.keep _ _ _ st5 fun b hb o e=>(I7.pin (b,o) (List.mem_append_right _ (List.mem_append_right _ (zdb hb e)))).1,fun b hb=>?_,w7⟩;obtain⟨o,e,d⟩:=T.obj _ _ st5 b hb;exact(I7.pin (b,o) (List.mem_append_right _ (List.mem_append_right _ (zdb hb e)))).2.1
  cases f with
  | next=>obtain⟨σ7,H7,I7,n7⟩:=q7; exact again I7 n7
  | cont=>obtain⟨σ7,H7,I7,n7⟩:=q7; exact again I7 n7
  | brk=>obtain⟨σ7,H7,I7,q7⟩:=q7; exact⟨σ7,H7,I7.unpinned,q7⟩
  | ret v=>obtain⟨x7,σ7,H7,I7,r7,q7⟩:=q7; exact⟨x7,σ7,H7,I7.unpinned,r7,q7⟩
end
theorem zg1 {K:PySem.W.Frag} {a:Addr} {xs:List V} {g:TG} {tb:TS} {D:Ends} {σ:St} {H:Hp} (Pv:Nat->St->Hp->Prop) (h0:Pv 0 σ H) (hl:∀i σ H,i<=xs.length->Pv i σ H->SqL K H a xs)
  (hs:∀i x σ H,xs[i]?=some x->Pv i σ H->g x σ H fun σ2 H2=>tb { D with nx:=Pv (i+1),ct:=Pv (i+1),bk:=D.nx } σ2 H2) (hd:∀σ H,Pv xs.length σ H->D.nx σ H) :
  ∃W:Nat->Nat->St->Hp->Prop,(∃m,W 0 m σ H)/\∀i m σ H,W i m σ H →
   ((Itl K a).stop i H/\D.nx σ H)\/((Itl K a).go i H/\∃N:St->Hp->Prop,(∀σ' H',N σ' H'->∃m',m' < m/\W (i+1) m' σ' H')/\∀x H',(Itl K a).yld i H x H'->g x σ H' fun σ2 H2=>tb { D with nx:=N,ct:=N,bk:=D.nx } σ2 H2):=by
 refine⟨fun i m σ H=>m=xs.length-i/\i<=xs.length/\Pv i σ H,⟨xs.length,by simp,Nat.zero_le _,h0⟩,?_⟩;rintro i m σ H ⟨rfl,hi,p⟩;have q:=hl i σ H hi p;by_cases hlt:i<xs.length
 ·refine .inr ⟨⟨xs,xs[i],q,by simp[hlt]⟩,Pv (i+1),fun σ' H' p'=>⟨xs.length-(i+1),by omega,rfl,hlt,p'⟩,fun x H' y=>?_⟩;obtain⟨e,y⟩:=y;subst e;exact hs i x σ _ (y xs q) p
 ·have e:i=xs.length:=by omega
  subst e;exact .inl ⟨⟨xs,q,Nat.le_refl _⟩,hd σ H p⟩
theorem zr9 {K:PySem.W.Frag} {a:Addr} {xs:List V} {g:TG} {tb:TS} {D:Ends} {σ:St} {H:Hp} (Pv:Nat->St->Hp->Prop) (h0:Pv 0 σ H) (hl:∀i σ H,i<=xs.length->Pv i σ H->SqT K H a xs)
  (hs:∀i x σ H,xs[i]?=some x->Pv i σ H->g x σ H fun σ2 H2=>tb { D with nx:=Pv (i+1),ct:=Pv (i+1),bk:=D.nx } σ2 H2) (hd:∀σ H,Pv xs.length σ H->D.nx σ H) :
  ∃W:Nat->Nat->St->Hp->Prop,(∃m,W 0 m σ H)/\∀i m σ H,W i m σ H →
   ((Itt K a).stop i H/\D.nx σ H)\/((Itt K a).go i H/\∃N:St->Hp->Prop,(∀σ' H',N σ' H'->∃m',m' < m/\W (i+1) m' σ' H')/\∀x H',(Itt K a).yld i H x H'->g x σ H' fun σ2 H2=>tb { D with nx:=N,ct:=N,bk:=D.nx } σ2 H2):=by
 refine⟨fun i m σ H=>m=xs.length-i/\i<=xs.length/\Pv i σ H,⟨xs.length,by simp,Nat.zero_le _,h0⟩,?_⟩;rintro i m σ H ⟨rfl,hi,p⟩;have q:=hl i σ H hi p;by_cases hlt:i<xs.length
 ·refine .inr ⟨⟨xs,xs[i],q,by simp[hlt]⟩,Pv (i+1),fun σ' H' p'=>⟨xs.length-(i+1),by omega,rfl,hlt,p'⟩,fun x H' y=>?_⟩;obtain⟨e,y⟩:=y;subst e;exact hs i x σ _ (y xs q) p
 ·have e:i=xs.length:=by omega
  subst e;exact .inl ⟨⟨xs,q,Nat.le_refl _⟩,hd σ H p⟩
theorem zbp {lo:Int} {n:Nat} {g:TG} {tb:TS} {D:Ends} {σ:St} {H:Hp} (Pv:Nat->St->Hp->Prop) (h0:Pv 0 σ H)
  (hs:∀i σ H,i<n->Pv i σ H->g (.int (lo+i)) σ H fun σ2 H2=>tb { D with nx:=Pv (i+1),ct:=Pv (i+1),bk:=D.nx } σ2 H2) (hd:∀σ H,Pv n σ H->D.nx σ H) :
  ∃W:Nat->Nat->St->Hp->Prop,(∃m,W 0 m σ H)/\∀i m σ H,W i m σ H →
   ((Itr lo n).stop i H/\D.nx σ H)\/((Itr lo n).go i H/\∃N:St->Hp->Prop,(∀σ' H',N σ' H'->∃m',m' < m/\W (i+1) m' σ' H')/\∀x H',(Itr lo n).yld i H x H'->g x σ H' fun σ2 H2=>tb { D with nx:=N,ct:=N,bk:=D.nx } σ2 H2):=by
 refine⟨fun i m σ H=>m=n-i/\i<=n/\Pv i σ H,⟨n,by simp,Nat.zero_le _,h0⟩,?_⟩;rintro i m σ H ⟨rfl,hi,p⟩;by_cases hlt:i<n
 ·refine .inr ⟨hlt,Pv (i+1),fun σ' H' p'=>⟨n-(i+1),by omega,rfl,hlt,p'⟩,fun x H' y=>?_⟩;obtain⟨e,y⟩:=y;subst e y;exact hs i σ _ hlt p
 ·have e:i=n:=by omega
  subst e;exact .inl ⟨Nat.le_refl _,hd σ H p⟩
theorem zfp {c:TT} {tb:TS} {D:Ends} {σ:St} {H:Hp} (Pv:St->Hp->Prop) (μ:St->Hp->Nat) (h0:Pv σ H)
  (hs:∀σ H,Pv σ H->c σ H fun b H1=>if b=true then tb { D with nx:=fun σ' H'=>Pv σ' H'/\μ σ' H' < μ σ H,ct:=fun σ' H'=>Pv σ' H'/\μ σ' H' < μ σ H,bk:=D.nx } σ H1 else D.nx σ H1)
  (mono:∀σ H Q Q',(∀b H1,Q b H1->Q' b H1)->c σ H Q->c σ H Q'):tWhile c tb D σ H:=by
 refine⟨fun m σ H=>m=μ σ H/\Pv σ H,⟨_,rfl,h0⟩,?_⟩;rintro m σ H ⟨rfl,p⟩;refine mono σ H _ _ (fun b H1 q=>?_) (hs σ H p);cases b with
 | true=>exact⟨_,fun σ' H' ⟨p',l⟩=>⟨_,l,rfl,p'⟩,q⟩
 | false=>exact q
abbrev R2:=V->V->Hp->VK->Prop
def OpR(X:Cx)(f:Value->Value->Sem Value)(r:R2):Prop :=
 ∀(pins:List (Addr×Obj)) (s:Shared) (σ:St) (H:Hp) (x y:V) (v u:Value) (Q:VK),Inv X pins σ H s->RelV x v->RelV y u->r x y H Q →
  wpAny (model X.prog X.w) X.A (f v u) (EP X pins σ Q) X.xe s
def UnR(X:Cx)(f:Value->Sem Value)(r:V->Hp->VK->Prop):Prop :=
 ∀(pins:List (Addr×Obj)) (s:Shared) (σ:St) (H:Hp) (x:V) (v:Value) (Q:VK),Inv X pins σ H s->RelV x v->r x H Q →
  wpAny (model X.prog X.w) X.A (f v) (EP X pins σ Q) X.xe s
def CallR(X:Cx)(f:Value)(r:List V->Hp->VK->Prop):Prop :=
 ∀(pins:List (Addr×Obj)) (s:Shared) (σ:St) (H:Hp) (xs:List V) (us:List Value) (Q:VK),Inv X pins σ H s->Vals xs us->r xs H Q →
  wpAny (model X.prog X.w) X.A (call f us) (EP X pins σ Q) X.xe s
def TruR(X:Cx)(r:V->Hp->(Bool->Hp->Prop)->Prop):Prop :=
 ∀(pins:List (Addr×Obj)) (s:Shared) (σ:St) (H:Hp) (x:V) (v:Value) (Q:Bool->Hp->Prop),Inv X pins σ H s->RelV x v->r x H Q →
  wpAny (model X.prog X.w) X.A (truthy v) (TP X pins σ Q) X.xe s
def tOp(r:R2)(ta tb:TE):TE:=fun σ H Q=>ta σ H fun x H1=>tb σ H1 fun y H2=>r x y H2 Q
def tUn(r:V->Hp->VK->Prop)(ta:TE):TE:=fun σ H Q=>ta σ H fun x H1=>r x H1 Q
inductive IR(C:Int->Int->Prop)(g:Int->Int->V)(x y:V)(H:Hp)(Q:VK):Prop
 | mk (i j:Int) (a:x=.int i) (b:y=.int j) (c:C i j) (q:Q (g i j) H):IR C g x y H Q
def rI(C:Int->Int->Prop)(g:Int->Int->V):R2:=fun x y H Q=>IR C g x y H Q
inductive I0R(g:Int->Int->V)(x y:V)(H:Hp)(Q:VK):Prop
 | mk (i j:Int) (a:x=.int i) (b:y=.int j) (q:Q (g i j) H):I0R g x y H Q
def rI0(g:Int->Int->V):R2:=fun x y H Q=>I0R g x y H Q
def rU(g:Int->V):V->Hp->VK->Prop:=fun x H Q=>∃i,x=.int i/\Q (g i) H
section
variable {X:Cx} {a b c:Expr} {ta tb tc:TE} {pos:Pos}
theorem binT (ha:PE X a ta) (hb:PE X b tb) {pins:List (Addr×Obj)} {s:Shared} {σ:St} {H:Hp} {R:V->V->Hp->Prop} (I:Inv X pins σ H s)
  (h:ta σ H fun x H1=>tb σ H1 fun y H2=>R x y H2) {Q:Value->Shared->Prop} {f:Value->Value->Sem Value}
  (hf:∀v u s2 x y H2,Inv X pins σ H2 s2->RelV x v->RelV y u->R x y H2->wpAny (model X.prog X.w) X.A (f v u) Q X.xe s2) :
  wpAny (model X.prog X.w) X.A (eval a X.env) (fun v s₁=>wpAny (model X.prog X.w) X.A (eval b X.env) (fun u s₂=>wpAny (model X.prog X.w) X.A (f v u) Q X.xe s₂) X.xe s₁) X.xe s:=by
 refine thn (ha pins s σ H _ I h) fun v s1 ⟨x,H1,I1,r1,q1⟩=>?_
 refine thn (hb pins s1 σ H1 _ I1 q1) fun u s2 ⟨y,H2,I2,r2,q2⟩=>?_
 exact hf v u s2 x y H2 I2 r1 r2 q2
theorem zaa{op:Operator}{r:R2}(ho:OpR X (binaryOp op) r)(ha:PE X a ta)(hb:PE X b tb):PE X (.BinOp a op b pos) (tOp r ta tb):=by
 intro pins s σ H Q I h;exact wpAny_BinOp (binT ha hb I h fun v u s2 x y H2 I2 rx ry q=>ho pins s2 σ H2 x y v u Q I2 rx ry q)
theorem zhp{op:UnaryOp}{r:V->Hp->VK->Prop}(ho:UnR X (unaryOp op) r)(ha:PE X a ta):PE X (.UnaryOp op a pos) (tUn r ta):=by
 intro pins s σ H Q I h;exact UnaryOp_ (thn (ha pins s σ H _ I h) fun v s1 ⟨x,H1,I1,r1,q1⟩=>ho pins s1 σ H1 x v Q I1 r1 q1)
theorem opI {f:Value->Value->Sem Value} {C:Int->Int->Prop} {g:Int->Int->Int}
  (rule:∀(i j:Int) (t u:Tok) (s:Shared) (Q:Value->Shared->Prop) (E:Value->Shared->Prop),C i j->Q (.int (g i j) s.toks) { s with toks:=s.toks+1 }->wpAny (model X.prog X.w) X.A (f (.int i t) (.int j u)) Q E s) :
  OpR X f (rI C fun i j=>.int (g i j)):=by
 intro pins s σ H x y v u Q I rx ry h;obtain⟨i,j,rfl,rfl,hc,q⟩:=h;obtain⟨t,rfl⟩:=rx;obtain⟨t',rfl⟩:=ry;exact rule i j t t' s _ _ hc ⟨.int (g i j),H,I.tok _,⟨_,rfl⟩,q⟩
theorem opI0 {f:Value->Value->Sem Value} {g:Int->Int->Int}
  (rule:∀(i j:Int) (t u:Tok) (s:Shared) (Q:Value->Shared->Prop) (E:Value->Shared->Prop),Q (.int (g i j) s.toks) { s with toks:=s.toks+1 }->wpAny (model X.prog X.w) X.A (f (.int i t) (.int j u)) Q E s) :
  OpR X f (rI0 fun i j=>.int (g i j)):=by
 intro pins s σ H x y v u Q I rx ry h;obtain⟨i,j,rfl,rfl,q⟩:=h;obtain⟨t,rfl⟩:=rx;obtain⟨t',rfl⟩:=ry;exact rule i j t t' s _ _ ⟨.int (g i j),H,I.tok _,⟨_,rfl⟩,q⟩
theorem opB0 {f:Value->Value->Sem Value} {g:Int->Int->Bool}
  (rule:∀(i j:Int) (t u:Tok) (s:Shared) (Q:Value->Shared->Prop) (E:Value->Shared->Prop),Q (.bool (g i j)) s->wpAny (model X.prog X.w) X.A (f (.int i t) (.int j u)) Q E s) :
  OpR X f (rI0 fun i j=>.bl (g i j)):=by
 intro pins s σ H x y v u Q I rx ry h;obtain⟨i,j,rfl,rfl,q⟩:=h;obtain⟨t,rfl⟩:=rx;obtain⟨t',rfl⟩:=ry;exact rule i j t t' s _ _ ⟨.bl (g i j),H,I,rfl,q⟩
def CDiv(i j:Int):Prop:=0<j/\j<1073741824
def CPow(i j:Int):Prop:=0<=j/\j<=1000000/\i.natAbs<2 ^ 64
def CMul(i j:Int):Prop:=(-(2 ^ 64)<i/\i<2 ^ 64)\/(-(2 ^ 64)<j/\j<2 ^ 64)
theorem CMul.ok{i j:Int}(h:CMul i j):IntMulOk i j:=by
 rcases h with ⟨h1,h2⟩ | ⟨h1,h2⟩
 ·exact .of_left (intBits_le_64 h1 h2)
 ·exact .of_right (intBits_le_64 h1 h2)
theorem zal:OpR X (binaryOp .Add) (rI0 fun i j=>.int (i+j)):=opI0 fun _ _ _ _ _ _ _ q=>add_int q
theorem zav:OpR X (binaryOp .Sub) (rI0 fun i j=>.int (i-j)):=opI0 fun _ _ _ _ _ _ _ q=>sub_int q
theorem zld:OpR X (binaryOp .Mult) (rI CMul fun i j=>.int (i*j)):=opI fun _ _ _ _ _ _ _ hc q=>mul_int q hc.ok
theorem zer:OpR X (binaryOp .FloorDiv) (rI CDiv fun i j=>.int (i / j)):=opI fun i j _ _ _ _ _ hc q=>by
 have h1:(0:Int)<j:=hc.1;have h2:j<1073741824:=hc.2;exact floordiv_int (by omega) (by rw[Int.fdiv_eq_ediv_of_nonneg i (by omega)]; exact q) (.inl (PyProof.noPylong_small (by omega)))
theorem zb4:OpR X (binaryOp .Mod) (rI (fun _ j=>0<j) fun i j=>.int (i % j)):=opI fun i j _ _ _ _ _ hc q=>by
 have h1:(0:Int)<j:=hc;exact mod_int' (by omega) (by rw[Int.fmod_eq_emod_of_nonneg i (by omega)]; exact q)
theorem zqe:OpR X (binaryOp .Mod) (rI (fun _ j=>j≠0) fun i j=>.int (i.fmod j)):=opI fun _ _ _ _ _ _ _ hc q=>mod_int' hc q
theorem op_pow:OpR X (binaryOp .Pow) (rI CPow fun i j=>.int (i ^ j.toNat)):=opI fun _ _ _ _ _ _ _ hc q=>pow_int_small hc.1 hc.2.1 hc.2.2 q
theorem unI {f:Value->Sem Value} {g:Int->Int}
  (rule:∀(i:Int) (t:Tok) (s:Shared) (Q:Value->Shared->Prop) (E:Value->Shared->Prop),Q (.int (g i) s.toks) { s with toks:=s.toks+1 }->wpAny (model X.prog X.w) X.A (f (.int i t)) Q E s) :
  UnR X f (rU fun i=>.int (g i)):=by
 intro pins s σ H x v Q I rx h;obtain⟨i,rfl,q⟩:=h;obtain⟨t,rfl⟩:=rx;exact rule i t s _ _ ⟨.int (g i),H,I.tok _,⟨_,rfl⟩,q⟩
theorem zej:UnR X (unaryOp .USub) (rU fun i=>.int (-i)):=unI fun _ _ _ _ _ q=>neg_int q
end
def scal:V->V->Bool
 | .non,.non=>true | .non,.int _=>true | .int _,.non=>true | .non,.bl _=>true | .bl _,.non=>true | .non,.str _=>true | .str _,.non=>true
 | .int _,.int _=>true | .bl _,.bl _=>true | .str _,.str _=>true | .byt _,.byt _=>true
 | .int _,.str _=>true | .str _,.int _=>true | .bl _,.str _=>true | .str _,.bl _=>true
 | _,_=>false
inductive EqR(x y:V)(H:Hp)(Q:VK):Prop
 | mk (c:scal x y=true) (q:Q (.bl (decide (x=y))) H):EqR x y H Q
inductive NeR(x y:V)(H:Hp)(Q:VK):Prop
 | mk (c:scal x y=true) (q:Q (.bl (!decide (x=y))) H):NeR x y H Q
def rEq:R2:=fun x y H Q=>EqR x y H Q
def rNe:R2:=fun x y H Q=>NeR x y H Q
theorem zg3{i j:Int}:decide (V.int i=V.int j)=(i == j):=by
 rw[Bool.eq_iff_iff];simp
theorem zmv{i j:Bool}:decide (V.bl i=V.bl j)=(i == j):=by
 rw[Bool.eq_iff_iff];simp
theorem zmt{i j:Str}:decide (V.str i=V.str j)=(i == j):=by
 rw[Bool.eq_iff_iff];simp
theorem zmu{i j:Array UInt8}:decide (V.byt i=V.byt j)=(i.toList == j.toList):=by
 rw[Bool.eq_iff_iff];cases i;cases j;simp
section
variable {X:Cx} {a b c:Expr} {ta tb tc:TE} {pos:Pos}
theorem zam{pins:List (Addr×Obj)}{σ:St}{H:Hp}{s:Shared}{Q:VK}{k k':Bool}(I:Inv X pins σ H s)(q:Q (.bl k) H)(e:k=k'):EP X pins σ Q (.bool k') s:=by
 subst e;exact⟨.bl k,H,I,rfl,q⟩
theorem zcj:OpR X (compareOp .Eq) rEq:=by
 intro pins s σ H x y v u Q I rx ry h;obtain⟨hs,q⟩:=h;cases x with
 | non =>
  cases rx;cases y with
  | non=>cases ry; exact PySem.EqNone.eq_none_none (zam I q (by simp))
  | bl j=>cases ry; exact PySem.EqNone.eq_none_bool (zam I q (by simp))
  | int j=>obtain⟨t',rfl⟩:=ry; exact PySem.EqNone.eq_none_int (zam I q (by simp))
  | str j=>obtain⟨t',rfl⟩:=ry; exact PySem.EqNone.eq_none_str (zam I q (by simp))
  | _=>exact absurd (show false=true from hs) Bool.false_ne_true
 | bl i =>
  cases rx;cases y with
  | non=>cases ry; exact PySem.EqNone.eq_bool_none (zam I q (by simp))
  | bl j=>cases ry; exact eq_bool (zam I q zmv)
  | str j=>obtain⟨t',rfl⟩:=ry; exact PySem.EqMixed.eq_bool_str (zam I q (by simp))
  | _=>exact absurd (show false=true from hs) Bool.false_ne_true
 | int i =>
  obtain⟨t,rfl⟩:=rx;cases y with
  | non=>cases ry; exact PySem.EqNone.eq_int_none (zam I q (by simp))
  | int j=>obtain⟨t',rfl⟩:=ry; exact eq_int (zam I q zg3)
  | str j=>obtain⟨t',rfl⟩:=ry; exact PySem.EqMixed.eq_int_str (zam I q (by simp))
  | _=>exact absurd (show false=true from hs) Bool.false_ne_true
 | str i =>
  obtain⟨t,rfl⟩:=rx;cases y with
  | non=>cases ry; exact PySem.EqNone.eq_str_none (zam I q (by simp))
  | bl j=>cases ry; exact PySem.EqMixed.eq_str_bool (zam I q (by simp))
  | int j=>obtain⟨t',rfl⟩:=ry; exact PySem.EqMixed.eq_str_int (zam I q (by simp))
  | str j=>obtain⟨t',rfl⟩:=ry; exact eq_str (zam I q zmt)
  | _=>exact absurd (show false=true from hs) Bool.false_ne_true
 | byt i =>
  obtain⟨t,rfl⟩:=rx;cases y with
  | byt j=>obtain⟨t',rfl⟩:=ry; exact PySem.W.eq_bytes (zam I q zmu)
  | _=>exact absurd (show false=true from hs) Bool.false_ne_true
 | _=>cases y <;> exact absurd (show false=true from hs) Bool.false_ne_true
theorem zod:OpR X (compareOp .NotEq) rNe:=by
 intro pins s σ H x y v u Q I rx ry h;obtain⟨hs,q⟩:=h;cases x with
 | non =>
  cases rx;cases y with
  | non=>cases ry; exact PySem.EqNone.ne_none_none (zam I q (by simp))
  | bl j=>cases ry; exact PySem.EqNone.ne_none_bool (zam I q (by simp))
  | int j=>obtain⟨t',rfl⟩:=ry; exact PySem.EqNone.ne_none_int (zam I q (by simp))
  | str j=>obtain⟨t',rfl⟩:=ry; exact PySem.EqNone.ne_none_str (zam I q (by simp))
  | _=>exact absurd (show false=true from hs) Bool.false_ne_true
 | bl i =>
  cases rx;cases y with
  | non=>cases ry; exact PySem.EqNone.ne_bool_none (zam I q (by simp))
  | bl j=>cases ry; exact ne_bool (zam I q (congrArg not zmv))
  | str j=>obtain⟨t',rfl⟩:=ry; exact PySem.EqMixed.ne_bool_str (zam I q (by simp))
  | _=>exact absurd (show false=true from hs) Bool.false_ne_true
 | int i =>
  obtain⟨t,rfl⟩:=rx;cases y with
  | non=>cases ry; exact PySem.EqNone.ne_int_none (zam I q (by simp))
  | int j=>obtain⟨t',rfl⟩:=ry; exact ne_int (zam I q (congrArg not zg3))
  | str j=>obtain⟨t',rfl⟩:=ry; exact PySem.EqMixed.ne_int_str (zam I q (by simp))
  | _=>exact absurd (show false=true from hs) Bool.false_ne_true
 | str i =>
  obtain⟨t,rfl⟩:=rx;cases y with
  | non=>cases ry; exact PySem.EqNone.ne_str_none (zam I q (by simp))
  | bl j=>cases ry; exact PySem.EqMixed.ne_str_bool (zam I q (by simp))
  | int j=>obtain⟨t',rfl⟩:=ry; exact PySem.EqMixed.ne_str_int (zam I q (by simp))
  | str j=>obtain⟨t',rfl⟩:=ry; exact ne_str (zam I q (congrArg not zmt))
  | _=>exact absurd (show false=true from hs) Bool.false_ne_true
 | byt i =>
  obtain⟨t,rfl⟩:=rx;cases y with
  | byt j=>obtain⟨t',rfl⟩:=ry; exact PySem.W.ne_bytes (zam I q (congrArg not zmu))
  | _=>exact absurd (show false=true from hs) Bool.false_ne_true
 | _=>cases y <;> exact absurd (show false=true from hs) Bool.false_ne_true
theorem zf6:OpR X (compareOp .Lt) (rI0 fun i j=>.bl (decide (i<j))):=opB0 fun _ _ _ _ _ _ _ q=>lt_int q
theorem op_le:OpR X (compareOp .LtE) (rI0 fun i j=>.bl (decide (i<=j))):=opB0 fun _ _ _ _ _ _ _ q=>le_int q
theorem zde:OpR X (compareOp .Gt) (rI0 fun i j=>.bl (decide (j<i))):=opB0 fun _ _ _ _ _ _ _ q=>gt_int q
theorem zpm:OpR X (compareOp .Is) (fun x y H Q=>y=.non/\Q (.bl (decide (x=.non))) H):=by
 intro pins s σ H x y v u Q I rx ry h;obtain⟨rfl,q⟩:=h;cases ry;refine is_none_gen (zam I q ?_);cases x <;> first
  | (cases rx; rfl)
  | (obtain⟨t,rfl⟩:=rx; rfl)
theorem zqd:OpR X (compareOp .IsNot) (fun x y H Q=>y=.non/\Q (.bl (!decide (x=.non))) H):=by
 intro pins s σ H x y v u Q I rx ry h;obtain⟨rfl,q⟩:=h;cases ry;refine isnot_none_gen (zam I q ?_);cases x <;> first
  | (cases rx; rfl)
  | (obtain⟨t,rfl⟩:=rx; rfl)
theorem nomark(b:Expr){op:CmpOp}(h:op≠.In:=by decide)(h2:op≠.NotIn:=by decide):behindInMarks op b=false:=by
 have e1:(op == CmpOp.In)=false:=by cases op <;> first | rfl | exact absurd rfl h
 have e2:(op == CmpOp.NotIn)=false:=by cases op <;> first | rfl | exact absurd rfl h2
 cases b <;> simp[behindInMarks,e1,e2]
theorem zan{op:CmpOp}{r:R2}(ho:OpR X (compareOp op) r)(ha:PE X a ta)(hb:PE X b tb)(hm:behindInMarks op b=false):PE X (.Compare a [op] [b] pos) (tOp r ta tb):=by
 intro pins s σ H Q I h;exact wpAny_Compare1 (binT ha hb I h fun v u s2 x y H2 I2 rx ry q=>ho pins s2 σ H2 x y v u Q I2 rx ry q) hm
def tTest(t:TE):TT:=fun σ H Q=>t σ H fun x H'=>BlR x H' Q
theorem zaf{op:CmpOp}{r:R2}(ho:OpR X (compareOp op) r)(ha:PE X a ta)(hb:PE X b tb)(hm:behindInMarks op b=false):PT X (.Compare a [op] [b] pos) (tTest (tOp r ta tb)):=by
 intro pins s σ H Q I h;refine wpAny_isTrue_Compare1 (thn (ha pins s σ H _ I h) fun v s1 ⟨x,H1,I1,r1,q1⟩=>thn (hb pins s1 σ H1 _ I1 q1) fun u s2 ⟨y,H2,I2,r2,q2⟩ =>
  thn (ho pins s2 σ H2 x y v u _ I2 r1 r2 q2) fun c s3 ⟨z,H3,I3,r3,k,e,q3⟩=>?_) hm
 subst e;cases r3;exact wpAny_truthy_bool ⟨H3,I3,q3⟩
def TruV(K:PySem.W.Frag)(x:V)(H:Hp)(k:Bool):Prop :=
 match x with
 | .non=>k=false
 | .bl b=>k=b
 | .int i=>k=(i != 0)
 | .str y=>y.length<=sizeLine/\k=((y.length:Int) != 0)
 | .byt y=>y.size<=sizeLine/\k=((y.size:Int) != 0)
 | .ref p=>(∃xs,SqL K H p xs/\k=!xs.isEmpty)\/(∃xs,SqT K H p xs/\k=!xs.isEmpty)\/∃kvs,H p=some (.dK kvs)/\k=!kvs.isEmpty
 | _=>False
theorem zjx{κ:Type}{kvs:List (κ×V)}{vs:List (κ×Value)}(r:KV kvs vs):(!vs.isEmpty)=!kvs.isEmpty:=by
 cases r <;> rfl
theorem zfi{xs:List V}{its:List Value}(r:Vals xs its):(!its.toArray.isEmpty)=!xs.isEmpty:=by
 cases r <;> simp
theorem line63:(sizeLine:Nat)<2 ^ 63:=by rw[sizeLine_eq]; decide
theorem tru_ok:TruR X (fun x H Q=>∃k,TruV X.K x H k/\Q k H):=by
 intro pins s σ H x v Q I rx h;obtain⟨k,e,q⟩:=h;have hl:=line63;have hs:sizeLine=16777216:=sizeLine_eq;cases x with
 | non =>
  cases rx;have e':k=false:=e;subst e';exact truthy_none ⟨H,I,q⟩
 | bl b =>
  cases rx;have e':k=b:=e;subst e';exact wpAny_truthy_bool ⟨H,I,q⟩
 | int i =>
  obtain⟨t,rfl⟩:=rx;have e':k=(i != 0):=e;subst e';exact PySem.P.truthy_int ⟨H,I,q⟩
 | str y =>
  obtain⟨t,rfl⟩:=rx;obtain⟨hy,e'⟩:y.length<=sizeLine/\k=((y.length:Int) != 0):=e;subst e';exact PySem.P.truthy_str (by omega) ⟨H,I.tok _,q⟩
 | byt y =>
  obtain⟨t,rfl⟩:=rx;obtain⟨hy,e'⟩:y.size<=sizeLine/\k=((y.size:Int) != 0):=e;subst e';exact PySem.W.truthy_bytes (by omega) ⟨H,I.tok _,q⟩
 | ref p =>
  cases rx;have e':(∃xs,SqL X.K H p xs/\k=!xs.isEmpty)\/(∃xs,SqT X.K H p xs/\k=!xs.isEmpty)\/∃kvs,H p=some (.dK kvs)/\k=!kvs.isEmpty:=e;rcases e' with ⟨xs,hx,e'⟩ | ⟨xs,hx,e'⟩ | ⟨kvs,hx,e'⟩
  ·subst e';obtain⟨its,r,pl,hz⟩:=I.list hx;have hlen:=r.length;exact wpAny_truthy_list pl.isList (by simp only[List.size_toArray]; omega) ⟨H,I.tok _,by rw[zfi r]; exact q⟩
  ·subst e';obtain⟨its,r,pl,hz⟩:=I.tuple hx;have hlen:=r.length;exact truthy_tuple pl (by simp only[List.size_toArray]; omega) ⟨H,I.tok _,by rw[zfi r]; exact q⟩
  ·subst e';obtain⟨hz,hS,vs,r,m⟩:kvs.length<=sizeLine/\(p == sysModules)=false/\∃vs,KV kvs vs/\s.heap.DictOf (mixKind X.prog X.w) p vs:=I.hok p _ hx;have hlen:kvs.length=vs.length:=Paired.length r;exact wpAny_truthy_dict hS m (by omega) ⟨H,I.tok _,by rw[zjx r]; exact q⟩
 | _=>exact(show False from e).elim
theorem zo5(ha:PE X a ta)(he:∀whole,isTrue a X.env whole=(do let v <-whole; standAt a.pos; holding [v] (truthy v))):
  PT X a (fun σ H Q=>ta σ H fun x H'=>∃k,TruV X.K x H' k/\Q k H'):=by
 intro pins s σ H Q I h;exact isTrue_plain (thn (ha pins s σ H _ I h) fun v s1 ⟨x,H1,I1,r1,q1⟩=>tru_ok pins s1 σ H1 x v Q I1 r1 q1) (he _)
theorem vals1{x:V}{us:List Value}(r:Vals [x] us):∃u,us=[u]/\RelV x u:=by
 cases r with
 | cons r1 r2=>cases r2; exact⟨_,rfl,r1⟩
theorem vals2{x y:V}{us:List Value}(r:Vals [x,y] us):∃u w',us=[u,w']/\RelV x u/\RelV y w':=by
 cases r with
 | cons r1 r2 =>
  cases r2 with
  | cons r3 r4=>cases r4; exact⟨_,_,rfl,r1,r3⟩
theorem zj9:CallR X (.builtin "abs") (fun xs H Q=>∃i,xs=[.int i]/\Q (.int (if i<0 then -i else i)) H):=by
 intro pins s σ H xs us Q I r h;obtain⟨i,rfl,q⟩:=h;obtain⟨u,rfl,t,rfl⟩:=vals1 r;exact call_abs_int fun u tk=>⟨.int (if i<0 then -i else i),H,I.tok _,⟨_,rfl⟩,q⟩
theorem zh1(hc:X.calm=true):CallR X (.builtin "max") (fun xs H Q=>∃i j,xs=[.int i,.int j]/\Q (.int (if j > i then j else i)) H):=by
 intro pins s σ H xs us Q I r h;obtain⟨i,j,rfl,q⟩:=h;obtain⟨u,w',rfl,⟨t,rfl⟩,⟨t',rfl⟩⟩:=vals2 r;refine max_two_ints (I.ok.hd hc) fun h' tk k=>⟨_,H,I.kept k,?_,q⟩
 by_cases hj:j > i
 ·rw[if_pos hj,if_pos hj]; exact⟨_,rfl⟩
 ·rw[if_neg hj,if_neg hj]; exact⟨_,rfl⟩
theorem zd5(hc:X.calm=true):CallR X (.builtin "min") (fun xs H Q=>∃i j,xs=[.int i,.int j]/\Q (.int (if j<i then j else i)) H):=by
 intro pins s σ H xs us Q I r h;obtain⟨i,j,rfl,q⟩:=h;obtain⟨u,w',rfl,⟨t,rfl⟩,⟨t',rfl⟩⟩:=vals2 r;refine min_two_ints (I.ok.hd hc) fun h' tk k=>⟨_,H,I.kept k,?_,q⟩
 by_cases hj:j<i
 ·rw[if_pos hj,if_pos hj]; exact⟨_,rfl⟩
 ·rw[if_neg hj,if_neg hj]; exact⟨_,rfl⟩
end
structure ObjM(h:Heap)(x dx C:Addr)(mA:Str->Option Value):Prop where
 obj:h.get? x=some (PySem.W.instObj C dx)
 ns:h.Ns1 dx mA
 ne:dx≠x
theorem zlt{h:Heap}{dx:Addr}{mA:Str->Option Value}(n:h.Ns1 dx mA):∃od,h.get? dx=some od/\∀name,PySem.W.lookIn name od=some (mA name):=by
 obtain⟨o,es,ep,ho,hd,hk,_,hm⟩:=n;refine⟨o,ho,fun name=>?_⟩;have e:=hm name;unfold nsFind findBy at e;rw[<-Array.find?_toList] at e;unfold PySem.W.lookIn;rw[hd];dsimp only;split
 ·rename_i y q
  rw[q] at e;exact congrArg some e
 ·rename_i q
  rw[q] at e;have a:es.toList.any (·.refKey)=false:=by
   rw[List.any_eq_false];intro y hy;obtain⟨z,t,hkey⟩:=hk y (Array.mem_toList_iff.mp hy);simp[DictEntry.refKey,hkey]
  have a':¬es.toList.any (·.refKey)=true:=by rw[a]; exact Bool.false_ne_true
  rw[if_neg a'];exact congrArg some e
theorem ObjM.look{h:Heap}{x dx C:Addr}{mA:Str->Option Value}(I:ObjM h x dx C mA):∃od,PySem.W.InstAt h x (PySem.W.instObj C dx) C (some od)/\∀name,PySem.W.lookIn name od=some (mA name) :=
 let ⟨od,ho,hl⟩:=zlt I.ns
 ⟨od,⟨I.obj,rfl,rfl,ho⟩,hl⟩
section
variable {prog:Program} {w:World} {A:Around} {E:Value->Shared->Prop} {s:Shared} {K:PySem.W.Frag} {x dx C f:Addr} {mA:Str->Option Value} {name:Str} {v:Value}
end
theorem RelO.some_of{v:V}{o:Option Value}(r:RelO (some v) o):∃u,o=some u/\RelV v u:=by
 cases o with
 | none=>exact(show False from r).elim
 | some u=>exact⟨u,rfl,r⟩
theorem zmf{v:V}{u:Value}(r:RelV v u):PySem.W.handedIn u=true:=by
 cases v with
 | non=>cases (show u=Value.none from r); rfl
 | bl b=>cases (show u=Value.bool b from r); rfl
 | int i=>obtain⟨t,e⟩:=(show ∃t,u=Value.int i t from r); cases e; rfl
 | str x=>obtain⟨t,e⟩:=(show ∃t,u=Value.str x t from r); cases e; rfl
 | byt b=>obtain⟨t,e⟩:=(show ∃t,u=Value.bytes b t from r); cases e; rfl
 | flt b=>obtain⟨t,e⟩:=(show ∃t,u=Value.float b t from r); cases e; rfl
 | ref a=>cases (show u=Value.ref a from r); rfl
 | ty n=>cases (show u=Value.type n from r); rfl
section
variable {P:Program} {w:World} {H H':Hp} {h h':Heap} {a C dx:Addr} {fs fs':List (Str×V)}
end
structure Cls(K:PySem.W.Frag)(C:Addr):Prop where
 pg:PySem.W.plainGet K C Str.empty=true
 hd:PySem.W.hasDictIn K C=true
 po:PySem.W.plainOver K C=true
 sa:PySem.W.findIn K (.ref C) "__setattr__" = some (some (.builtin "object.__setattr__"))
theorem Cls.get{K:PySem.W.Frag}{C:Addr}(c:Cls K C)(f:Str):PySem.W.plainGet K C f=true:=c.pg
section
variable {X:Cx} {pins:List (Addr×Obj)} {σ:St} {H:Hp} {s:Shared} {a C dx:Addr} {fs:List (Str×V)} {f:Str} {v:V} {A:Around} {E:Value->Shared->Prop}
theorem Inv.made(I:Inv X pins σ H s):Inv X pins σ (upd (upd H s.heap.objs.size (.own (s.heap.objs.size+1))) (s.heap.objs.size+1) (.ins C s.heap.objs.size []))
  { s with heap:=(s.heap.push PySem.W.emptyDict).push (PySem.W.instObj C s.heap.objs.size) }:=by
 have e1:(s.heap.push PySem.W.emptyDict).get? s.heap.objs.size=some PySem.W.emptyDict:=Heap.get?_push_size s.heap rfl;have e2:((s.heap.push PySem.W.emptyDict).push (PySem.W.instObj C s.heap.objs.size)).get? (s.heap.objs.size+1)=some (PySem.W.instObj C s.heap.objs.size):=by
  have:=Heap.get?_push_size (s.heap.push PySem.W.emptyDict) (o:=PySem.W.instObj C s.heap.objs.size) rfl
  rwa [Heap.size_push] at this
 have e3:(s.heap.push PySem.W.emptyDict).Ns s.heap.objs.size (fun _=>none):=⟨PySem.W.emptyDict,#[],_,e1,rfl,(fun e he=>absurd he (by simp)),fun _=>rfl⟩;have I1:=I.laid (a:=s.heap.objs.size) (o:=.own (s.heap.objs.size+1)) (h':=s.heap.push PySem.W.emptyDict) (t':=s.toks) (fun b u q=>Heap.get?_push_of_some _ q) (Nat.le_refl _) ⟨_,e1⟩;refine I1.laid (a:=s.heap.objs.size+1) (o:=.ins C s.heap.objs.size []) (t':=s.toks) (fun b u q=>Heap.get?_push_of_some _ q) (Nat.le_of_eq (Heap.size_push _ _)) ?_;have ne:s.heap.objs.size≠s.heap.objs.size+1:=Nat.ne_of_lt (Nat.lt_succ_self _);refine⟨by rw[upd_ne ne,za1],Nat.zero_le _,ne,e2,fun _=>none,(Heap.Ns1.of_empty e3).at fun o q=>Heap.get?_push_of_some _ q,fun _=>True.intro,fun y hy=>absurd rfl hy⟩
theorem zrl {prog:Program} {w:World} {env:Env} {e:Expr} {f:Str} {pos:Pos} {s:Shared} {Q:Value->Shared->Prop} (hb:attributeBase e f env (eval e env)=eval e env)
  (h:wpAny (model prog w) A (eval e env) (fun o s₁=>wpAny (model prog w) A (getAttr o f true) Q E s₁) E s):wpAny (model prog w) A (eval (.Attribute e f pos) env) Q E s :=
 Attribute_any_ h (by rw[arm_eval_Attribute,hb])
end
section
variable {X:Cx} {o e value:Expr} {f:Str} {pos pos' tpos:Pos} {ta tv:TE}
end
section
variable {X:Cx} {pins:List (Addr×Obj)} {σ:St} {H:Hp} {s:Shared} {A:Around} {E:Value->Shared->Prop} {Q:Value->Shared->Prop} {c:Value} {b:Bool}
end
structure Room(k:Nat)(A:Around):Prop where
 hd:A.handled=none
 dp:A.depth+3*k+5<recursionLimit
 un:A.units+16*k+200<cLine
theorem Room.mono{j k:Nat}{A:Around}(r:Room k A)(h:j<=k):Room j A:=⟨r.hd,by have:=r.dp; omega,by have:=r.un; omega⟩
theorem Room.deeper{k:Nat}{A:Around}(r:Room (k+1) A)(env:Env):Room k (A.deeper env) :=
 ⟨r.hd,by have:=r.dp; show A.depth+1+3*k+5<_; omega,by have:=r.un; show A.units+3+16*k+200<_; omega⟩
theorem Room.in1{k:Nat}{A:Around}(r:Room (k+1) A):Room k A.in1 :=
 ⟨r.hd,by have:=r.dp; show A.depth+3*k+5<_; omega,by have:=r.un; show A.units+1+16*k+200<_; omega⟩
theorem zjv{A:Around}{C:Addr}{us:List Value}{kw:List (Str×Value)}:(A.under (.builtin "type.__call__" ⟨.ref C :: us,kw⟩)).depth=A.depth+1:=by
 first | rfl | simp[Around.under,Code.weight,Code.isCreation,Code.isGuard,Code.isCaller,Code.frames,Code.isFrame,guardIds]
theorem zju{A:Around}{C:Addr}{us:List Value}{kw:List (Str×Value)}:(A.under (.builtin "type.__call__" ⟨.ref C :: us,kw⟩)).units=A.units+1:=by
 first | rfl | simp[Around.under,Code.cUnits,Code.frames,Code.isFrame]
theorem Room.make{k:Nat}{A:Around}(r:Room (k+1) A)(C:Addr)(us:List Value)(kw:List (Str×Value)):Room k (A.under (.builtin "type.__call__" ⟨.ref C :: us,kw⟩)) :=
 ⟨r.hd,by have:=r.dp; rw[zjv]; omega,by have:=r.un; rw[zju]; omega⟩
theorem Room.depth{k:Nat}{A:Around}(r:Room k A):A.depth<recursionLimit:=by have:=r.dp; omega
theorem Room.units{k:Nat}{A:Around}(r:Room k A):A.units+64<cLine:=by have:=r.un; omega
def tNil:TA:=fun _ H Q=>Q [] H
def tCons(ta:TE)(tr:TA):TA:=fun σ H Q=>ta σ H fun x H1=>tr σ H1 fun xs H2=>Q (x :: xs) H2
section
variable {X:Cx} {e:Expr} {es:List Expr} {te:TE} {t:TA} {pos:Pos}
theorem za2:PA X [] tNil:=fun _ _ _ _ H Q I h=>Calls.spliced_nil ⟨[],H,I,.nil,h⟩
theorem za0(ha:PE X e te)(hr:PA X es t)(hs:starEach (e :: es) X.env=(false,eval e X.env) :: starEach es X.env:=by rfl):PA X (e :: es) (tCons te t):=by
 intro pos pins s σ H Q I h;rw[hs];show wpAny _ _ (spliced ((false,eval e X.env) :: backTo pos (starEach es X.env))) _ _ s;refine Calls.spliced_cons (thn (ha pins s σ H _ I h) fun u s1 ⟨x,H1,I1,r1,q1⟩=>?_);exact thn (hr pos pins s1 σ H1 _ I1 q1) fun us s2 ⟨xs,H2,I2,r2,q2⟩=>⟨x :: xs,H2,I2,.cons r1 r2,q2⟩
inductive TupNR(xs:List V)(H:Hp)(Q:VK):Prop
 | mk (n:xs.length<=sizeLine) (q:∀p,H p=none->Q (.ref p) (upd H p (.tup xs))):TupNR xs H Q
inductive LstNR(xs:List V)(H:Hp)(Q:VK):Prop
 | mk (n:xs.length<=sizeLine) (q:∀p,H p=none->Q (.ref p) (upd H p (.lst xs))):LstNR xs H Q
def tTup(t:TA):TE:=fun σ H Q=>t σ H fun xs H1=>TupNR xs H1 Q
def tLst(t:TA):TE:=fun σ H Q=>t σ H fun xs H1=>LstNR xs H1 Q
theorem zac{x1}(h:PA X es t):PE X (.Tuple es x1 pos) (tTup t):=by
 intro pins s σ H Q I hq;refine wpAny_Tuple_spliced (thn (h pos pins s σ H _ I hq) fun us s1 ⟨xs,H1,I1,r,z,q⟩=>⟨by rw[<-r.length]; exact z,?_⟩);have hf:H1 s1.heap.objs.size=none:=I1.hok.fresh (Nat.le_refl _);refine⟨.ref s1.heap.objs.size,upd H1 s1.heap.objs.size (.tup xs),I1.laid (t':=s1.toks) (fun b u e=>Heap.get?_push_of_some _ e) (Nat.le_refl _) ?_,rfl,q _ hf⟩;exact⟨z,us,r,⟨_,Heap.get?_push_size _ rfl,rfl,_,rfl⟩,_,Heap.get?_push_size _ rfl,rfl⟩
theorem zbl(h:PA X es t):PE X (.List es pos) (tLst t):=by
 intro pins s σ H Q I hq;refine wpAny_List_spliced (thn (h pos pins s σ H _ I hq) fun us s1 ⟨xs,H1,I1,r,z,q⟩=>⟨by rw[<-r.length]; exact z,?_⟩);have hf:H1 s1.heap.objs.size=none:=I1.hok.fresh (Nat.le_refl _);refine⟨.ref s1.heap.objs.size,upd H1 s1.heap.objs.size (.lst xs),I1.laid (t':=s1.toks) (fun b u e=>Heap.get?_push_of_some _ e) (Nat.le_refl _) ?_,rfl,q _ hf⟩;exact⟨z,us,0,r,Heap.get?_push_size _ rfl⟩
end
abbrev Sp:=List V->Hp->VK->XK->Prop
abbrev CXT:=List Env->Hp->Shared->XK->Value->Shared->Prop
structure Env0(P:Program)(w:World)(K:PySem.W.Frag)(mg:Str->Option Value)(base:Heap)(A:Around)(outer:List Env)(s:Shared)(H:Hp):Prop where
 frames:A.frames=some outer
 mod:Mod K mg base
 bs:∀b o,base.get? b=some o->s.heap.get? b=some o/\H b=none
 bsz:base.objs.size<=s.heap.objs.size
 funs:s.heap.FunFrames base outer
 frf:∀b∈frs outer,H b=none
 hok:HOk P w H s.heap
 bare:AllBare s.gens
def CE(outer:List Env)(P:Program)(w:World)(H:Hp)(s:Shared)(Q:VK)(u:Value)(s':Shared):Prop :=
 ∃v H',s'.os=s.os/\AllBare s'.gens/\Un (frs outer) [] H H' s.heap s'.heap/\HOk P w H' s'.heap/\RelV v u/\Q v H'
def CR(CX:CXT)(outer:List Env)(P:Program)(w:World)(H:Hp)(s:Shared)(Q:VK)(E:XK)(r:Result)(s':Shared):Prop :=
 match r with
 | .ok (.ret u)=>CE outer P w H s Q u s'
 | .ok _=>False
 | .error e=>CX outer H s E e s'
structure FnOk(P:Program)(w:World)(K:PySem.W.Frag)(mg:Str->Option Value)(base:Heap)(CX:CXT)(k:Nat)(f:Addr)(fd:FuncData)(ps:List Str)(sp:Sp):Prop where
 len:∀vs H Q E,sp vs H Q E->vs.length=ps.length
 run:∀(A:Around) (outer:List Env) (s:Shared) (H:Hp) (args:Args) (us:List Value) (vs:List V) (Q:VK) (E:XK),Room k A->Env0 P w K mg base A outer s H->BindsTo s fd args (ps.zip us)->Vals vs us->sp vs H Q E →
  codeAny (model P w) A (.call (.ref f) args) (CR CX outer P w H s Q E) s
theorem FnOk.mono{P:Program}{w:World}{K:PySem.W.Frag}{mg:Str->Option Value}{base:Heap}{CX:CXT}{j k:Nat}{f:Addr}{fd:FuncData}{ps:List Str}{sp:Sp}(F:FnOk P w K mg base CX j f fd ps sp)(h:j<=k):
  FnOk P w K mg base CX k f fd ps sp:=⟨F.len,fun A outer s H args us vs Q E hr=>F.run A outer s H args us vs Q E (hr.mono h)⟩
theorem FnOk.imp {P:Program} {w:World} {K:PySem.W.Frag} {mg:Str->Option Value} {base:Heap} {CX:CXT} {k:Nat} {f:Addr} {fd:FuncData} {ps:List Str} {sp sp':Sp} (F:FnOk P w K mg base CX k f fd ps sp)
  (h:∀vs H Q E,sp' vs H Q E->sp vs H Q E):FnOk P w K mg base CX k f fd ps sp' :=
 ⟨fun vs H Q E q=>F.len vs H Q E (h _ _ _ _ q),fun A outer s H args us vs Q E hr he hb hv hs=>F.run A outer s H args us vs Q E hr he hb hv (h _ _ _ _ hs)⟩
theorem Env0.make{P:Program}{w:World}{K:PySem.W.Frag}{mg:Str->Option Value}{base:Heap}{A:Around}{outer:List Env}{s:Shared}{H:Hp}(e:Env0 P w K mg base A outer s H)(C:Addr)(us:List Value)(kw:List (Str×Value)):
  Env0 P w K mg base (A.under (.builtin "type.__call__" ⟨.ref C :: us,kw⟩)) outer s H:=⟨by first | exact e.frames | (simpa [Around.under,Code.envs,Code.isFrame,pushEnvs] using e.frames),e.mod,e.bs,e.bsz,e.funs,e.frf,e.hok,e.bare⟩
theorem Env0.in1{P:Program}{w:World}{K:PySem.W.Frag}{mg:Str->Option Value}{base:Heap}{A:Around}{outer:List Env}{s:Shared}{H:Hp}(e:Env0 P w K mg base A outer s H):
  Env0 P w K mg base A.in1 outer s H:=⟨e.frames,e.mod,e.bs,e.bsz,e.funs,e.frf,e.hok,e.bare⟩
section
variable {X:Cx} {pins:List (Addr×Obj)} {σ:St} {H:Hp} {s s':Shared}
theorem Inv.env0(I:Inv X pins σ H s):Env0 X.prog X.w X.K X.mg X.base X.A X.stack s H :=
 ⟨I.ok.frames,I.ok.mod,I.bs,Nat.le_trans I.ok.bsz I.sz,I.stack,I.stkFree,I.hok,I.bare⟩
theorem Inv.after{Q:VK}{u:Value}(I:Inv X pins σ H s)(h:CE X.stack X.prog X.w H s Q u s'):EP X pins σ Q u s':=by
 obtain⟨v,H',os,bare,un,hok,r,q⟩:=h;obtain⟨hh,g,d,t,os'⟩:=s';obtain rfl:os'=s.os:=os;exact⟨v,H',I.call (h':=hh) (g':=g) (d':=d) (t':=t) (ch:=[]) un hok bare (fun b z=>absurd z (by simp)),r,q⟩
end
def tCall(sp:Sp)(dvs:List V)(E:XK)(t:TA):TE:=fun σ H Q=>t σ H fun vs H1=>sp (vs++dvs) H1 Q E
def Binds(K:PySem.W.Frag)(fd:FuncData)(ps:List Str)(ds:List Value):Prop :=
 ∀(s:Shared) (us:List Value),K.In s.heap->(us++ds).length=ps.length->BindsTo s fd ⟨us,[]⟩ (ps.zip (us++ds))
theorem Binds.all{K:PySem.W.Frag}{fd:FuncData}{ps:List Str}(h:∀us:List Value,us.length=ps.length->bindArgs fd ⟨us,[]⟩=pure (ps.zip us)):Binds K fd ps []:=fun s us _ hl=>by
 rw[List.append_nil] at hl ⊢;exact .of_eq (h us hl)
def Passes(CX:CXT)(X:Cx)(E:XK):Prop:=∀(pins:List (Addr×Obj)) (σ:St) (H:Hp) (s:Shared) (e:Value) (s':Shared),Inv X pins σ H s->CX X.stack H s E e s'->X.xe e s'
section
variable {X:Cx} {CX:CXT} {k:Nat} {f C:Addr} {fd:FuncData} {ps:List Str} {sp:Sp} {dvs:List V} {ds:List Value} {E:XK} {x m:Str} {p pos apos:Pos} {e o:Expr} {es:List Expr} {ta:TE} {t:TA}
theorem run_fn {pins:List (Addr×Obj)} {σ:St} {H:Hp} {s:Shared} {Q:VK} {us:List Value} {vs:List V} (F:FnOk X.prog X.w X.K X.mg X.base CX k f fd ps sp) (hr:Room k X.A) (hb:Binds X.K fd ps ds) (hd:Vals dvs ds) (hx:Passes CX X E)
  (I:Inv X pins σ H s) (r:Vals vs us) (h:sp (vs++dvs) H Q E):wpAny (model X.prog X.w) X.A (call (.ref f) us) (EP X pins σ Q) X.xe s:=by
 have r2:Vals (vs++dvs) (us++ds):=r.append hd;have hl:(us++ds).length=ps.length:=by rw[<-r2.length]; exact F.len _ _ _ _ h
 refine wpAny_call (codeAny_mono (F.run X.A X.stack s H ⟨us,[]⟩ (us++ds) (vs++dvs) Q E hr I.env0 (hb s us I.kIn hl) r2 h) fun r s' hq=>?_);cases r with
 | error e=>exact hx pins σ H s e s' I hq
 | ok fl =>
  cases fl with
  | ret u=>exact I.after hq
  | next=>exact False.elim hq
  | brk=>exact False.elim hq
  | cont=>exact False.elim hq
theorem za7 (F:FnOk X.prog X.w X.K X.mg X.base CX k f fd ps sp) (hr:Room k X.A) (hg:Gl X x) (hm:X.mg x=some (.ref f)) (hk:PySem.W.keepIn X.K (.ref f)=true) (hb:Binds X.K fd ps ds) (hd:Vals dvs ds) (hx:Passes CX X E)
  (ha:PA X (e :: es) t) (hdb:(x == ("__debug__":Str))=false:=by decide) (he:starEach (e :: es) X.env=(false,eval e X.env) :: starEach es X.env:=by rfl) (hpl:(backTo pos (starEach es X.env)).any (·.1)=false:=by rfl) :
  PE X (.Call (.Name x p) (e :: es) [] pos) (tCall sp dvs E t):=by
 intro pins s σ H Q I h;refine wpAny_Call_Name_kw (zdj I hg hm ?_ hdb);refine PySem.W.callWith_K (h₀:=X.base) I.ok.mod.kin hk (thn (ha pos pins s σ H _ I h) fun us s1 ⟨vs,H1,I1,r,q⟩=>⟨I1.kIn,?_⟩) he hpl;exact run_fn F hr hb hd hx I1 r q
end
section
variable {X:Cx} {CX:CXT} {k:Nat} {f C:Addr} {fd:FuncData} {ps ks:List Str} {sp:Sp} {E:XK} {x m:Str} {p pos apos kpos:Pos} {e o:Expr} {es:List Expr} {kws:List Keyword} {te ta:TE} {t tk:TA} {nm:Option Str}
variable {g:List Value->List Value->List Value} {gV:List V->List V->List V}
end
structure FnScope(N P:List Str)(sc:Scope):Prop where
 kind:sc.kind=.function
 co:sc.isCoroutine=false
 gen:sc.isGenerator=false
 nd:N.Nodup
 pre:N.take P.length=P
 par:∀x∈P,sc.names.lookup x=some .local\/sc.names.lookup x=some .cell
 nofree:∀y∈sc.names,y.2≠.free
theorem zh6{kindOf:Str->Option NameKind}{x:Str}:∀{binds:List (Str×Value)} {m:Str->Option Value},(∀v,(x,v)∉binds)->bindL kindOf binds m x=m x
 | [],_,_=>rfl
 | (n,v) :: r,m,h=>by
  unfold bindL;rw[zh6 fun w hw=>h w (List.mem_cons_of_mem _ hw)];split
  ·have:x≠n:=by rintro rfl; exact h v List.mem_cons_self
   simp[this]
  ·rfl
theorem zh8{kindOf:Str->Option NameKind}{x:Str}:∀{binds:List (Str×Value)} {m:Str->Option Value},(∀v,(x,v)∉binds)->bindC kindOf binds m x=m x
 | [],_,_=>rfl
 | (n,v) :: r,m,h=>by
  unfold bindC;rw[zh8 fun w hw=>h w (List.mem_cons_of_mem _ hw)];split
  ·rfl
  ·have:x≠n:=by rintro rfl; exact h v List.mem_cons_self
   simp[this]
theorem zh7{kindOf:Str->Option NameKind}{x:Str}{v:Value}:∀{P:List Str} {vs:List Value} {i:Nat} {m:Str->Option Value},P.Nodup->P[i]?=some x->vs[i]?=some v->kindOf x=some .local →
  bindL kindOf (P.zip vs) m x=some v
 | [],_,_,_,_,h,_,_=>by simp at h
 | _ :: _,[],_,_,_,_,h,_=>by simp at h
 | p :: P,w :: vs,0,m,nd,h1,h2,hk=>by
  simp at h1 h2; subst h1; subst h2;show bindL kindOf ((p,w) :: P.zip vs) m p=_;unfold bindL;rw[zh6 fun v hv=>(List.nodup_cons.mp nd).1 (List.of_mem_zip hv).1,if_pos hk];simp
 | p :: P,w :: vs,i+1,m,nd,h1,h2,hk=>by
  show bindL kindOf ((p,w) :: P.zip vs) m x=_;unfold bindL;exact zh7 (i:=i) (List.nodup_cons.mp nd).2 (by simpa using h1) (by simpa using h2) hk
theorem zh9{kindOf:Str->Option NameKind}{x:Str}{v:Value}:∀{P:List Str} {vs:List Value} {i:Nat} {m:Str->Option Value},P.Nodup->P[i]?=some x->vs[i]?=some v->kindOf x≠some .local →
  bindC kindOf (P.zip vs) m x=some v
 | [],_,_,_,_,h,_,_=>by simp at h
 | _ :: _,[],_,_,_,_,h,_=>by simp at h
 | p :: P,w :: vs,0,m,nd,h1,h2,hk=>by
  simp at h1 h2; subst h1; subst h2;show bindC kindOf ((p,w) :: P.zip vs) m p=_;unfold bindC;rw[zh8 fun v hv=>(List.nodup_cons.mp nd).1 (List.of_mem_zip hv).1,if_neg hk];simp
 | p :: P,w :: vs,i+1,m,nd,h1,h2,hk=>by
  show bindC kindOf ((p,w) :: P.zip vs) m x=_;unfold bindC;exact zh9 (i:=i) (List.nodup_cons.mp nd).2 (by simpa using h1) (by simpa using h2) hk
def start(N:List Str)(vs:List V):St:=vs.map some++List.replicate (N.length-vs.length) none
def cxOf(CX:CXT)(P:Program)(w:World)(K:PySem.W.Frag)(mg:Str->Option Value)(base:Heap)(N:List Str)(qual:Str)(scope:Scope)(f:Addr)(cd:Value)(A:Around)(outer:List Env)(s:Shared)(H:Hp)(E:XK):Cx where
 prog:=P
 w:=w
 K:=K
 mg:=mg
 base:=base
 A:=A.deeper (envOfC qual scope s.heap.objs.size f cd)
 N:=N
 s₀:=s
 H₀:=H
 env:=envOfC qual scope s.heap.objs.size f cd
 outer:=outer
 stack:=envOfC qual scope s.heap.objs.size f cd :: outer
 ex:=[]
 calm:=true
 fn:=fun _=>true
 pn:=[]
 xe:=fun e s'=>wpAny (model P w) (A.deeper (envOfC qual scope s.heap.objs.size f cd)) (leaving (envOfC qual scope s.heap.objs.size f cd) e) (fun _ s''=>CX outer H s E e s'') (fun e' s''=>CX outer H s E e' s'') s'
theorem zj8{sc:Scope}{n:Nat}{x:Str}(h:sc.names.lookup x=some .cell):∃c,(cellsFrom n sc.names []).lookup x=some c:=by
 have q:=PySem.W.cellsFrom_some sc.names n [] (.inl h);exact Option.isSome_iff_exists.mp q
theorem zgt {CX:CXT} {P:Program} {w:World} {K:PySem.W.Frag} {mg:Str->Option Value} {base:Heap} {N ps:List Str} {qual:Str} {scope:Scope} {f:Addr} {cd:Value} {A:Around} {outer:List Env} {s s1:Shared} {H:Hp} {E:XK} {us:List Value} {vs:List V}
  (S:FnScope N ps scope) (hd:A.handled=none) (e0:Env0 P w K mg base A outer s H) (hl:vs.length=ps.length) (r:Vals vs us)
  (x:InCallC s s.heap.objs.size (bindL (envOfC qual scope s.heap.objs.size f cd).kindOf (ps.zip us) fun _=>none) (cellsFrom (s.heap.objs.size+1) scope.names []) (bindC (envOfC qual scope s.heap.objs.size f cd).kindOf (ps.zip us) fun _=>none) s1) :
  Inv (cxOf CX P w K mg base N qual scope f cd A outer s H E) [] (start N vs) H s1:=by
 have hpl:ps.length<=N.length:=by have:=congrArg List.length S.pre; rw[List.length_take] at this; omega
 obtain⟨h1,tk,rfl,hk⟩:=x.done;have noA:∀b:Addr,b∉(cxOf CX P w K mg base N qual scope f cd A outer s H E).ex:=fun b z=>absurd (show b∈([]:List Addr) from z) (by simp)
 refine⟨⟨e0.mod,S.kind,rfl,rfl,Nat.le_refl _,fun y z c h1 h2=>?_,fun y hy=>?_,fun y c _ h=>?_,fun _=>hd,Around.frames_deeper e0.frames,.inr ⟨rfl,rfl⟩,fun b z=>absurd z (noA b),e0.bs,e0.bsz,fun b _ _=>noA b,fun b z=>absurd z (noA b),e0.funs,e0.frf⟩,
  rfl,e0.bare,Un.kept hk,⟨_,x.toInCall.ns,fun i y v h1 h2 h3=>?_⟩,fun y c h=>⟨_,x.cell y c h⟩,e0.hok.fresh (Nat.le_refl _),fun y c h=>?_,fun p hp=>absurd (show p∈([]:List (Addr×Obj)) from hp) (by simp),e0.hok.kept hk,?_⟩
 ·exact name_of_addr x.apart (PySem.mem_of_lookup h1) (PySem.mem_of_lookup h2)
 ·have hy:scope.names.lookup y=some .cell\/scope.names.lookup y=some .free:=hy;rcases hy with hy | hy
  ·exact zj8 hy
  ·exact absurd rfl (S.nofree _ (PySem.mem_of_lookup hy))
 ·exact Nat.le_of_lt (x.above y c (PySem.mem_of_lookup h))
 ·have hi:i<vs.length:=by
   unfold start at h2;by_cases hi:i<vs.length
   ·exact hi
   ·rw[List.getElem?_append_right (by simpa using hi)] at h2;rw[List.getElem?_replicate] at h2;split at h2 <;> cases h2
  have ha:vs[i]?=some v:=by
   unfold start at h2;rw[List.getElem?_append_left (by simpa using hi),List.getElem?_map] at h2;cases e:vs[i]? with
   | none=>rw[e] at h2; cases h2
   | some a=>rw[e] at h2; cases h2; rfl
  obtain⟨u,hu,rv⟩:=r.get ha;have hp:ps[i]?=some y:=by
   rw[<-S.pre,List.getElem?_take_of_lt (by omega)]; exact h1
  have ndP:ps.Nodup:=by rw[<-S.pre]; exact S.nd.sublist (List.take_sublist _ _)
  refine⟨u,rv,?_⟩;rcases S.par y (List.mem_of_getElem? hp) with k | k
  ·exact .inl ⟨k,zh7 ndP hp hu k⟩
  ·obtain⟨c,e⟩:=zj8 (n:=s.heap.objs.size+1) k;refine .inr ⟨.inl k,c,e,?_⟩;have q:=x.cell y c e;rw[zh9 ndP hp hu (by show scope.names.lookup y≠_; rw[k]; decide)] at q;exact q
 ·exact e0.hok.fresh (Nat.le_of_lt (x.above y c (PySem.mem_of_lookup h)))
 ·unfold start;show _=N.length;rw[List.length_append,List.length_map,List.length_replicate];omega
theorem zra {CX:CXT} {P:Program} {w:World} {K:PySem.W.Frag} {mg:Str->Option Value} {base:Heap} {k:Nat} {f:Addr} {name qual:Str} {params:Arguments} {body:List Stmt} {scope:Scope} {dV kV doc pm cdv ct oc:Value} {an od:Option Addr}
  {osl:Array (Option Value)} {N ps:List Str} {sp:Sp} (lk:K.lookup f=some ⟨oc,od,.func (PySem.W.fnOf name qual params body scope dV kV doc pm an cdv ct),osl⟩) (hcd:PySem.W.codeIn K cdv qual=true) (S:FnScope N ps scope)
  (len:∀vs H Q E,sp vs H Q E->vs.length=ps.length)
  (hbody:∀(A:Around) (outer:List Env) (s:Shared) (H:Hp) (vs:List V) (Q:VK) (E:XK),Room k (A.deeper (envOfC qual scope s.heap.objs.size f cdv))->sp vs H Q E →
   ∃t,PSs (cxOf CX P w K mg base N qual scope f cdv A outer s H E) body t/\t { nx:=fun _ H'=>Q .non H',rt:=Q } (start N vs) H) :
  FnOk P w K mg base CX (k+1) f (PySem.W.fnOf name qual params body scope dV kV doc pm an cdv ct) ps sp:=by
 refine⟨len,fun A outer s H args us vs Q E hr e0 hb r hsp=>?_⟩;have hl:=len _ _ _ _ hsp;have KX:K.In s.heap:=e0.mod.kin.keeps fun b o e=>(e0.bs b o e).1
 have lim:s.heap.NoLimit:=e0.mod.nolimit.keeps fun b o e=>(e0.bs b o e).1
 have hkind:∀y∈ps.zip us,scope.names.lookup y.1=some .local\/(scope.names.lookup y.1=some .cell/\((cellsFrom (s.heap.objs.size+1) scope.names []).lookup y.1).isSome=true):=fun ⟨n,v⟩ hy=>by
  rcases S.par n (List.of_mem_zip hy).1 with q | q
  ·exact .inl q
  ·exact .inr ⟨q,PySem.W.cellsFrom_some _ _ _ (.inl q)⟩
 refine codeAny_call_function hr.depth (KX _ _ lk) rfl S.co S.gen rfl (PySem.W.codeRec_of KX hcd) (hb _ _ _ _ ?_);refine wpAny_newFunctionEnv_cells S.kind hkind fun env he s1 x=>?_
 subst he;refine⟨lim.keeps x.toInCall.keep,codeAny_func ?_⟩;obtain⟨t,ht,hq⟩:=hbody A outer s H vs Q E (hr.deeper _) hsp;have I:Inv (cxOf CX P w K mg base N qual scope f cdv A outer s H E) [] (start N vs) H s1:=zgt S hr.hd e0 hl r x;refine wpAny_mono (ht [] s1 (start N vs) H _ I hq) (fun fl s' hs=>?_) fun e s' hs=>hs
 have fin:∀{σ':St} {H':Hp} {v:V} {u:Value},Inv (cxOf CX P w K mg base N qual scope f cdv A outer s H E) [] σ' H' s'->RelV v u->Q v H'->CE outer P w H s Q u s' :=
  fun {σ' H' v u} J rv q=>⟨v,H',J.os,J.bare,J.base,J.hok,rv,q⟩
 cases fl with
 | ret u =>
  obtain⟨v,σ',H',J,rv,q⟩:=hs;exact fin J rv q
 | next =>
  obtain⟨σ',H',J,q⟩:=hs;exact fin (v:=V.non) (u:=Value.none) J rfl q
 | brk =>
  obtain⟨_,_,_,q⟩:=hs;exact False.elim q
 | cont =>
  obtain⟨_,_,_,q⟩:=hs;exact False.elim q
section
variable {X:Cx} {x:Str} {p pos:Pos} {e:Expr} {es:List Expr} {t:TA} {id T:String} {r:List V->Hp->VK->Prop}
def tCB(r:List V->Hp->VK->Prop)(t:TA):TE:=fun σ H Q=>t σ H fun vs H1=>r vs H1 Q
theorem zag (hc:CallR X (.builtin id) r) (hg:Gl X x) (hm:X.mg x=none) (hv:bootBuiltins x=some (.builtin id)) (ha:PA X (e :: es) t) (hn:x≠"__name__":=by decide) (hdb:(x == ("__debug__":Str))=false:=by decide)
  (he:starEach (e :: es) X.env=(false,eval e X.env) :: starEach es X.env:=by rfl) (hpl:(backTo pos (starEach es X.env)).any (·.1)=false:=by rfl):PE X (.Call (.Name x p) (e :: es) [] pos) (tCB r t):=by
 intro pins s σ H Q I h;refine wpAny_Call_Name_kw (ze7 I hg hm hv ?_ hn hdb);exact PyProof.Rows.callWith_builtin1 (thn (ha pos pins s σ H _ I h) fun us s1 ⟨vs,H1,I1,r1,q1⟩=>hc pins s1 σ H1 vs us Q I1 r1 q1) he hpl
theorem zbo (hc:CallR X (.type T) r) (hg:Gl X x) (hm:X.mg x=none) (hv:bootBuiltins x=some (.type T)) (ha:PA X (e :: es) t) (hn:x≠"__name__":=by decide) (hdb:(x == ("__debug__":Str))=false:=by decide)
  (he:starEach (e :: es) X.env=(false,eval e X.env) :: starEach es X.env:=by rfl) (hpl:(backTo pos (starEach es X.env)).any (·.1)=false:=by rfl):PE X (.Call (.Name x p) (e :: es) [] pos) (tCB r t):=by
 intro pins s σ H Q I h;refine wpAny_Call_Name_kw (ze7 I hg hm hv ?_ hn hdb);exact PyProof.Rows.callWith_type1 (thn (ha pos pins s σ H _ I h) fun us s1 ⟨vs,H1,I1,r1,q1⟩=>hc pins s1 σ H1 vs us Q I1 r1 q1) he hpl
end
end L2
namespace HT
open PySem PyProof.Rows
section
open PySem.SeqAt
open PySem.AutoSeq1 (wpAny_loadPart')
open PySem.MeetsSeq PySem.MeetsSeq2 PySem.MeetsSeq3
end
section
variable {prog:Program} {w:World} {A:Around} {E:Value->Shared->Prop} {s:Shared}
theorem cat_tup {t b:Addr} {vs ws:List Value} {Q:Value->Shared->Prop} (ht:IsTup s.heap t vs.toArray) (hb:IsTup s.heap b ws.toArray) (hv:vs≠[])
  (h1:ws=[]->Q (.ref t) s) (h2:ws≠[]->Q (.ref s.heap.objs.size) { s with heap:=s.heap.push { cls:=.type "tuple",data:=.seq (vs++ws).toArray } })
  (hsz:vs.length+ws.length<=sizeLine):wpAny (model prog w) A (binaryOp .Add (.ref t) (.ref b)) Q E s:=by
 obtain⟨⟨cls,dd,data,sl⟩,ho,hc,n,hd⟩:=id ht;obtain⟨⟨cls2,dd2,data2,sl2⟩,ho2,hc2,n2,hd2⟩:=id hb;simp only at hc hd hc2 hd2;subst hc hd hc2 hd2;have e:vs.toArray++ws.toArray=(vs++ws).toArray:=by simp
 by_cases hw:ws=[]
 ·exact concat_meets ⟨_,ho,rfl⟩ ⟨_,ho2,rfl⟩ noFill_tuple_add seq_tuple_add PySem.F.slot_tuple_add PySem.F.entry_tuple_add (PySem.F.args_tuple_add_2 _ _)
   (tuple_addW1 t b vs.toArray ws.toArray n n2 dd dd2 sl sl2 (by simpa using hv) (by simp[hw])) ⟨ho,ho2,h1 hw⟩
 ·refine concat_meets ⟨_,ho,rfl⟩ ⟨_,ho2,rfl⟩ noFill_tuple_add seq_tuple_add PySem.F.slot_tuple_add PySem.F.entry_tuple_add (PySem.F.args_tuple_add_2 _ _)
   (tuple_addW2 t b vs.toArray ws.toArray n n2 dd dd2 sl sl2 (by simpa using hv) (by simpa using hw) (by rw[List.size_toArray,List.size_toArray]; exact hsz)) ⟨ho,ho2,?_⟩
  rw[e];exact h2 hw
def sIx(n d:Nat):Option Int->Nat
 | none=>d
 | some v=>if v<0 then (v+(n:Int)).toNat else min v.toNat n
theorem sIx_le(n d:Nat)(hd:d<=n)(o:Option Int):sIx n d o<=n:=by
 cases o with
 | none=>exact hd
 | some v =>
  show(if v<0 then (v+(n:Int)).toNat else min v.toNat n)<=n;by_cases hv:v<0
  ·rw[if_pos hv]; omega
  ·rw[if_neg hv]; exact Nat.min_le_right _ _
theorem zn0(v:Int)(n d:Nat):(if v<0 then max (v+(n:Int)) 0 else min v (n:Int))=((sIx n d (some v):Nat):Int):=by
 show(if v<0 then max (v+(n:Int)) 0 else min v (n:Int))=(((if v<0 then (v+(n:Int)).toNat else min v.toNat n):Nat):Int);by_cases hv:v<0
 ·simp only[if_pos hv]; omega
 ·simp only[if_neg hv]; omega
theorem zk7(lo hi:Option Int)(n:Nat):Builtin.Slice.sliceAdjust lo hi 1 (n:Int)=(((sIx n 0 lo:Nat):Int),((sIx n n hi:Nat):Int)):=by
 have h1:¬((1:Int)<0):=by omega
 unfold Builtin.Slice.sliceAdjust;simp only[h1,if_false];refine Prod.ext ?_ ?_
 ·cases lo with
  | none=>rfl
  | some v=>exact zn0 v n 0
 ·cases hi with
  | none=>rfl
  | some v=>exact zn0 v n n
theorem zjq(i j:Nat):Builtin.Slice.slicePlaces (i:Int) (j:Int) 1=j-i:=by
 unfold Builtin.Slice.slicePlaces;have h1:(1:Int) > 0:=by omega
 simp only[h1,if_true,Int.ediv_one];split <;> omega
theorem zfa{v:Value}{o:Option Int}{Q:Option Int->Shared->Prop}(p:IsPart v o)(h:Q o s):wpAny (model prog w) A (Builtin.Slice.slicePartIndex v) Q E s:=by
 cases p with
 | none=>exact slicePart_none h
 | int i t=>exact slicePart_int h
theorem ze8 {sl:Addr} {vl vu:Value} {lo hi:Option Int} {n:Nat} {Q:Int×Int×Nat->Shared->Prop} (hs:s.heap.IsSliceOf sl vl vu .none) (pl:IsPart vl lo) (pu:IsPart vu hi)
  (h:Q (((sIx n 0 lo:Nat):Int),1,sIx n n hi-sIx n 0 lo) s):wpAny (model prog w) A (Builtin.Slice.sliceApplied (.ref sl) (pure (n:Int))) Q E s:=by
 obtain⟨os,hos,hcs,hds⟩:=id hs;unfold Builtin.Slice.sliceApplied Builtin.Slice.sliceFields;refine wpAny_bind (wpAny_bind (wpAny_field hos hds (x:=vl) rfl (wpAny_bind (wpAny_field hos hds (x:=vu) rfl (wpAny_bind (wpAny_field hos hds (x:=.none) rfl (wpAny_pure ?_)))))));refine wpAny_bind (slicePart_none ?_);show wpAny _ _ (if ((1:Int) == 0)=true then _ else _) _ _ s;rw[if_neg (by decide)];refine wpAny_bind (zfa pl (wpAny_bind (zfa pu (wpAny_bind (wpAny_pure ?_)))));show wpAny _ _ (match Builtin.Slice.sliceAdjust lo hi 1 (n:Int) with | (lo,hi)=>pure (lo,(1:Int),Builtin.Slice.slicePlaces lo hi 1)) _ _ s;rw[zk7 lo hi n];show wpAny _ _ (pure (((sIx n 0 lo:Nat):Int),(1:Int),Builtin.Slice.slicePlaces ((sIx n 0 lo:Nat):Int) ((sIx n n hi:Nat):Int) 1)) _ _ s;rw[zjq];exact wpAny_pure h
theorem zo6(xs:Array Value)(i k:Nat):((List.range k).filterMap fun (m:Nat)=>xs[((i:Int)+(m:Int)*1).toNat]?).toArray=((xs.toList.drop i).take k).toArray:=by
 have e:(fun (m:Nat)=>xs[((i:Int)+(m:Int)*1).toNat]?)=fun m=>xs[i+m]?:=by
  funext m
  have:((i:Int)+(m:Int)*1).toNat=i+m:=by omega
  rw[this]
 rw[e]
 have:=pick_run xs i k
 rw[List.filterMap_map] at this;have e2:((fun x=>xs[x]?) ∘ fun x=>i+x)=fun m=>xs[i+m]?:=rfl
 rw[e2] at this;rw[this]
theorem getItem_tuple_cut {t sl:Addr} {items:Array Value} {vl vu:Value} {lo hi:Option Int} {Q:Value->Shared->Prop} (ht:IsTup s.heap t items) (hs:s.heap.IsSliceOf sl vl vu .none) (pl:IsPart vl lo) (pu:IsPart vu hi)
  (hw:¬(sIx items.size 0 lo=0/\sIx items.size items.size hi=items.size))
  (h:Q (.ref s.heap.objs.size) { s with heap:=s.heap.push { cls:=.type "tuple",data:=.seq ((items.toList.drop (sIx items.size 0 lo)).take (sIx items.size items.size hi-sIx items.size 0 lo)).toArray } })
  (hsz:items.size<=sizeLine):wpAny (model prog w) A (getItem (.ref t) (.ref sl)) Q E s:=by
 have htake:sizeOk (.seq ((items.toList.drop (sIx items.size 0 lo)).take (sIx items.size items.size hi-sIx items.size 0 lo)).toArray):=by
  show((items.toList.drop (sIx items.size 0 lo)).take (sIx items.size items.size hi-sIx items.size 0 lo)).toArray.size<=sizeLine;rw[List.size_toArray,List.length_take,List.length_drop,Array.length_toList];omega
 have hj:sIx items.size items.size hi<=items.size:=sIx_le _ _ (Nat.le_refl _) hi;obtain⟨os,hos,hcs,hds⟩:=id hs;have hTs:s.TypeIs (.ref sl) "slice":=⟨os,hos,hcs⟩;unfold getItem
 try with_reducible refine wpAny_holding ?_
 first | refine wpAny_bind (wpAny_pure ?_) | skip
 refine wpAny_bind (wpAny_sequenceKey ht.typeIs (by decide) ?_);refine wpAny_bind (wpAny_callSpecial?_slot (name:=Str.ofString "__getitem__") ht.typeIs PyProof.Rows.slot_tuple_getitem
  (wpAny_call_entry PyProof.Rows.slot_tuple_getitem ht.typeIs entry_tuple_getitem ?_ (args_tuple_getitem _ _)))
 show wpAny _ _ (Builtin.Tuple.tupleItemsOf (.ref t) >>= _) _ _ s;refine wpAny_bind (tupleItemsOf_ ht ?_);refine wpAny_bind (wpAny_typeOf hTs ?_);rw[if_pos (by decide)];refine wpAny_bind (ze8 hs pl pu ?_);have hno:¬((((sIx items.size 0 lo:Nat):Int) == 0 && (1:Int) == 1 && (sIx items.size items.size hi-sIx items.size 0 lo) == items.size)=true):=by
  intro q;rw[Bool.and_eq_true,Bool.and_eq_true] at q;have q1:((sIx items.size 0 lo:Nat):Int)=0:=eq_of_beq q.1.1;have q2:sIx items.size items.size hi-sIx items.size 0 lo=items.size:=eq_of_beq q.2;exact hw ⟨by omega,by omega⟩
 show wpAny _ _ (if (((sIx items.size 0 lo:Nat):Int) == 0 && (1:Int) == 1 && (sIx items.size items.size hi-sIx items.size 0 lo) == items.size)=true then _ else _) _ _ s;rw[if_neg hno,zo6]
 first
  | exact wpAny_bind (m:=Builtin.Tuple.tupleExact _) (wpAny_newObj_type (wpAny_pure ⟨_,rfl,wpAny_pure h⟩) htake)
  | exact wpAny_bind (m:=Builtin.Tuple.tupleExact _) (wpAny_newObj_type (wpAny_bind (wpAny_pure (wpAny_pure ⟨_,rfl,wpAny_pure h⟩))) htake)
  | exact wpAny_bind (wpAny_bind (m:=Builtin.Tuple.tupleExact _) (wpAny_newObj_type (wpAny_pure (wpAny_pure ⟨_,rfl,wpAny_pure h⟩)) htake))
  | exact wpAny_bind (wpAny_bind (m:=Builtin.Tuple.tupleExact _) (wpAny_newObj_type (wpAny_pure ⟨_,rfl,wpAny_pure h⟩) htake))
end
end HT
namespace L2
open PySem PySem.Spec PyProof.Rows
abbrev TO:=St->Hp->(Option Int->Hp->Prop)->Prop
def PO(X:Cx)(e:Option Expr)(t:TO):Prop :=
 ∀(pins:List (Addr×Obj)) (s:Shared) (σ:St) (H:Hp) (Q:Option Int->Hp->Prop),Inv X pins σ H s->t σ H Q →
  wpAny (model X.prog X.w) X.A (evalPart e X.env) (fun u s'=>∃o H',Inv X pins σ H' s'/\IsPart u o/\Q o H') X.xe s
def tNoPart:TO:=fun _ H Q=>Q none H
def tPart(t:TE):TO:=fun σ H Q=>t σ H fun x H1=>∃i,x=.int i/\Q (some i) H1
theorem ze0{ns:List Int}:∀{us:List Value},Vals (ns.map V.int) us->IntsAre us ns:=by
 induction ns with
 | nil=>intro us r; rw[List.map_nil] at r; cases r; exact .nil
 | cons n ns ih =>
  intro us r;rw[List.map_cons] at r;cases r with
  | cons r1 r2 =>
   obtain⟨t,e⟩:=r1;subst e;exact .cons n t (ih r2)
section
variable {X:Cx} {e:Expr} {te:TE} {lo hi:Option Expr} {tl th:TO} {pos p2:Pos}
theorem zb8:PO X none tNoPart:=by
 intro pins s σ H Q I h;rw[evalPart_none];exact wpAny_pure ⟨none,H,I,.none,h⟩
theorem zb7(h:PE X e te):PO X (some e) (tPart te):=by
 intro pins s σ H Q I hw;rw[evalPart_some];refine thn (h pins s σ H _ I hw) fun u s1 ⟨x,H1,I1,r1,q1⟩=>?_
 obtain⟨i,rfl,q⟩:=q1;obtain⟨t,rfl⟩:=r1;exact⟨some i,H1,I1,.int i t,q⟩
def SlR(X:Cx)(r:V->Option Int->Option Int->Hp->VK->Prop):Prop :=
 ∀(pins:List (Addr×Obj)) (s:Shared) (σ:St) (H:Hp) (x:V) (v vl vu:Value) (lo hi:Option Int) (sl:Addr) (Q:VK),Inv X pins σ H s->RelV x v->s.heap.IsSliceOf sl vl vu .none->IsPart vl lo->IsPart vu hi->r x lo hi H Q →
  ∃T id,typeLookup (.type T) "__getitem__" = pure (some (.builtin id))/\s.TypeIs v T/\wpAny (model X.prog X.w) X.A (getItem v (.ref sl)) (EP X pins σ Q) X.xe s
def tSl(r:V->Option Int->Option Int->Hp->VK->Prop)(te:TE)(tl th:TO):TE:=fun σ H Q=>te σ H fun x H1=>tl σ H1 fun l H2=>th σ H2 fun u H3=>r x l u H3 Q
theorem zaq{r:V->Option Int->Option Int->Hp->VK->Prop}(hr:SlR X r)(he:PE X e te)(hl:PO X lo tl)(hu:PO X hi th):PE X (.Subscript e (.Slice lo hi none p2) pos) (tSl r te tl th):=by
 intro pins s σ H Q I h;refine Subscript_ (thn (he pins s σ H _ I h) fun v s1 ⟨x,H1,I1,r1,q1⟩=>?_);refine wpAny_Slice (thn (hl pins s1 σ H1 _ I1 q1) fun vl s2 ⟨l,H2,I2,pl,q2⟩=>thn (hu pins s2 σ H2 _ I2 q2) fun vu s3 ⟨u,H3,I3,pu,q3⟩=>?_);rw[evalPart_none];refine wpAny_pure ?_;have I4:Inv X pins σ H3 { s3 with heap:=s3.heap.push { cls:=.type "slice",data:=.fields #[vl,vu,.none] } }:=I3.kept (t':=s3.toks) fun b ob q=>Heap.get?_push_of_some _ q
 obtain⟨T,id,hT,ht,hg⟩:=hr pins { s3 with heap:=s3.heap.push { cls:=.type "slice",data:=.fields #[vl,vu,.none] } } σ H3 x v vl vu l u s3.heap.objs.size Q I4 r1 (Heap.IsSliceOf.new ..) pl pu q3;show wpAny (model X.prog X.w) X.A (subscriptTail e (.Slice lo hi none p2) v (.ref s3.heap.objs.size)) (EP X pins σ Q) X.xe { s3 with heap:=s3.heap.push { cls:=.type "slice",data:=.fields #[vl,vu,.none] } };exact tail_any (ops:=[.ref s3.heap.objs.size,v]) ht hT hg (by with_unfolding_all rfl)
def cutV(xs:List V)(lo hi:Option Int):List V:=(xs.drop (HT.sIx xs.length 0 lo)).take (HT.sIx xs.length xs.length hi-HT.sIx xs.length 0 lo)
theorem zf0(xs:List V)(lo hi:Option Int):(cutV xs lo hi).length<=xs.length:=by
 unfold cutV;rw[List.length_take,List.length_drop];omega
def rSlT(K:PySem.W.Frag):V->Option Int->Option Int->Hp->VK->Prop:=fun x lo hi H Q=>∃a xs,x=.ref a/\SqT K H a xs /\
 ¬(HT.sIx xs.length 0 lo=0/\HT.sIx xs.length xs.length hi=xs.length)/\∀p,H p=none->Q (.ref p) (upd H p (.tup (cutV xs lo hi)))
theorem zph:SlR X (rSlT X.K):=by
 intro pins s σ H x v vl vu lo hi sl Q I rx hs pl pu h;obtain⟨a,xs,rfl,hx,hw,q⟩:=h;cases rx;obtain⟨its,r,ht,hz⟩:=I.tuple hx;have hlen:its.toArray.size=xs.length:=by rw[List.size_toArray]; exact r.length.symm
 refine⟨"tuple",_,PyProof.Rows.slot_tuple_getitem.lookup,ht.typeIs,?_⟩;refine HT.getItem_tuple_cut ht hs pl pu (by rw[hlen]; exact hw) ?_ (by rw[hlen]; exact hz);rw[hlen];refine⟨.ref s.heap.objs.size,_,I.laid (t':=s.toks) (o:=.tup (cutV xs lo hi)) (fun b ob q=>Heap.get?_push_of_some _ q) (Nat.le_refl _) ?_,rfl,q _ (I.hok.fresh (Nat.le_refl _))⟩;exact⟨Nat.le_trans (zf0 xs lo hi) hz,_,(r.drop (HT.sIx xs.length 0 lo)).take (HT.sIx xs.length xs.length hi-HT.sIx xs.length 0 lo),IsTup.new _ _,_,Heap.get?_push_size _ rfl,rfl⟩
def rCatT(K:PySem.W.Frag):R2:=fun x y H Q=>∃a b xs ys,x=.ref a/\y=.ref b/\SqT K H a xs/\SqT K H b ys/\xs≠[]/\xs.length+ys.length<=sizeLine /\
 (ys=[]->Q (.ref a) H)/\(ys≠[]->∀p,H p=none->Q (.ref p) (upd H p (.tup (xs++ys))))
theorem Vals.nil_iff{xs:List V}{us:List Value}(r:Vals xs us):us=[]↔xs=[]:=by
 cases r with
 | nil=>simp
 | cons _ _=>simp
theorem zqf:OpR X (binaryOp .Add) (rCatT X.K):=by
 intro pins s σ H x y v u Q I rx ry h;obtain⟨a,b,xs,ys,rfl,rfl,ha,hb,hx,hz,q1,q2⟩:=h;cases rx;cases ry;obtain⟨its,r1,p1,_⟩:=I.tuple ha;obtain⟨its2,r2,p2,_⟩:=I.tuple hb;refine HT.cat_tup p1 p2 (fun z=>hx (r1.nil_iff.mp z)) (fun z=>⟨.ref a,H,I,rfl,q1 (r2.nil_iff.mp z)⟩) (fun z=>?_) (by rw[<-r1.length,<-r2.length]; exact hz);refine⟨.ref s.heap.objs.size,_,I.laid (t':=s.toks) (o:=.tup (xs++ys)) (fun b ob q=>Heap.get?_push_of_some _ q) (Nat.le_refl _) ?_,rfl,q2 (fun w=>z (r2.nil_iff.mpr w)) _ (I.hok.fresh (Nat.le_refl _))⟩;exact⟨by rw[List.length_append]; exact hz,_,r1.append r2,IsTup.new _ _,_,Heap.get?_push_size _ rfl,rfl⟩
end
def ixN(n:Nat)(i:Int):Option Nat:=if 0<=i then (if i<n then some i.toNat else none) else if -(n:Int)<=i then some (i+n).toNat else none
def atI{α:Type}(xs:List α)(i:Int):Option α:=(ixN xs.length i).bind fun j=>xs[j]?
theorem zm9{n:Nat}{i:Int}{j:Nat}(h:ixN n i=some j):seqIndex? i n=some j/\j<n/\-(n:Int)<=i/\i<n:=by
 unfold ixN at h;by_cases h0:0<=i
 ·rw[if_pos h0] at h;by_cases h1:i<n
  ·rw[if_pos h1] at h;have e:i.toNat=j:=Option.some.inj h;exact⟨by rw[seqIndex_of h0 h1,e],by omega,by omega,h1⟩
  ·rw[if_neg h1] at h; cases h
 ·rw[if_neg h0] at h;by_cases h1:-(n:Int)<=i
  ·rw[if_pos h1] at h;have e:(i+n).toNat=j:=Option.some.inj h;exact⟨by rw[seqIndex_neg (by omega) h1,e],by omega,h1,by omega⟩
  ·rw[if_neg h1] at h; cases h
theorem znj{α:Type}{xs:List α}{i:Int}{v:α}(h:atI xs i=some v):∃j,seqIndex? i xs.length=some j/\xs[j]?=some v/\j<xs.length/\-(xs.length:Int)<=i/\i<xs.length:=by
 unfold atI at h;cases e:ixN xs.length i with
 | none=>rw[e] at h; cases h
 | some j =>
  rw[e] at h;obtain⟨h1,h2,h3,h4⟩:=zm9 e;exact⟨j,h1,h,h2,h3,h4⟩
theorem zak{α:Type}{xs:List α}{j:Nat}{v:α}(h:xs[j]?=some v):atI xs (j:Int)=some v:=by
 have hj:j<xs.length:=(List.getElem?_eq_some_iff.mp h).1;have e:ixN xs.length (j:Int)=some j:=by
  unfold ixN;rw[if_pos (by omega),if_pos (by omega)]; simp
 unfold atI; rw[e]; exact h
def PlainIx(b:Expr):Prop:=∀o i,subscripted b false o i=operate [o,i] (getItem o i)
def IxR(X:Cx)(r:R2):Prop :=
 ∀(value slice:Expr) (pins:List (Addr×Obj)) (s:Shared) (σ:St) (H:Hp) (x y:V) (v u:Value) (Q:VK),Inv X pins σ H s->RelV x v->RelV y u->r x y H Q →
  subscripted slice false v u=operate [v,u] (getItem v u)->wpAny (model X.prog X.w) X.A (subscriptTail value slice v u) (EP X pins σ Q) X.xe s
def MtR(X:Cx)(id:String)(r:V->List V->Hp->VK->Prop):Prop :=
 ∀(pins:List (Addr×Obj)) (s:Shared) (σ:St) (H:Hp) (x:V) (xs:List V) (v:Value) (us:List Value) (Q:VK),Inv X pins σ H s->RelV x v->Vals xs us->r x xs H Q →
  wpAny (model X.prog X.w) X.A (call (.builtin id) (v :: us)) (EP X pins σ Q) X.xe s
section
variable {X:Cx} {a b:Expr} {ta tb:TE} {pos:Pos}
theorem za8{r:R2}(hr:IxR X r)(ha:PE X a ta)(hb:PE X b tb)(hs:PlainIx b):PE X (.Subscript a b pos) (tOp r ta tb):=by
 intro pins s σ H Q I h;exact Subscript_ (binT ha hb I h fun v u s2 x y H2 I2 rx ry q=>hr a b pins s2 σ H2 x y v u Q I2 rx ry q (hs _ _))
inductive IxLR(K:PySem.W.Frag)(x y:V)(H:Hp)(Q:VK):Prop
 | mk (p:Addr) (xs:List V) (i:Int) (v:V) (a:x=.ref p) (b:y=.int i) (c:SqL K H p xs) (d:atI xs i=some v) (q:Q v H):IxLR K x y H Q
inductive IxTR(K:PySem.W.Frag)(x y:V)(H:Hp)(Q:VK):Prop
 | mk (p:Addr) (xs:List V) (i:Int) (v:V) (a:x=.ref p) (b:y=.int i) (c:SqT K H p xs) (d:atI xs i=some v) (q:Q v H):IxTR K x y H Q
def rIxL(K:PySem.W.Frag):R2:=fun x y H Q=>IxLR K x y H Q
def rIxT(K:PySem.W.Frag):R2:=fun x y H Q=>IxTR K x y H Q
theorem zi2:IxR X (rIxL X.K):=by
 intro value slice pins s σ H x y v u Q I rx ry h hs;obtain⟨p,xs,i,z,rfl,rfl,hq,he,q⟩:=h;cases rx;obtain⟨t,rfl⟩:=ry;obtain⟨its,r,pl,hz⟩:=I.list hq;obtain⟨j,h1,h2,h3,h4,h5⟩:=znj he;obtain⟨w,ew,rw'⟩:=r.get h2;have hl:=r.length;have hn:=line63;have fin:EP X pins σ Q w s:=⟨z,H,I,rw',q⟩;by_cases h0:0<=i
 ·have hj:i.toNat=j:=by
   rw[seqIndex_of h0 h5] at h1;exact Option.some.inj h1
  exact item_listR pl.isList h0 (by omega) (by rw[hj]; simpa using ew) fin hs
 ·have hj:(i+(its.toArray.size:Int)).toNat=j:=by
   rw[seqIndex_neg (by omega) h4] at h1;rw[List.size_toArray,<-hl];exact Option.some.inj h1
  exact subscriptTail_builtinR (x:=w) pl.isList.typeIs slot_list_getitem.lookup
   (wpAny_getItem_list_neg (Q:=fun r s'=>r=w/\EP X pins σ Q r s') pl.isList (by omega) (by rw[List.size_toArray] <;> omega) (by omega) (by rw[hj]; simpa using ew) ⟨rfl,fin⟩) hs
theorem zcf:IxR X (rIxT X.K):=by
 intro value slice pins s σ H x y v u Q I rx ry h hs;obtain⟨p,xs,i,z,rfl,rfl,hq,he,q⟩:=h;cases rx;obtain⟨t,rfl⟩:=ry;obtain⟨its,r,pl,hz⟩:=I.tuple hq;obtain⟨j,h1,h2,h3,h4,h5⟩:=znj he;obtain⟨w,ew,rw'⟩:=r.get h2;have hl:=r.length;have hn:=line63;have fin:EP X pins σ Q w s:=⟨z,H,I,rw',q⟩;exact subscriptTail_builtinR (x:=w) pl.typeIs slot_tuple_getitem.lookup
  (getItem_tuple (j:=j) (Q:=fun r s'=>r=w/\EP X pins σ Q r s') pl (by omega) (by omega) (by rw[List.size_toArray,<-hl]; exact h1) (by simpa using ew) ⟨rfl,fin⟩) hs
theorem zjt(its:List Value)(n j:Nat)(u:Value):Obj.mapSeq (·.setIfInBounds j u) { cls:=.type "list",data:=.seq its.toArray n }={ cls:=.type "list",data:=.seq (its.set j u).toArray n }:=by
 simp[Obj.mapSeq]
theorem Inv.lst{pins:List (Addr×Obj)}{σ:St}{H:Hp}{s:Shared}{p:Addr}{xs:List V}(I:Inv X pins σ H s)(h:H p=some (.lst xs)):
  ∃(its:List Value) (n:Nat),Vals xs its/\s.heap.get? p=some { cls:=.type "list",data:=.seq its.toArray n }/\xs.length<=sizeLine:=by
 obtain⟨z,its,n,r,e⟩:=I.hok p _ h;exact⟨its,n,r,e,z⟩
theorem Inv.lstUpd {pins:List (Addr×Obj)} {σ:St} {H:Hp} {s:Shared} {p:Addr} {xs ys:List V} {its its':List Value} {n n':Nat} {f:Obj->Obj} (I:Inv X pins σ H s) (h:H p=some (.lst xs))
  (ho:s.heap.get? p=some { cls:=.type "list",data:=.seq its.toArray n }) (hf:f { cls:=.type "list",data:=.seq its.toArray n }={ cls:=.type "list",data:=.seq its'.toArray n' }) (r:Vals ys its') (hz:ys.length<=sizeLine) (t:Nat) :
  Inv X pins σ (upd H p (.lst ys)) { s with heap:=s.heap.update p f,toks:=t }:=by
 have e:(s.heap.update p f).get? p=some { cls:=.type "list",data:=.seq its'.toArray n' }:=by
  rw[Heap.get?_update_self f ho (by rw[hf] <;> rfl),hf]
 refine I.write (x:=p) (e:=p) (by rw[h]; trivial) (.inl rfl) (fun b u hb q=>(Heap.get?_update_other _ _ (Ne.symm hb)).trans q) ⟨_,e⟩ ?_;exact⟨hz,its',n',r,e⟩
inductive SetLR(o i v:V)(H:Hp)(Q:Hp->Prop):Prop
 | mk (p:Addr) (xs:List V) (k:Int) (j:Nat) (e1:o=.ref p) (e2:i=.int k) (h:H p=some (.lst xs)) (x:ixN xs.length k=some j) (q:Q (upd H p (.lst (xs.set j v)))):SetLR o i v H Q
def rSetL:V->V->V->Hp->(Hp->Prop)->Prop:=fun o i v H Q=>SetLR o i v H Q
theorem zfr:PSet X rSetL:=by
 intro pins s σ H o i v ov iv u Q I ro ri rv h;obtain⟨p,xs,k,j,rfl,rfl,hp,hj,q⟩:=h;cases ro;obtain⟨t,rfl⟩:=ri;obtain⟨its,n,r,ho,hz⟩:=I.lst hp;obtain⟨h1,h2,h3,h4⟩:=zm9 hj;have hl:=r.length;have hn:=line63;have I':Inv X pins σ (upd H p (.lst (xs.set j v))) { s with heap:=s.heap.update p (Obj.mapSeq (·.setIfInBounds j u)) } :=
  I.lstUpd hp ho (zjt its n j u) (r.set rv j) (by rw[List.length_set]; exact hz) s.toks
 by_cases h0:0<=k
 ·have hk:k.toNat=j:=by
   rw[seqIndex_of h0 h4] at h1;exact Option.some.inj h1
  exact PySem.W.ki_setAt ho h0 (by omega) (by rw[List.size_toArray,<-hl]; exact h4) (by rw[hk]; exact⟨_,I',q⟩)
 ·have hk:(k+(its.toArray.size:Int)).toNat=j:=by
   rw[seqIndex_neg (by omega) h3] at h1;rw[List.size_toArray,<-hl];exact Option.some.inj h1
  exact PySem.W.ki_setBack ho (by omega) (by rw[List.size_toArray,<-hl]; exact h3) (by omega) (by rw[hk]; exact⟨_,I',q⟩)
theorem zga(lo hi:Option Int)(n:Nat):(sliceBounds lo hi none n).1=((HT.sIx n 0 lo:Nat):Int)/\(sliceBounds lo hi none n).2.1=((HT.sIx n n hi:Nat):Int)/\(sliceBounds lo hi none n).2.2=1:=by
 refine⟨?_,?_,rfl⟩
 ·cases lo with
  | none=>simp[sliceBounds,HT.sIx]
  | some i =>
   simp only[sliceBounds,HT.sIx,Option.getD_none,show(1:Int) > 0 by decide,if_true];by_cases h:i<0
   ·simp only[h,if_true] <;> omega
   ·simp only[h,if_false] <;> omega
 ·cases hi with
  | none=>simp[sliceBounds,HT.sIx]
  | some i =>
   simp only[sliceBounds,HT.sIx,Option.getD_none,show(1:Int) > 0 by decide,if_true];by_cases h:i<0
   ·simp only[h,if_true] <;> omega
   ·simp only[h,if_false] <;> omega
theorem zfq(its:List Value)(lo hi:Option Int):slicePick its.toArray lo hi none=((its.drop (HT.sIx its.length 0 lo)).take (HT.sIx its.length its.length hi-HT.sIx its.length 0 lo)).toArray:=by
 obtain⟨h1,h2,h3⟩:=zga lo hi its.toArray.size;unfold slicePick;rw[h1,h2,h3];simp only[sliceRange_one,pick_run,List.size_toArray] <;> rfl
inductive SlLR(K:PySem.W.Frag)(x:V)(lo hi:Option Int)(H:Hp)(Q:VK):Prop
 | mk (a:Addr) (xs:List V) (e:x=.ref a) (s:SqL K H a xs) (q:∀p,H p=none->Q (.ref p) (upd H p (.lst (cutV xs lo hi)))):SlLR K x lo hi H Q
def rSlL(K:PySem.W.Frag):V->Option Int->Option Int->Hp->VK->Prop:=fun x lo hi H Q=>SlLR K x lo hi H Q
theorem zq5:SlR X (rSlL X.K):=by
 intro pins s σ H x v vl vu lo hi sl Q I rx hs pl pu h;obtain⟨a,xs,rfl,hx,q⟩:=h;cases rx;obtain⟨its,r,ht,hz⟩:=I.list hx;have hlen:=r.length;refine⟨"list",_,slot_list_getitem.lookup,ht.isList.typeIs,?_⟩;refine wpAny_getItem_list_slice ht.isList hs pl pu .none (by simp) ?_ (by rw[List.size_toArray] <;> omega);rw[zfq,<-hlen];refine⟨.ref s.heap.objs.size,_,I.laid (t':=s.toks) (o:=.lst (cutV xs lo hi)) (fun b ob q=>Heap.get?_push_of_some _ q) (Nat.le_refl _) ?_,rfl,q _ (I.hok.fresh (Nat.le_refl _))⟩;exact⟨Nat.le_trans (zf0 xs lo hi) hz,_,0,(r.drop (HT.sIx xs.length 0 lo)).take (HT.sIx xs.length xs.length hi-HT.sIx xs.length 0 lo),Heap.get?_push_size _ rfl⟩
inductive LenR(K:PySem.W.Frag)(xs:List V)(H:Hp)(Q:VK):Prop
 | mk (p:Addr) (ys:List V) (e:xs=[.ref p]) (s:SqL K H p ys\/SqT K H p ys) (q:Q (.int ys.length) H):LenR K xs H Q
theorem zh3:CallR X (.builtin "len") (LenR X.K):=by
 intro pins s σ H xs us Q I r h;obtain⟨p,ys,rfl,hq,q⟩:=h;obtain⟨u,rfl,rx⟩:=vals1 r;cases rx;have hn:=line63;rcases hq with hq | hq
 ·obtain⟨its,r',pl,hz⟩:=I.list hq;have hlen:=r'.length;exact Calls.call_len_list pl.isList (by simp only[List.size_toArray] <;> omega) ⟨.int ys.length,H,I.tok _,⟨s.toks+1,by rw[List.size_toArray,hlen]⟩,q⟩
 ·obtain⟨its,r',pl,hz⟩:=I.tuple hq;have hlen:=r'.length;exact len_tuple pl (by simp only[List.size_toArray] <;> omega) ⟨.int ys.length,H,I.tok _,⟨s.toks+1,by rw[List.size_toArray,hlen]⟩,q⟩
theorem zh2:CallR X (.type "list") (fun xs H Q=>∃p ys,xs=[.ref p]/\(SqL X.K H p ys\/SqT X.K H p ys)/\∀l,H l=none->Q (.ref l) (upd H l (.lst ys))):=by
 intro pins s σ H xs us Q I r h;obtain⟨p,ys,rfl,hq,q⟩:=h;obtain⟨u,rfl,rx⟩:=vals1 r;cases rx;have fin:∀(its:List Value),Vals ys its->ys.length<=sizeLine->∀(h':Heap) (c':Nat),(∀b o',s.heap.get? b=some o'->h'.get? b=some o') →
   h'.get? s.heap.objs.size=some { cls:=.type "list",dict:=none,data:=.seq its.toArray c',slots:=#[] }->EP X pins σ Q (.ref s.heap.objs.size) { s with heap:=h' }:=fun its r' hz h' c' kp e =>
  ⟨.ref s.heap.objs.size,_,I.laid (t':=s.toks) kp (Nat.le_refl _) (show ObjOk X.prog X.w _ h' _ (.lst ys) from ⟨hz,its,c',r',e⟩),rfl,q _ (I.hok.fresh (Nat.le_refl _))⟩
 rcases hq with hq | hq
 ·obtain⟨its,r',pl,hz⟩:=I.list hq;have hlen:=r'.length;obtain⟨o,ho,hc,n,hd⟩:=pl.isList;exact call_list_seq p (.inl rfl) ho hc hd (fun h' c' kp e=>fin its r' hz h' c' kp e) (by simp only[List.size_toArray] <;> omega)
 ·obtain⟨its,r',pl,hz⟩:=I.tuple hq;have hlen:=r'.length;obtain⟨o,ho,hc,n,hd⟩:=pl;exact call_list_seq p (.inr rfl) ho hc hd (fun h' c' kp e=>fin its r' hz h' c' kp e) (by simp only[List.size_toArray] <;> omega)
theorem zcs:CallR X (.type "tuple") (fun xs H Q=>∃p ys,xs=[.ref p]/\((SqL X.K H p ys/\∀l,H l=none->Q (.ref l) (upd H l (.tup ys)))\/(SqT X.K H p ys/\Q (.ref p) H))):=by
 intro pins s σ H xs us Q I r h;obtain⟨p,ys,rfl,h⟩:=h;obtain⟨u,rfl,rx⟩:=vals1 r;cases rx;rcases h with ⟨hq,q⟩ | ⟨hq,q⟩
 ·obtain⟨its,r',pl,hz⟩:=I.list hq;have hlen:=r'.length;refine call_tuple_list pl.isList (fun h' kp=>?_) (by simp only[List.size_toArray] <;> omega);have I1:Inv X pins σ H { s with heap:=h' }:=I.kept (t':=s.toks) kp;have I2:Inv X pins σ (upd H h'.objs.size (.tup ys)) { s with heap:=h'.push { cls:=.type "tuple",data:=.seq its.toArray } } :=
   I1.laid (t':=s.toks) (fun b o e=>Heap.get?_push_of_some _ e) (Nat.le_refl _) (show ObjOk X.prog X.w _ _ _ (.tup ys) from ⟨hz,its,r',IsTup.new _ _,_,Heap.get?_push_size _ rfl,rfl⟩)
  exact⟨.ref h'.objs.size,_,I2,rfl,q _ (I1.hok.fresh (Nat.le_refl _))⟩
 ·obtain⟨its,r',pl,hz⟩:=I.tuple hq;exact call_tuple_same pl ⟨.ref p,H,I,rfl,q⟩
def tyV(K:PySem.W.Frag)(T:String)(x:V)(H:Hp):Prop:=match x with
 | .str _=>T="str"
 | .int _=>T="int"
 | .ref p=>(T="list"/\∃xs,SqL K H p xs)\/(T="tuple"/\∃o,K.lookup p=some o/\o.cls=.type "tuple"/\o.dict=none) \/
   (T="dict"/\((∃kvs,H p=some (.dK kvs))\/∃kvs,H p=some (.dT kvs)))\/(T="set"/\∃S n,H p=some (.set S n))
 | _=>False
theorem tyV_is{pins:List (Addr×Obj)}{σ:St}{H:Hp}{s:Shared}{T:String}{x:V}{v:Value}(I:Inv X pins σ H s)(r:RelV x v)(ty:tyV X.K T x H):
  s.TypeIs v T/\∀a,v=.ref a->∃ob,s.heap.get? a=some ob/\ob.dict=none:=by
 cases x with
 | str z =>
  obtain⟨t,rfl⟩:=r;cases (show T="str" from ty);exact⟨typeIs_str s z t,fun _ e=>nomatch e⟩
 | int i =>
  obtain⟨t,rfl⟩:=r;cases (show T="int" from ty);exact⟨typeIs_int s i t,fun _ e=>nomatch e⟩
 | ref p =>
  cases r;rcases ty with ⟨rfl,xs,hq⟩ | ⟨rfl,o,hk,hc,hd⟩ | ⟨rfl,hk⟩ | ⟨rfl,S,n,hk⟩
  ·obtain⟨its,_,pl,_⟩:=I.list hq;refine⟨pl.isList.typeIs,fun a e=>?_⟩;cases e;obtain⟨o,n,e,c,hd,_⟩:=pl;exact⟨o,e,hd⟩
  ·refine⟨⟨o,I.kIn p o hk,hc⟩,fun a e=>?_⟩;cases e;exact⟨o,I.kIn _ o hk,hd⟩
  ·have z:∃o,s.heap.get? p=some o/\o.ExactDict:=by
    rcases hk with ⟨kvs,hk⟩ | ⟨kvs,hk⟩
    ·obtain⟨_,_,_,_,o,_,_,e,ex,_⟩:=I.hok p _ hk;exact⟨o,e,ex⟩
    ·obtain⟨_,_,_,_,o,_,_,e,ex,_⟩:=I.hok p _ hk;exact⟨o,e,ex⟩
   obtain⟨o,e,ex⟩:=z;refine⟨⟨o,e,ex.1⟩,fun a e2=>?_⟩;cases e2;exact⟨o,e,ex.2.1⟩
  ·obtain⟨o,_,_,_,e,ex,_⟩:=I.hok p _ hk;refine⟨⟨o,e,ex.1⟩,fun a e2=>?_⟩;cases e2;exact⟨o,e,ex.2.1⟩
 | _=>exact False.elim ty
def tBM(K:PySem.W.Frag)(T:String)(r:V->List V->Hp->VK->Prop)(to:TE)(t:TA):TE:=fun σ H Q=>to σ H fun x H1=>tyV K T x H1/\t σ H1 fun xs H2=>r x xs H2 Q
variable {o e:Expr} {es:List Expr} {to:TE} {t:TA} {name:Str} {apos cpos:Pos} {T id:String} {r:V->List V->Hp->VK->Prop}
theorem pe_bm (pa:PlainAttrs T) (slot:Slot T name id) (hty:typeOf (.builtin id)=pure (.type "method_descriptor")) (hm:MtR X id r) (ho:PE X o to) (ha:PA X (e :: es) t)
  (hbase:attributeBase o name X.env (eval o X.env)=eval o X.env:=by rfl)
  (hfew:((backTo cpos (starEach (e :: es) X.env)).all (fun x=>!x.1) && (backToKw cpos (keywordEach [] X.env)).all (fun x=>x.1.isSome)
   && decide ((e :: es).length+([]:List Keyword).length+(if ([]:List Keyword).isEmpty then 0 else 1)<30))=true:=by rfl)
  (hline:(apos.endLine == cpos.line)=true:=by rfl) (hs:starEach (e :: es) X.env=(false,eval e X.env) :: starEach es X.env:=by rfl) (hplain:(backTo cpos (starEach es X.env)).any (·.1)=false:=by rfl) :
  PE X (.Call (.Attribute o name apos) (e :: es) [] cpos) (tBM X.K T r to t):=by
 intro pins s σ H Q I h;refine wpAny_Call_method_late hbase hfew hline rfl (thn (ho pins s σ H _ I h) fun v s1 ⟨x,H1,I1,r1,ty,q1⟩=>?_);obtain⟨h1,h2⟩:=tyV_is I1 r1 ty;refine⟨T,id,pa,slot,hty,h1,h2,?_⟩;have hA:=ha cpos pins s1 σ H1 _ I1 q1;rw[hs] at hA ⊢;refine Calls.callWith_builtin (by show(false || (backTo cpos (starEach es X.env)).any (·.1))=false; rw[hplain] <;> rfl) (Calls.evalArgs_plain ?_);exact thn hA fun us s2 ⟨vs,H2,I2,r2,q2⟩=>hm pins s2 σ H2 x vs v us Q I2 r1 r2 q2
end
def MtM(X:Cx)(id:String)(r:V->List V->Hp->VK->Prop):Prop :=
 ∀(pins:List (Addr×Obj)) (s:Shared) (σ:St) (H:Hp) (x:V) (xs:List V) (v:Value) (us:List Value) (Q:VK),Inv X pins σ H s->RelV x v->Vals xs us->r x xs H Q →
  wpAny (model X.prog X.w) X.A (call (.builtin id) (v :: us)) (EP X pins σ Q) X.xe s
theorem Vals.one:∀{x:V} {us:List Value},Vals [x] us->∃u,us=[u]/\RelV x u
 | _,_,.cons r .nil=>⟨_,rfl,r⟩
theorem Vals.dropLast{xs:List V}{us:List Value}(h:Vals xs us):Vals xs.dropLast us.dropLast:=by
 induction h with
 | nil=>exact .nil
 | cons r t ih =>
  cases t with
  | nil=>exact .nil
  | cons q t'=>exact .cons r ih
theorem Vals.eraseIdx:∀{xs:List V} {us:List Value} (i:Nat),Vals xs us->Vals (xs.eraseIdx i) (us.eraseIdx i)
 | _,_,_,.nil=>.nil
 | _,_,0,.cons _ t=>t
 | _,_,i+1,.cons r t=>.cons r (Vals.eraseIdx i t)
theorem Vals.reverse{xs:List V}{us:List Value}(h:Vals xs us):Vals xs.reverse us.reverse:=by
 induction h with
 | nil=>exact .nil
 | cons r t ih=>rw[List.reverse_cons,List.reverse_cons]; exact Vals.append ih (.cons r .nil)
section
variable {X:Cx} {pins:List (Addr×Obj)} {σ:St} {H:Hp} {s:Shared} {l b:Addr} {xs ys zs:List V}
theorem Inv.lset {its its':List Value} {n:Nat} {f:Array Value->Array Value} {t':Nat} (I:Inv X pins σ H s) (hH:H l=some (.lst xs))
  (e:s.heap.get? l=some { cls:=.type "list",data:=.seq its.toArray n }) (hf:f its.toArray=its'.toArray) (hv:Vals ys its') (hz:ys.length<=sizeLine) :
  Inv X pins σ (upd H l (.lst ys)) { s with heap:=s.heap.update l (Obj.mapSeq f),toks:=t' }:=by
 have q:=PySem.IsL.update e f;rw[hf] at q;refine I.write (x:=l) (e:=l) (by rw[hH]; exact trivial) (.inl rfl) (fun b' u hb hu=>(Heap.get?_update_other s.heap (Obj.mapSeq f) (Ne.symm hb)).trans hu) ⟨_,q⟩ ?_;exact⟨hz,its',_,hv,q⟩
theorem Inv.lnew{its:List Value}{t':Nat}(I:Inv X pins σ H s)(hv:Vals ys its)(hz:ys.length<=sizeLine):
  Inv X pins σ (upd H s.heap.objs.size (.lst ys)) { s with heap:=s.heap.push { cls:=.type "list",data:=.seq its.toArray },toks:=t' } :=
 I.laid (fun _ _ q=>Heap.get?_push_of_some _ q) (Nat.le_refl _) ⟨hz,its,0,hv,Heap.get?_push_size _ rfl⟩
theorem Inv.fresh(I:Inv X pins σ H s):H s.heap.objs.size=none:=I.hok.fresh (Nat.le_refl _)
theorem Inv.lstM(I:Inv X pins σ H s)(hH:H l=some (.lst xs)):xs.length<=sizeLine/\∃(its:List Value) (n:Nat),Vals xs its/\xs.length=its.length/\s.heap.get? l=some { cls:=.type "list",data:=.seq its.toArray n }:=by
 obtain⟨z,its,n,r,e⟩:=I.hok l _ hH;exact⟨z,its,n,r,r.length,e⟩
theorem notLongL{n:Nat}(h:n<=sizeLine):Builtin.List.listTooLong n=false:=by
 unfold Builtin.List.listTooLong;exact decide_eq_false (by omega)
end
section
variable {X:Cx}
inductive AppR(x:V)(vs:List V)(H:Hp)(Q:VK):Prop
 | mk (l:Addr) (xs:List V) (y:V) (e1:x=.ref l) (e2:vs=[y]) (h:H l=some (.lst xs)) (n:xs.length<sizeLine) (q:Q .non (upd H l (.lst (xs++[y])))):AppR x vs H Q
def rAppend:V->List V->Hp->VK->Prop:=fun x vs H Q=>AppR x vs H Q
theorem zcq:MtM X "list.append" rAppend:=by
 intro pins s σ H x vs v us Q I rx rv h;obtain⟨l,xs,y,rfl,rfl,hH,hz,q⟩:=h;cases rx;obtain⟨u,rfl,ru⟩:=rv.one;obtain⟨z,its,n,r,hl,e⟩:=I.lstM hH;refine call_meets F.slot_list_append ⟨_,e,rfl⟩ F.entry_list_append (F.args_list_append_2 _ _) (PySem.list_append l its.toArray n u (by rw[List.size_toArray]; omega)) ⟨e,?_⟩;refine⟨.non,_,I.lset (its':=its++[u]) hH e (by simp) (r.append (.cons ru .nil)) ?_,rfl,q⟩;rw[List.length_append,List.length_singleton];omega
def rExtend:V->List V->Hp->VK->Prop:=fun x vs H Q=>∃l b xs zs,x=.ref l/\vs=[.ref b]/\H l=some (.lst xs)/\H b=some (.lst zs)/\xs.length+zs.length<=sizeLine/\Q .non (upd H l (.lst (xs++zs)))
theorem zlp:MtM X "list.extend" rExtend:=by
 intro pins s σ H x vs v us Q I rx rv h;obtain⟨l,b,xs,zs,rfl,rfl,hH,hB,hz,q⟩:=h;cases rx;obtain⟨u,rfl,ru⟩:=rv.one;cases ru;obtain⟨z,its,n,r,hl,e⟩:=I.lstM hH;obtain⟨z2,its2,n2,r2,hl2,e2⟩:=I.lstM hB;have hsz:its.toArray.size+its2.toArray.size<=sizeLine:=by rw[List.size_toArray,List.size_toArray]; omega
 have hlong:¬(!its.toArray.isEmpty && Builtin.List.listTooLong (its.toArray.size+its2.toArray.size))=true:=by
  rw[notLongL hsz,Bool.and_false];exact Bool.false_ne_true
 refine call_meets F.slot_list_extend ⟨_,e,rfl⟩ F.entry_list_extend (F.args_list_extend_2 _ _)
  (AutoSeq1.list_extend_list_list_0 l its.toArray n b its2.toArray n2 hlong (by rw[List.size_toArray]; omega) (by omega)) ⟨e,e2,?_⟩
 refine⟨.non,_,I.lset (its':=its++its2) hH e (by simp) (r.append r2) ?_,rfl,q⟩;rw[List.length_append];omega
inductive CatR(x y:V)(H:Hp)(Q:VK):Prop
 | mk (l b:Addr) (xs zs:List V) (e1:x=.ref l) (e2:y=.ref b) (h1:H l=some (.lst xs)) (h2:H b=some (.lst zs)) (n:xs.length+zs.length<=sizeLine) (q:∀p,H p=none->Q (.ref p) (upd H p (.lst (xs++zs)))):CatR x y H Q
def rCat:R2:=fun x y H Q=>CatR x y H Q
theorem zc2:OpR X (binaryOp .Add) rCat:=by
 intro pins s σ H x y v u Q I rx ry h;obtain⟨l,b,xs,zs,rfl,rfl,hH,hB,hz,q⟩:=h;cases rx;cases ry;obtain⟨z,its,n,r,hl,e⟩:=I.lstM hH;obtain⟨z2,its2,n2,r2,hl2,e2⟩:=I.lstM hB;refine PySem.P.add_list e e2 ?_ (by rw[List.size_toArray,List.size_toArray]; omega);have ea:its.toArray++its2.toArray=(its++its2).toArray:=by simp
 rw[ea];exact⟨.ref _,_,I.lnew (t':=s.toks) (r.append r2) (by rw[List.length_append]; omega),rfl,q _ I.fresh⟩
end
section
variable {prog:Program} {w:World} {A:Around} {E:Value->Shared->Prop} {s:Shared}
end
section
variable {X:Cx}
end
section
variable {κ:Type} [DecidableEq κ]
def valV(kvs:List (κ×V))(k:κ):Option V:=(kvs.find? fun kv=>decide (kv.1=k)).map (·.2)
def putK(kvs:List (κ×V))(k:κ)(v:V):List (κ×V) :=
 if (kvs.any fun kv=>decide (kv.1=k))=true then kvs.map (fun kv=>if kv.1=k then (kv.1,v) else kv) else kvs++[(k,v)]
def dropK(kvs:List (κ×V))(k:κ):List (κ×V):=kvs.filter fun kv=>decide (kv.1≠k)
theorem zbm{p:κ×V}{r:List (κ×V)}{k:κ}(e:p.1=k):valV (p :: r) k=some p.2:=by simp[valV,List.find?_cons,e]
theorem zbn{p:κ×V}{r:List (κ×V)}{k:κ}(e:¬p.1=k):valV (p :: r) k=valV r k:=by simp[valV,List.find?_cons,e]
theorem zec(k:κ):∀kvs:List (κ×V),(kvs.any fun kv=>decide (kv.1=k))=(valV kvs k).isSome
 | []=>rfl
 | p :: r=>by
  rw[List.any_cons];by_cases e:p.1=k
  ·simp only[zbm e,decide_eq_true e,Bool.true_or,Option.isSome_some]
  ·rw[zbn e,decide_eq_false e,Bool.false_or]; exact zec k r
theorem zib(k j:κ)(y:V):∀kvs:List (κ×V),valV (kvs.map fun kv=>if kv.1=k then (kv.1,y) else kv) j=(valV kvs j).map fun x=>if j=k then y else x
 | []=>rfl
 | p :: r=>by
  have ih:=zib k j y r;rw[List.map_cons];by_cases h:p.1=k
  ·rw[if_pos h];by_cases e:p.1=j
   ·rw[zbm (p:=(p.1,y)) e,zbm e,Option.map_some,if_pos (e.symm.trans h)]
   ·rw[zbn (p:=(p.1,y)) e,zbn e,ih]
  ·rw[if_neg h];by_cases e:p.1=j
   ·rw[zbm (p:=p) e,zbm e,Option.map_some,if_neg (fun z=>h (e.trans z))]
   ·rw[zbn (p:=p) e,zbn e,ih]
theorem zg8(k j:κ)(y:V):∀kvs:List (κ×V),valV kvs k=none->valV (kvs++[(k,y)]) j=if j=k then some y else valV kvs j
 | [],_=>by
  by_cases e:k=j
  ·rw[if_pos e.symm]; exact zbm (p:=(k,y)) e
  ·rw[if_neg (fun z=>e z.symm)]; exact zbn (p:=(k,y)) e
 | p :: r,hn=>by
  rw[List.cons_append];have hk:¬p.1=k:=fun z=>by rw[zbm z] at hn; cases hn
  rw[zbn hk] at hn;have ih:=zg8 k j y r hn;by_cases e:p.1=j
  ·rw[zbm e,zbm e,if_neg (fun z=>hk (e.trans z))]
  ·rw[zbn e,zbn e,ih]
theorem znt(kvs:List (κ×V))(k j:κ)(y:V):valV (putK kvs k y) j=if j=k then some y else valV kvs j:=by
 unfold putK;by_cases a:(kvs.any fun kv=>decide (kv.1=k))=true
 ·rw[if_pos a,zib];rw[zec] at a;by_cases e:j=k
  ·obtain⟨x,hx⟩:=Option.isSome_iff_exists.mp a;rw[if_pos e,e,hx,Option.map_some,if_pos rfl]
  ·rw[if_neg e];cases valV kvs j with
   | none=>rfl
   | some x=>rw[Option.map_some,if_neg e]
 ·rw[if_neg a];refine zg8 k j y kvs ?_;rw[zec] at a;cases q:valV kvs k with
  | none=>rfl
  | some x=>rw[q] at a; exact(a rfl).elim
theorem zdh(kvs:List (κ×V))(k:κ)(v:V):(putK kvs k v).length<=kvs.length+1:=by
 unfold putK;split
 ·rw[List.length_map]; omega
 ·rw[List.length_append,List.length_cons,List.length_nil]; omega
theorem RelO.isSome_eq{o:Option V}{u:Option Value}(r:RelO o u):o.isSome=u.isSome:=by
 cases o with
 | none=>cases u with
  | none=>rfl
  | some _=>exact(show False from r).elim
 | some _=>cases u with
  | none=>exact(show False from r).elim
  | some _=>rfl
theorem RelO.getD{o:Option V}{u:Option Value}{d:V}{d':Value}(r:RelO o u)(rd:RelV d d'):RelV (o.getD d) (u.getD d'):=by
 cases o with
 | none=>cases u with
  | none=>exact rd
  | some _=>exact(show False from r).elim
 | some _=>cases u with
  | none=>exact(show False from r).elim
  | some _=>exact r
theorem KV.val{kvs:List (κ×V)}{vs:List (κ×Value)}(r:KV kvs vs)(k:κ):RelO (valV kvs k) (valueAt vs k):=by
 unfold KV at r
 induction r with
 | nil=>exact True.intro
 | @cons p q ps qs h t ih =>
  obtain⟨h1,h2⟩:=h;by_cases e:p.1=k
  ·have e':q.1=k:=h1.symm.trans e;have b:valueAt (q :: qs) k=some q.2:=by simp[valueAt,List.find?_cons,e']
   rw[zbm e,b]; exact h2
  ·have e':¬q.1=k:=fun z=>e (h1.trans z)
   have b:valueAt (q :: qs) k=valueAt qs k:=by simp[valueAt,List.find?_cons,e']
   rw[zbn e,b]; exact ih
theorem KV.any{kvs:List (κ×V)}{vs:List (κ×Value)}(r:KV kvs vs)(k:κ):(kvs.any fun kv=>decide (kv.1=k))=vs.any fun kv=>decide (kv.1=k):=by
 unfold KV at r
 induction r with
 | nil=>rfl
 | cons h t ih=>rw[List.any_cons,List.any_cons,ih,h.1]
theorem KV.repl{kvs:List (κ×V)}{vs:List (κ×Value)}(r:KV kvs vs)(k:κ){y:V}{u:Value}(ry:RelV y u):
  KV (kvs.map fun kv=>if kv.1=k then (kv.1,y) else kv) (vs.map fun kv=>if kv.1=k then (kv.1,u) else kv):=by
 unfold KV at r ⊢
 induction r with
 | nil=>exact .nil
 | @cons p q ps qs h t ih =>
  rw[List.map_cons,List.map_cons];refine .cons ?_ ih;obtain⟨h1,h2⟩:=h;by_cases e:p.1=k
  ·rw[if_pos e,if_pos (h1.symm.trans e)]; exact⟨h1,ry⟩
  ·rw[if_neg e,if_neg (fun z=>e (h1.trans z))]; exact⟨h1,h2⟩
theorem KV.put{kvs:List (κ×V)}{vs:List (κ×Value)}(r:KV kvs vs)(k:κ){y:V}{u:Value}(ry:RelV y u):KV (putK kvs k y) (stored vs k u):=by
 unfold putK stored;rw[r.any k];by_cases e:(vs.any fun kv=>decide (kv.1=k))=true
 ·rw[if_pos e,if_pos e]; exact r.repl k ry
 ·rw[if_neg e,if_neg e]; exact Paired.snoc r ⟨rfl,ry⟩
theorem KV.drop{kvs:List (κ×V)}{vs:List (κ×Value)}(r:KV kvs vs)(k:κ):KV (dropK kvs k) (without vs k):=by
 unfold KV at r ⊢;unfold dropK without
 induction r with
 | nil=>exact .nil
 | @cons p q ps qs h t ih =>
  obtain⟨h1,h2⟩:=h;rw[List.filter_cons,List.filter_cons];by_cases e:p.1=k
  ·have a:¬decide (p.1≠k)=true:=by simp[e]
   have b:¬decide (q.1≠k)=true:=by simp[h1.symm.trans e]
   rw[if_neg a,if_neg b]; exact ih
  ·have e':¬q.1=k:=fun z=>e (h1.trans z)
   have a:decide (p.1≠k)=true:=by simp[e]
   have b:decide (q.1≠k)=true:=by simp[e']
   rw[if_pos a,if_pos b]; exact .cons ⟨h1,h2⟩ ih
theorem KV.length{kvs:List (κ×V)}{vs:List (κ×Value)}(r:KV kvs vs):kvs.length=vs.length:=Paired.length r
end
theorem zr1{P:Program}{w:World}{k:Key}{u:Value}(r:RelV (kV k) u):(mixKind P w).is k u=true:=by
 cases k with
 | inl i=>obtain⟨t,e⟩:=(show ∃t,u=Value.int i t from r); subst e; exact zhv P w i t
 | inr x=>obtain⟨t,e⟩:=(show ∃t,u=Value.str x t from r); subst e; exact zhu P w x t
theorem zgs{P:Program}{w:World}:∀{ks:List Key} {us:List Value},Vals (ks.map kV) us->ItemsAre (mixKind P w) ks us
 | [],_,r=>by rw[List.map_nil] at r; cases r; exact .nil
 | k :: ks,_,r=>by
  rw[List.map_cons] at r;cases r with
  | cons h t=>exact .cons (zr1 h) (zgs t)
abbrev KT(H:Hp):List (List Key×V)->List (List Key×Addr×Value)->Prop:=Paired fun p q=>p.1=q.1/\H q.2.1=some (.tup (p.1.map kV))/\RelV p.2 q.2.2
theorem KT.val{H:Hp}{kvs:List (List Key×V)}{xs:List (List Key×Addr×Value)}(r:KT H kvs xs)(k:List Key):RelO (valV kvs k) ((atKey xs k).map (·.2)):=by
 induction r with
 | nil=>exact True.intro
 | @cons p q ps qs h t ih =>
  obtain⟨h1,_,h2⟩:=h;by_cases e:p.1=k
  ·have e':q.1=k:=h1.symm.trans e;have b:atKey (q :: qs) k=some q.2:=by simp[atKey,List.find?_cons,e']
   rw[zbm e,b]; exact h2
  ·have e':¬q.1=k:=fun z=>e (h1.trans z)
   have b:atKey (q :: qs) k=atKey qs k:=by simp[atKey,List.find?_cons,e']
   rw[zbn e,b]; exact ih
theorem KT.repl{H:Hp}{kvs:List (List Key×V)}{xs:List (List Key×Addr×Value)}(r:KT H kvs xs)(k:List Key){y:V}{u:Value}(ry:RelV y u):
  KT H (kvs.map fun kv=>if kv.1=k then (kv.1,y) else kv) (xs.map (putAt k u)):=by
 induction r with
 | nil=>exact .nil
 | @cons p q ps qs h t ih =>
  rw[List.map_cons,List.map_cons];refine .cons ?_ ih;obtain⟨h1,h2,h3⟩:=h;unfold putAt;by_cases e:p.1=k
  ·rw[if_pos e,if_pos (h1.symm.trans e)]; exact⟨h1,h2,ry⟩
  ·rw[if_neg e,if_neg (fun z=>e (h1.trans z))]; exact⟨h1,h2,h3⟩
theorem KT.put{H:Hp}{kvs:List (List Key×V)}{xs:List (List Key×Addr×Value)}(r:KT H kvs xs)(k:List Key){b:Addr}{y:V}{u:Value}(hb:H b=some (.tup (k.map kV)))(ry:RelV y u):
  KT H (putK kvs k y) (storedH xs k b u):=by
 have e:(kvs.any fun kv=>decide (kv.1=k))=(atKey xs k).isSome:=by
  rw[zec,(r.val k).isSome_eq,Option.isSome_map]
 unfold putK storedH;rw[e];by_cases q:(atKey xs k).isSome=true
 ·rw[if_pos q,if_pos q]; exact r.repl k ry
 ·rw[if_neg q,if_neg q]; exact Paired.snoc r ⟨rfl,hb,ry⟩
theorem KT.keeps{H H':Hp}{kvs:List (List Key×V)}{xs:List (List Key×Addr×Value)}(r:KT H kvs xs)(ht:∀b ys,H b=some (.tup ys)->H' b=some (.tup ys)):KT H' kvs xs :=
 Paired.mapP r fun _ _ z=>⟨z.1,ht _ _ z.2.1,z.2.2⟩
section
variable {P:Program} {w:World} {H:Hp} {h:Heap} {a:Addr}
theorem rd_of{u:HO}(ok:HOk P w H h)(e:Rd H a u):ObjOk P w H h a u:=e.ok ok
theorem dk_rd{kvs:List (Key×V)}(ok:HOk P w H h)(e:Rd H a (.dK kvs)):kvs.length<=sizeLine/\(a == sysModules)=false/\∃vs,KV kvs vs/\h.DictOf (mixKind P w) a vs :=
 show ObjOk P w H h a (.dK kvs) from rd_of ok e
theorem dk_of{kvs:List (Key×V)}(ok:HOk P w H h)(e:H a=some (.dK kvs)):kvs.length<=sizeLine/\(a == sysModules)=false/\∃vs,KV kvs vs/\h.DictOf (mixKind P w) a vs:=dk_rd ok (.inl e)
theorem zm4{ks:List Key}(ok:HOk P w H h)(e:H a=some (.tup (ks.map kV))):(tupleKind (mixKind P w)).is h ks a:=by
 obtain⟨_,its,r,⟨o,h1,h2,n,h3⟩,_⟩:=(show ObjOk P w H h a (.tup (ks.map kV)) from ok a _ e);exact⟨o,its.toArray,n,h1,h2,h3,by simpa using zgs r⟩
theorem dt_rd{kvs:List (List Key×V)}(ok:HOk P w H h)(e:Rd H a (.dT kvs)):kvs.length<=sizeLine/\(a == sysModules)=false /\
  ∃xs,KT H kvs xs/\h.DictOfH (tupleKind (mixKind P w)) a xs:=by
 obtain⟨z,y,xs,r,o,es,ep,h1,h2,h3,h4,h5⟩:=(show ObjOk P w H h a (.dT kvs) from rd_of ok e);refine⟨z,y,xs,r,o,es,ep,h1,h2,h3,h4,fun x hx=>?_,h5⟩;have all:∀{l:List (List Key×V)} {m:List (List Key×Addr×Value)},KT H l m->∀x∈m,(tupleKind (mixKind P w)).is h x.1 x.2.1:=by
  intro l m q
  induction q with
  | nil=>intro x hx; exact nomatch hx
  | @cons p q ps qs hq t ih =>
   intro x hx;rcases List.mem_cons.mp hx with e | hx
   ·subst e;exact zm4 ok (by rw[<-hq.1]; exact hq.2.1)
   ·exact ih x hx
 exact all r x hx
theorem dt_of{kvs:List (List Key×V)}(ok:HOk P w H h)(e:H a=some (.dT kvs)):kvs.length<=sizeLine/\(a == sysModules)=false /\
  ∃xs,KT H kvs xs/\h.DictOfH (tupleKind (mixKind P w)) a xs:=dt_rd ok (.inl e)
end
def DGet(H:Hp)(a:Addr)(y:V)(r:Option V):Prop :=
 (∃kvs k,Rd H a (.dK kvs)/\y=kV k/\r=valV kvs k)\/∃kvs k b,Rd H a (.dT kvs)/\y=.ref b/\H b=some (.tup (k.map kV))/\r=valV kvs k
def DPut(H:Hp)(a:Addr)(y v:V)(H':Hp):Prop :=
 (∃kvs k,H a=some (.dK kvs)/\y=kV k/\kvs.length<sizeLine/\H'=upd H a (.dK (putK kvs k v))) \/
 ∃kvs k b,H a=some (.dT kvs)/\y=.ref b/\H b=some (.tup (k.map kV))/\kvs.length<sizeLine/\H'=upd H a (.dT (putK kvs k v))
theorem DGet.t{H:Hp}{a b:Addr}{kvs:List (List Key×V)}{k:List Key}(e:H a=some (.dT kvs))(eb:H b=some (.tup (k.map kV))):DGet H a (.ref b) (valV kvs k):=.inr ⟨kvs,k,b,.inl e,rfl,eb,rfl⟩
theorem DPut.t{H:Hp}{a b:Addr}{kvs:List (List Key×V)}{k:List Key}{v:V}(e:H a=some (.dT kvs))(eb:H b=some (.tup (k.map kV)))(hl:kvs.length<sizeLine):
  DPut H a (.ref b) v (upd H a (.dT (putK kvs k v))):=.inr ⟨kvs,k,b,e,rfl,eb,hl,rfl⟩
section
variable {X:Cx} {pins:List (Addr×Obj)} {σ:St} {H:Hp} {s:Shared} {a:Addr} {y v:V} {u r:Value} {o:Option V} {A:Around} {E:Value->Shared->Prop}
theorem Inv.big(I:Inv X pins σ H s):sysModules<s.heap.objs.size:=by
 have h:mainGlobals<s.heap.objs.size:=(I.mod.glob.keeps I.bk).lt;exact Nat.lt_trans (by decide) h
theorem zrj{Q:Value->Shared->Prop}(hu:A.units+1<cLine)(I:Inv X pins σ H s)(g:DGet H a y o)(ry:RelV y u)(h:∀s',Inv X pins σ H s'->Q (.bool (!o.isSome)) s'):
  wpAny (model X.prog X.w) A (compareOp .NotIn u (.ref a)) Q E s:=by
 rcases g with ⟨kvs,k,e,ey,l⟩ | ⟨kvs,k,b,e,ey,eb,l⟩
 ·subst ey;obtain⟨z,hd,vs,rel,dd⟩:=dk_rd I.hok e;refine wpAny_notIn_of (zr1 ry) hd dd.mapOf ?_;rw[<-(rel.val k).isSome_eq,<-l];exact h _ (I.tok _)
 ·subst ey;cases (show u=Value.ref b from ry);obtain⟨z,hd,xs,rel,dd⟩:=dt_rd I.hok e;refine wpAny_notIn_heap (tupleKind_room_in1 hu) (zm4 I.hok eb) hd dd ?_;have q:=(rel.val k).isSome_eq;rw[Option.isSome_map] at q;rw[<-q,<-l];exact h _ (I.tok _)
theorem zmw{h':Heap}{t':Nat}{ob:HO}(I:Inv X pins σ H s)(mu:Mut (H a))(hs:Heap.SameBut a s.heap h')(he:∃q,h'.get? a=some q)(new:ObjOk X.prog X.w (upd H a ob) h' a ob):
  Inv X pins σ (upd H a ob) { s with heap:=h',toks:=t' } :=
 I.write (x:=a) (e:=a) mu (.inl rfl) (fun b q hb z=>(hs.2 b hb).trans z) he new
theorem dk_new{P:Program}{w:World}{H':Hp}{h':Heap}{kvs:List (Key×V)}{vs:List (Key×Value)}(z:kvs.length<=sizeLine)(hd:(a == sysModules)=false)(rel:KV kvs vs)(dd:h'.DictOf (mixKind P w) a vs):
  ObjOk P w H' h' a (.dK kvs):=⟨z,hd,vs,rel,dd⟩
theorem zmx{H':Hp}{Q:Unit->Shared->Prop}(hu:A.units+1<cLine)(I:Inv X pins σ H s)(g:DPut H a y v H')(ry:RelV y u)(rv:RelV v r)(h:∀s',Inv X pins σ H' s'->Q () s'):
  wpAny (model X.prog X.w) A (setItem (.ref a) u r) Q E s:=by
 rcases g with ⟨kvs,k,e,ey,l,eH⟩ | ⟨kvs,k,b,e,ey,eb,l,eH⟩
 ·subst ey eH;obtain⟨z,hd,vs,rel,dd⟩:=dk_of I.hok e;have hz:vs.length<=sizeLine:=by rw[<-rel.length]; exact z
  have hl:(putK kvs k v).length<=sizeLine:=by have:=zdh kvs k v; omega
  refine wpAny_setItem_pairs (hsz:=hz) (zr1 ry) dd fun h' dd' hs=>h _ ?_
  have he:∃q,h'.get? a=some q:=let ⟨q,_,_,hq,_⟩:=dd'; ⟨q,hq⟩
  exact zmw I (by rw[e]; exact True.intro) hs he (dk_new hl hd (rel.put k rv) dd')
 ·subst ey eH;cases (show u=Value.ref b from ry);obtain⟨z,hd,xs,rel,dd⟩:=dt_of I.hok e;have hz:xs.length<=sizeLine:=by rw[<-Paired.length rel]; exact z
  have hl:(putK kvs k v).length<=sizeLine:=by have:=zdh kvs k v; omega
  refine wpAny_setItem_heap (hsz:=hz) (tupleKind_room_in1 hu) (zm4 I.hok eb) dd fun h' dd' hs=>h _ ?_
  obtain⟨q,es,ep,hq,h2,h3,h4,_,h5⟩:=dd';refine zmw I (by rw[e]; exact True.intro) hs ⟨q,hq⟩ ⟨hl,hd,_,(rel.put k eb rv).keeps fun c ys ec=>?_,q,es,ep,hq,h2,h3,h4,h5⟩;rw[upd_ne (ne_of ec e (fun z=>nomatch z))];exact ec
end
section
variable {X:Cx} {pins:List (Addr×Obj)} {σ:St} {H:Hp} {s:Shared} {a:Addr} {kvs:List (Key×V)} {k:Key} {u:Value} {A:Around} {E:Value->Shared->Prop}
end
inductive DPutR(x y v:V)(H:Hp)(Q:Hp->Prop):Prop
 | mk (a:Addr) (H4:Hp) (e:x=.ref a) (d:DPut H a y v H4) (q:Q H4):DPutR x y v H Q
def tDNotIn(ty td:TE):TE:=fun σ H Q=>ty σ H fun y H1=>td σ H1 fun x H2=>∃a o,x=.ref a/\DGet H2 a y o/\Q (.bl (!o.isSome)) H2
def sDPut(td ty tv:TE):TS:=fun D σ H=>tv σ H fun v H1=>td σ H1 fun x H2=>ty σ H2 fun y H3=>DPutR x y v H3 (D.nx σ)
section
variable {X:Cx} {o i e value:Expr} {pos pos' tpos:Pos} {td ty tv:TE}
theorem zl7(hu:X.A.units+1<cLine)(hi:PE X i ty)(ho:PE X o td):PC X .NotIn i o (tDNotIn ty td):=by
 intro pins s σ H Q I h;refine thn (hi pins s σ H _ I h) fun iv s1 ⟨y,H1,I1,ry,q1⟩=>thn (ho pins s1 σ H1 _ I1 q1) fun u s2 ⟨x,H2,I2,rx,a,ov,ex,g,q2⟩=>?_
 subst ex;obtain rfl:u=Value.ref a:=rx;exact zrj hu I2 g ry fun s3 I3=>⟨.bl (!ov.isSome),H2,I3,rfl,q2⟩
theorem zqa(hu:X.A.units+1<cLine)(ho:PE X o td)(hi:PE X i ty)(hv:PE X value tv)(hs:swapsWith value (some (.Subscript o i pos')) pos.line X.env=pure false):
  PS X (.Assign [.Subscript o i pos'] value pos) (sDPut td ty tv):=by
 intro pins s σ H D I h;refine wpAny_Assign_Subscript (thn (hv pins s σ H _ I h) fun r s1 ⟨v,H1,I1,rv,q1⟩=>thn (ho pins s1 σ H1 _ I1 q1) fun u s2 ⟨x,H2,I2,rx,q2⟩=>thn (hi pins s2 σ H2 _ I2 q2) fun iv s3 ⟨y,H3,I3,ry,a,H4,ex,g,q3⟩=>?_) hs;subst ex;obtain rfl:u=Value.ref a:=rx;exact zmx hu I3 g ry rv fun s4 I4=>⟨σ,H4,I4,q3⟩
end
theorem zpa{P:Program}{w:World}{H:Hp}(h:Heap)(hb:sysModules<h.objs.size):ObjOk P w H (h.push { cls:=.type "dict",data:=.dict #[] }) h.objs.size (.dT []) :=
 ⟨Nat.zero_le _,beq_eq_false_iff_ne.mpr (Ne.symm (Nat.ne_of_lt hb)),[],.nil,_,#[],0,Heap.get?_push_size _ rfl,⟨rfl,rfl,rfl⟩,rfl,rfl,List.nodup_nil⟩
def tDNewT:TE:=fun _ H Q=>∀p,H p=none->Q (.ref p) (upd H p (.dT []))
section
variable {X:Cx} {pos:Pos}
theorem zo8:PE X (.Dict [] [] pos) tDNewT:=fun pins s σ H Q I h =>
 wpAny_Dict_empty ⟨.ref s.heap.objs.size,_,I.laid (a:=s.heap.objs.size) (o:=.dT []) (t':=s.toks) (fun _ _ q=>Heap.get?_push_of_some _ q) (Nat.le_refl _) (zpa s.heap I.big),rfl,h _ (I.hok.fresh (Nat.le_refl _))⟩
end
section
variable {X:Cx} {pins:List (Addr×Obj)} {σ:St} {H:Hp} {s:Shared} {a:Addr} {y d:V} {u r:Value} {o:Option V} {A:Around} {E:Value->Shared->Prop}
end
section
variable {X:Cx} {o e f:Expr} {apos cpos:Pos} {td ty tx:TE}
end
section
variable {X:Cx} {pins:List (Addr×Obj)} {σ:St} {H:Hp} {s:Shared} {a:Addr} {kvs:List (Key×V)} {A:Around} {E:Value->Shared->Prop}
end
section
variable {X:Cx} {pins:List (Addr×Obj)} {σ:St} {H:Hp} {s:Shared} {a:Addr} {y:V} {u:Value} {A:Around} {E:Value->Shared->Prop}
end
end L2
namespace Att
open PySem PySem.W PySem.Calls PyProof.Rows
theorem zew{P:Params}{h:Heap}:∀(ns:List Int) (vs:List Value),WellAll P h vs (ns.map WData.int)->IntsAre vs ns:=by
 intro ns
 induction ns with
 | nil =>
  intro vs w;rw[List.map_nil] at w;cases w;exact .nil
 | cons n ns ih =>
  intro vs w;rw[List.map_cons] at w;cases w with
  | cons a b =>
   cases a;exact .cons _ _ (ih _ b)
theorem zkn {l:OpenLaw} {n:Nat} (hn:l.most=some n) {P:Params} {h:Heap} {args:List WData} {vals:List Value}
  (hpre:l.row.toRowW.claim.pre args=true) (hwl:WellAll P h vals args) :
  ∃a vs ns,vals=[Value.ref a]/\args=[WData.list (ns.map WData.int)]/\h.get? a=some { cls:=.type "list",data:=.seq vs.toArray }/\IntsAre vs ns/\ns.length<=n:=by
 have hsh:WShape.hasAll [] args [.list .int]=true:=(pre_splitW hpre).1;have hc:l.pre.holds [] { args:=args }=true:=(pre_splitW hpre).2;obtain⟨d,r,rfl,h1,h2⟩:=hasAllW_cons hsh;obtain rfl:=hasAllW_nil h2;obtain⟨xs,rfl,h3⟩:=hasW_list h1;obtain⟨ns,rfl⟩:=items_int h3;have hlen:ns.length<=n:=by
  unfold OpenLaw.pre at hc;have h4:(WTm.not (.lt (.lit (.int (n:Int))) (.len (.arg 0)))).holds [] { args:=[.list (ns.map .int)] }=true:=by
   have h4:=(holds_andW hc).1;rw[hn] at h4;exact h4
  have h5:=condW_of h4 (w_not (w_lt w_lit (w_len_list (w_arg rfl))));rw[List.length_map] at h5;refine Nat.le_of_not_lt fun q=>?_
  have q':(n:Int)<((ns.length:Nat):Int):=by omega
  first
   | (rw[decide_eq_true q'] at h5; exact absurd h5 (by decide))
   | (simp at h5; omega)
 cases hwl with
 | cons w1 w2 =>
  cases w2;cases w1 with
  | list ho hall=>exact⟨_,_,ns,rfl,rfl,ho,zew ns _ hall,hlen⟩
theorem zl0(l:OpenLaw)(args:List WData):l.row.toRowW.claim.post args (.bool true) args=true :=
 postW_of (r:=l.row.toRowW) (X:=(true == true))
  (show WShape.has [] (.bool true) .bool=true by first | rfl | decide | simp[WShape.has,WShape.arms,WShape.armsAll])
  (show(WTm.eq .res (.lit (.bool true))).value [] { args:=args,res:=some (.bool true),after:=args }=some (.bool (true == true)) from w_eq_bool (w_res rfl) w_lit) rfl
theorem attach_call {l:OpenLaw} {n:Nat} {q:Program} {loose:List Str} {XP:(Str->Option Value)->Heap->Prop} {YP:World->Heap->Prop} {d:DefRec}
  (hn:l.most=some n) (hdf:d.params.defaults=[])
  (call:∀(w:World) (s₀ s₁:Shared) (mg mb:Str->Option Value) (fa:Addr) (o:Obj) (pm cd doc:Value) (a:Addr) (vs:List Value) (ns:List Int),
   Ground q loose [] XP w s₀ mg mb s₁.heap->YP w s₁.heap →
   s₁.heap.get? fa=some o->o.data=.func (docDef d.name d.params d.body d.scope pm cd doc)->s₁.heap.CodeRec cd d.name->mg d.name=some (.ref fa) →
   s₁.heap.get? a=some { cls:=.type "list",data:=.seq vs.toArray }->IntsAre vs ns->ns.length<=n->s₁.gens = #[] →
   codeAny (model l.prog w) callerA (.call (.ref fa) ⟨[.ref a],[]⟩) (fun r s'=>r=.ok (.ret (.bool true))/\OldK s₁.heap s'.heap/\s'.os=s₁.os/\AllBare s'.gens) s₁) :
  WalkO q loose XP YP l.row.toRowW d [] (fun f vs=>PySem.call f vs):=by
 intro w s₀ s₁ mg mb G Y fa o pm cd doc dV kV ho hd hcd hD hmg hg args vals as hpre hlay hrd hwl hlo;obtain rfl:dV=.none:=Dflts.none hD hdf;obtain rfl:kV=.none:=Dflts.noKw hD;obtain⟨a,vs,ns,rfl,rfl,hobj,hints,hlen⟩:=zkn hn hpre hwl;refine enter_call (codeAny_mono (call w s₀ s₁ mg mb fa o pm cd doc a vs ns G Y ho (fd_plain hd) hcd hmg hobj hints hlen hg) fun r s' hq=>?_);obtain⟨rfl,h2,h3,h4⟩:=hq;exact⟨.inl ⟨.bool true,.bool true,[],rfl,fun _=>rfl,.bool true,zl0 l _,fun _=>⟨List.Pairwise.nil,fun _ hm=>(nomatch hm)⟩⟩,h2,h3,h4⟩
section
variable {prog:Program} {w:World} {A:Around} {E:Value->Shared->Prop} {s:Shared} {K:Frag}
def noObjs(h:Heap):Heap:={ h with objs:=#[] }
theorem zdw(h:Heap)(b:Addr):(noObjs h).get? b=none:=by
 cases e:(noObjs h).get? b with
 | none=>rfl
 | some o=>exact absurd (Heap.lt_size e) (Nat.not_lt_zero _)
def ledger(h:Heap)(L d:Addr):List (Addr×Obj):=(List.range h.objs.size).filterMap fun a=>if a=L\/a=d then none else (h.get? a).map fun o=>(a,o)
theorem mem_ledger{h:Heap}{L d a:Addr}{o:Obj}:(a,o)∈ledger h L d↔a≠L/\a≠d/\h.get? a=some o:=by
 unfold ledger;rw[List.mem_filterMap];constructor
 ·rintro⟨b,_,e⟩;split at e
  ·cases e
  ·rename_i hb
   obtain⟨o',ho,e'⟩:=Option.map_eq_some_iff.mp e;cases e';exact⟨fun q=>hb (.inl q),fun q=>hb (.inr q),ho⟩
 ·rintro⟨n1,n2,ho⟩;refine⟨a,List.mem_range.mpr (Heap.lt_size ho),?_⟩;rw[if_neg (show ¬(a=L\/a=d) from fun q=>q.elim n1 n2),ho] <;> rfl
theorem zhs{h:Heap}{L d:Addr}{od:Obj}(hne:d≠L)(ho:h.get? d=some od):News (noObjs h) L h ([]++(d,od) :: ledger h L d):=by
 rintro⟨a,o⟩ hp;rcases List.mem_cons.mp hp with e | hp
 ·cases e;exact⟨ho,hne,zdw _ _⟩
 ·obtain⟨n1,n2,e⟩:=mem_ledger.mp hp;exact⟨e,n1,zdw _ _⟩
theorem fr_all{h:Heap}{L:Addr}{m:Str->Option Value}(n:h.Ns L m):Fr (noObjs h) L h m :=
 ⟨n,fun b o e=>(by rw[zdw] at e; cases e),Nat.zero_le _⟩
theorem set_field {x C dx L:Addr} {ox:Obj} {m:Str->Option Value} {es es':List DictEntry} {n n':Nat} {name:Str} {v:Value} {Q:Unit->Shared->Prop}
  (X:K.In s.heap) (I:PySem.W.InstAt s.heap x ox C (some (dictOf es n))) (hd:ox.dict=some dx) (hL:s.heap.Ns L m) (hne:dx≠L)
  (hs:findIn K (.ref C) "__setattr__" = some (some (.builtin "object.__setattr__"))) (hp:plainOver K C=true) (ht:takerIn K C name=some none) (hh:hasDictIn K C=true) (hl:(getL name es).isSome=true)
  (e:(putL name (PyData.keyHash w.params name) (.str name (s.toks+1)) v es,putN name es n)=(es',n')) (hz:es'.length<=1000)
  (h:∀h':Heap,h'.Ns L m->h'.get? dx=some (dictOf es' n')->(∀b o,b≠dx->b≠L->s.heap.get? b=some o->h'.get? b=some o)->Q () { s with heap:=h',toks:=s.toks+2 }) :
  wpAny (model prog w) A (setAttr (.ref x) name v) Q E s:=by
 obtain⟨e1,e2⟩:=Prod.mk.inj e;have hdx:s.heap.get? dx=some (dictOf es n):=by
  have:=I.dict
  rw[hd] at this;exact this
 refine set_plain X I hs (osa_dict (s:={ s with toks:=s.toks+1 }) (h₀:=noObjs s.heap) (L:=L) (m:=m) (od:=dictOf es n) (od':=dictOf es' n') (es:=es') (n:=n') (pre:=[]) (post:=ledger s.heap L dx)
  (fr_all hL) (zhs hne hdx) X I hd hp ht hh hl (fun _ q=>nomatch q) (fun ⟨_,_⟩ q=>(mem_ledger.mp q).2.1) (by rw[putName_dict,e1,e2]) rfl hz fun h' F' N'=>?_)
 exact h h' F'.ns (N'.get (List.Mem.head _)) fun b o n1 n2 ho=>N'.get (List.Mem.tail _ (mem_ledger.mpr ⟨n2,n1,ho⟩))
end
end Att
namespace L2
open PySem PySem.Spec PyProof.Rows
theorem zei:∀{vs:List Value} {ns:List Int},IntsAre vs ns->Vals (ns.map V.int) vs
 | _,_,.nil=>.nil
 | _,_,.cons n t h=>.cons ⟨t,rfl⟩ (zei h)
def Only(H:Hp):Prop:=∀b,H b=none\/∃o xs,H b=some (.frz o (.lst xs))
theorem zop {P:Program} {w:World} {K:PySem.W.Frag} {mg mb:Str->Option Value} {CX:CXT} {k:Nat} {fa a:Addr} {fd:FuncData} {x:Str} {sp:Sp} {s₁:Shared} {vs:List Value} {ns:List Int}
  (KX:K.In s₁.heap) (hns:s₁.heap.Ns mainGlobals mg) (hb:s₁.heap.Ns builtinsNs mb) (hbb:∀x:Str,x≠"__name__"->mb x=bootBuiltins x) (hlim:s₁.heap.NoLimit) (hg:s₁.gens = #[])
  (ha:s₁.heap.get? a=some { cls:=.type "list",data:=.seq vs.toArray }) (hi:IntsAre vs ns) (hl:ns.length<=sizeLine) (hr:Room k callerA)
  (F:∀base:Heap,K.In base->base.Ns mainGlobals mg->FnOk P w K mg base CX k fa fd [x] sp) (hbind:∀(s:Shared) (u:Value),BindsTo s fd ⟨[u],[]⟩ [(x,u)])
  (hsp:∀H:Hp,Only H->SqL K H a (ns.map V.int)->sp [.ref a] H (fun v _=>v=.bl true) fun _ _ _=>False)
  (hCX:∀H e s',CX [] H s₁ (fun _ _ _=>False) e s'->False) :
  codeAny (model P w) callerA (.call (.ref fa) ⟨[.ref a],[]⟩) (fun r s'=>r=.ok (.ret (.bool true))/\OldK s₁.heap s'.heap/\s'.os=s₁.os/\AllBare s'.gens) s₁:=by
 have rv:=zei hi;have lenV:=hi.length;have core:∀H:Hp,Only H->SqL K H a (ns.map V.int)->HOk P w H s₁.heap->(∀b,H b≠none->b=a)->(H a≠none->K.lookup a=none) →
   codeAny (model P w) callerA (.call (.ref fa) ⟨[.ref a],[]⟩) (fun r s'=>r=.ok (.ret (.bool true))/\OldK s₁.heap s'.heap/\s'.os=s₁.os/\AllBare s'.gens) s₁:=by
  intro H hO hS hok hA hK;have base_of:∀{b:Addr} {o:Obj},s₁.heap.get? b=some o->H b=none->(hidT s₁.heap H).get? b=some o:=fun e n=>ziy e n
  have noA:∀{b:Addr} {o:Obj} {es:Array DictEntry} {ep:Nat},s₁.heap.get? b=some o->o.data=.dict es ep->H b=none:=fun {b o es ep} e d=>by
   cases q:H b with
   | none=>rfl
   | some u =>
    have e':b=a:=hA b (by rw[q]; simp);subst e';rw[ha] at e; cases e;have d':Data.seq vs.toArray _=Data.dict es ep:=d;cases d'
  have nsK:∀{b:Addr} {m:Str->Option Value},s₁.heap.Ns b m->(hidT s₁.heap H).Ns b m:=fun {b m} ⟨o,es,ep,e,d,r⟩=>⟨o,es,ep,base_of e (noA e d),d,r⟩
  have hKb:K.In (hidT s₁.heap H):=fun b o e=>base_of (KX b o e) (by
   cases q:H b with
   | none=>rfl
   | some u =>
    have e':b=a:=hA b (by rw[q]; simp);subst e';rw[hK (by rw[q]; simp)] at e; cases e)
  have hM:Mod K mg (hidT s₁.heap H):=⟨hKb,nsK hns,⟨mb,nsK hb,hbb⟩,let ⟨mc,h1,h2⟩:=hlim; ⟨mc,nsK h1,h2⟩⟩;have e0:Env0 P w K mg (hidT s₁.heap H) callerA [] s₁ H:=⟨rfl,hM,fun b o e=>zlj e,Nat.le_of_eq (zgu _ _),trivial,fun b hb=>absurd (show b∈([]:List Addr) from hb) (by simp),hok,.of_eq hg⟩;refine codeAny_mono ((F _ hKb (nsK hns)).run callerA [] s₁ H ⟨[.ref a],[]⟩ [.ref a] [.ref a] _ _ hr e0 (hbind s₁ (.ref a)) (.cons rfl .nil) (hsp H hO hS)) fun r s' h=>?_
  cases r with
  | error e=>exact(hCX H e s' h).elim
  | ok fl =>
   cases fl with
   | next=>exact False.elim h
   | brk=>exact False.elim h
   | cont=>exact False.elim h
   | ret u =>
    obtain⟨v,H',os,bare,un,hok',r',q⟩:=h;have q':v=.bl true:=q;subst q';obtain rfl:u=Value.bool true:=r';refine⟨rfl,OldK.of_keep fun b o e=>?_,os,bare⟩;cases q:H b with
    | none=>exact un.keep b o e q (by intro z; exact absurd (show b∈([]:List Addr) from z) (by simp)) (by simp)
    | some u =>
     rcases hO b with z | ⟨ob,xs,z⟩
     ·rw[q] at z; cases z
     ·have z2:=un.frzs b ob _ z;obtain⟨e1,_⟩:=hok b _ z;obtain⟨e2,_⟩:=hok' b _ z2;rw[e] at e1; cases e1;exact e2
 cases hk:K.lookup a with
 | some o =>
  have e:=KX a o hk;rw[ha] at e;cases e;refine core (fun _=>none) (fun _=>.inl rfl) (.inr ⟨_,vs.toArray,_,hk,rfl,rfl,rfl,by rw[List.size_toArray,lenV]; exact hl,by simpa using rv⟩) (fun b u z=>by have z':(none:Option HO)=some u:=z; cases z') (fun b z=>absurd rfl z) fun z=>absurd rfl z
 | none =>
  refine core (fun b=>if b=a then some (.frz { cls:=.type "list",data:=.seq vs.toArray } (.lst (ns.map V.int))) else none) (fun b=>?_) (.inl (.inr ⟨{ cls:=.type "list",data:=.seq vs.toArray },if_pos rfl⟩)) (fun b u z=>?_) (fun b z=>?_) fun _=>hk
  ·by_cases hb:b=a
   ·exact .inr ⟨_,_,if_pos hb⟩
   ·exact .inl (if_neg hb)
  ·by_cases hb:b=a
   ·have z':=(if_pos hb).symm.trans z;cases z';subst hb;exact⟨ha,by rw[List.length_map]; exact hl,vs,_,rv,ha⟩
   ·have z':=(if_neg hb).symm.trans z;cases z'
  ·by_cases hb:b=a
   ·exact hb
   ·exact absurd (if_neg hb) z
abbrev KOf{K:PySem.W.Frag}{h:Heap}(_:K.In h):PySem.W.Frag:=K
theorem zq0 {l:PySem.W.OpenLaw} {n k:Nat} {q:Program} {loose:List Str} {XP:(Str->Option Value)->Heap->Prop} {YP:World->Heap->Prop} {d:DefRec} {K:Params->PySem.W.Frag} {CX:World->CXT} {sp:World->Sp} {x:Str}
  (hn:l.most=some n) (hn2:n<=sizeLine) (hdf:d.params.defaults=[]) (hr:Room k callerA)
  (hY:∀(w:World) (h:Heap),YP w h->(K w.params).In h)
  (F:∀(w:World) (mg:Str->Option Value) (fa:Addr) (h:Heap),(K w.params).In h->h.Ns mainGlobals mg->mg d.name=some (.ref fa) →
   ∃fd:FuncData,(∀(s:Shared) (u:Value),BindsTo s fd ⟨[u],[]⟩ [(x,u)]) /\
    ∀base:Heap,(K w.params).In base->base.Ns mainGlobals mg->FnOk l.prog w (K w.params) mg base (CX w) k fa fd [x] (sp w))
  (hsp:∀(w:World) (H:Hp) (a:Addr) (ns:List Int),ns.length<=n->Only H->SqL (K w.params) H a (ns.map V.int)->sp w [.ref a] H (fun v _=>v=.bl true) fun _ _ _=>False)
  (hCX:∀(w:World) (H:Hp) (s:Shared) (e:Value) (s':Shared),CX w [] H s (fun _ _ _=>False) e s'->False) :
  PySem.W.WalkO q loose XP YP l.row.toRowW d [] (fun f vs=>PySem.call f vs):=by
 refine Att.attach_call hn hdf fun w s₀ s₁ mg mb fa o pm cd doc a vs ns G Y ho hd hcd hmg hobj hints hlen hg=>?_
 have KX:=hY w _ Y;obtain⟨fd,hb,hF⟩:=F w mg fa _ KX G.T.g hmg;exact zop KX G.T.g G.T.b G.T.builtins G.T.nolimit hg hobj hints (Nat.le_trans hlen hn2) hr hF hb (fun H hO hS=>hsp w H a ns hlen hO hS) fun H e s'=>hCX w H s₁ e s'
def inClass(s:Stmt)(j:Nat):Stmt:=match s with
 | .ClassDef _ _ _ body _ _ _ _ _ _ _=>body.getD j (.Pass ⟨0,0,0,0⟩)
 | _=>.Pass ⟨0,0,0,0⟩
def defArgs(s:Stmt):Arguments:=match s with
 | .FunctionDef _ a _ _ _ _ _ _ _ _=>a
 | _=>{ posonlyargs:=[],args:=[],vararg:=none,kwonlyargs:=[],kw_defaults:=[],kwarg:=none,defaults:=[] }
def defBody(s:Stmt):List Stmt:=match s with
 | .FunctionDef _ _ b _ _ _ _ _ _ _=>b
 | _=>[]
def defScope(s:Stmt):Scope:=match s with
 | .FunctionDef _ _ _ _ _ _ sc _ _ _=>sc
 | _=>{ kind:=.function,names:=[],isGenerator:=false,isCoroutine:=false }
abbrev CX0:CXT:=fun _ _ _ _ _ _=>False
abbrev E0:XK:=fun _ _ _=>False
theorem pass0{X:Cx}:Passes CX0 X E0:=fun _ _ _ _ _ _ _ h=>h.elim
structure Fun(K:PySem.W.Frag)(x qual:Str)(st:Stmt)(f:Addr)(fd:FuncData):Prop where
 ex:∃(oc:Value) (od:Option Addr) (kV doc pm:Value) (an:Option Addr) (cdv ct:Value) (osl:Array (Option Value)),
  fd=PySem.W.fnOf x qual (defArgs st) (defBody st) (defScope st) .none kV doc pm an cdv ct/\K.lookup f=some ⟨oc,od,.func fd,osl⟩/\PySem.W.codeIn K cdv qual=true
 kp:PySem.W.keepIn K (.ref f)=true
section
variable {P:Program} {w:World} {K:PySem.W.Frag} {mg:Str->Option Value} {base:Heap}
theorem Fun.ok {x qual:Str} {st:Stmt} {f:Addr} {fd:FuncData} {N ps:List Str} {k:Nat} {sp:Sp} (F:Fun K x qual st f fd) (S:FnScope N ps (defScope st)) (len:∀vs H Q E,sp vs H Q E->vs.length=ps.length)
  (hbody:∀(cdv:Value) (A:Around) (outer:List Env) (s:Shared) (H:Hp) (vs:List V) (Q:VK) (E:XK),Room k (A.deeper (envOfC qual (defScope st) s.heap.objs.size f cdv))->sp vs H Q E →
   ∃t,PSs (cxOf CX0 P w K mg base N qual (defScope st) f cdv A outer s H E).nox (defBody st) t/\t { nx:=fun _ H'=>Q .non H',rt:=Q } (start N vs) H):FnOk P w K mg base CX0 (k+1) f fd ps sp:=by
 obtain⟨oc,od,kV,doc,pm,an,cdv,ct,osl,rfl,lk,hcd⟩:=F.ex;refine zra lk hcd S len fun A outer s H vs Q E hr hsp=>?_
 obtain⟨t,h,q⟩:=hbody cdv A outer s H vs Q E hr hsp;exact⟨t,h.nox,q⟩
theorem Fun.binds {x qual:Str} {st:Stmt} {f:Addr} {fd:FuncData} {ps:List Str} (F:Fun K x qual st f fd)
  (h:∀(kV doc pm:Value) (an:Option Addr) (cdv ct:Value) (us:List Value),us.length=ps.length->bindArgs (PySem.W.fnOf x qual (defArgs st) (defBody st) (defScope st) .none kV doc pm an cdv ct) ⟨us,[]⟩=pure (ps.zip us)):Binds K fd ps []:=by
 obtain⟨oc,od,kV,doc,pm,an,cdv,ct,osl,rfl,lk,hcd⟩:=F.ex;exact .all (h kV doc pm an cdv ct)
theorem zai {x qual:Str} {st:Stmt} {f:Addr} {oc:Value} {od an:Option Addr} {osl:Array (Option Value)} {kV doc pm cdv ct:Value} (l:K.lookup f=some ⟨oc,od,.func (PySem.W.fnOf x qual (defArgs st) (defBody st) (defScope st) .none kV doc pm an cdv ct),osl⟩)
  (c:PySem.W.codeIn K cdv qual=true) (k:PySem.W.keepIn K (.ref f)=true):Fun K x qual st f (PySem.W.fnOf x qual (defArgs st) (defBody st) (defScope st) .none kV doc pm an cdv ct):=⟨⟨oc,od,kV,doc,pm,an,cdv,ct,osl,rfl,l,c⟩,k⟩
end
theorem hu_of{A:Around}{k:Nat}(hr:Room k A):A.units+1<cLine:=Nat.lt_of_le_of_lt (Nat.add_le_add_left (by decide:1<=64) _) hr.units
section
variable {X:Cx}
theorem pv (i:Nat) {x:Str} {pos:Pos} (hN:X.N[i]?=some x:=by rfl) (hv:Vis X.env.scope x:=by first | exact Or.inl rfl | exact Or.inr (Or.inl rfl) | exact Or.inr (Or.inr rfl)) (hd:(x == ("__debug__":Str))=false:=by decide)
  (hcd:(x == ("__classdict__":Str))=false:=by decide):PE X (.Name x pos) (tVar i):=pe_var hN hv hd hcd
end
theorem iteF{A B:Prop}(h:B):if false=true then A else B:=by
 rw[if_neg Bool.false_ne_true];exact h
theorem iteT{A B:Prop}(h:A):if true=true then A else B:=by
 rw[if_pos rfl];exact h
theorem ite2{c A B:Prop}[Decidable c](h1:c->A)(h2:¬c->B):if c then A else B:=by
 by_cases h:c
 ·rw[if_pos h];exact h1 h
 ·rw[if_neg h];exact h2 h
theorem iteNS{c A B:Prop}[Decidable c](hc:c)(h:B):if (!decide c)=true then A else B:=by
 rw[decide_eq_true hc];exact iteF h
def Same(H H':Hp):Prop:=∀b o,H b=some o->H' b=some o
theorem Same.refl(H:Hp):Same H H:=fun _ _ h=>h
theorem Same.trans{H H1 H2:Hp}(a:Same H H1)(b:Same H1 H2):Same H H2:=fun c o h=>b c o (a c o h)
theorem Same.free{H H':Hp}(e:Same H H'){l:Addr}(h:H' l=Option.none):H l=Option.none:=by
 cases q:H l with
 | none=>rfl
 | some o =>
  rw[e l o q] at h;cases h
theorem Same.seq{K:PySem.W.Frag}{H H':Hp}{a:Addr}{xs:List V}(e:Same H H')(h:SqL K H a xs):SqL K H' a xs:=by
 rcases h with (h | ⟨o,h⟩) | h
 ·exact .inl (.inl (e _ _ h))
 ·exact .inl (.inr ⟨o,e _ _ h⟩)
 ·exact .inr h
section
variable {X:Cx}
end
section
variable {κ:Type} [DecidableEq κ]
end
end L2
namespace L2
open PySem
def DK(h h':Heap):Prop:=∀a o,h.get? a=some o->∃o',h'.get? a=some o'/\o'.dict=o.dict
theorem DK.refl(h:Heap):DK h h:=fun _ o e=>⟨o,e,rfl⟩
theorem DK.trans{h1 h2 h3:Heap}(x:DK h1 h2)(y:DK h2 h3):DK h1 h3:=fun a o e=>by
 obtain⟨o1,e1,d1⟩:=x a o e;obtain⟨o2,e2,d2⟩:=y a o1 e1;exact⟨o2,e2,d2.trans d1⟩
theorem zlk{h:Heap}{a:Addr}{o:Obj}(e:h.get? a=some o):o.isFreed=false:=by
 unfold Heap.get? at e;split at e
 ·cases e
 ·rename_i x hx
  obtain⟨c,d,dt,sl⟩:=o;cases dt <;> first | rfl | (exact absurd e (hx _ _ _))
theorem DK.upd{h:Heap}{a:Addr}{f:Obj->Obj}(hf:∀o,(f o).dict=o.dict/\(f o).isFreed=o.isFreed):DK h (h.update a f):=fun b o e=>by
 by_cases hb:a=b
 ·subst hb;exact⟨f o,Heap.get?_update_self f e ((hf o).2.trans (zlk e)),(hf o).1⟩
 ·exact⟨o,(Heap.get?_update_other h f hb).trans e,rfl⟩
theorem DK.push(h:Heap)(x:Obj):DK h (h.push x):=fun _ o e=>⟨o,Heap.get?_push_of_some x e,rfl⟩
structure KpD{α:Type}(t:Sem α):Prop where
 out:∀(M:Model) (Γ:Ctx) (Q:α->Pos->Shared->Prop) (E:Value->Pos->Shared->Prop) (p:Pos) (s:Shared),Sem.wp M Γ t Q E p s->Sem.wp M Γ t (fun a p' s'=>Q a p' s'/\DK s.heap s'.heap) E p s
namespace KpD
variable {α β:Type}
theorem pure(a:α):KpD (Pure.pure a:Sem α):=⟨fun _ _ _ _ _ s h=>⟨h,DK.refl _⟩⟩
theorem unsupported(w:String):KpD (PySem.unsupported w:Sem α):=⟨fun _ _ _ _ _ _ h=>h⟩
theorem bind{m:Sem α}{f:α->Sem β}(hm:KpD m)(hf:∀a,KpD (f a)):KpD (m >>= f):=⟨fun M Γ Q E p s h=>by
 rw[Sem.wp_bind'] at h ⊢;refine Sem.wp_mono M Γ m (fun a p' s' ⟨q,k⟩=>?_) (fun _ _ _ z=>z) p s (hm.out M Γ _ E p s h);exact Sem.wp_mono M Γ (f a) (fun b p2 s2 ⟨q2,k2⟩=>⟨q2,k.trans k2⟩) (fun _ _ _ z=>z) p' s' ((hf a).out M Γ Q E p' s' q)⟩
theorem ite{c:Prop}[Decidable c]{t u:Sem α}(ht:KpD t)(hu:KpD u):KpD (if c then t else u):=by split <;> assumption
theorem load(a:Addr):KpD (PySem.load a):=⟨fun _ _ _ _ _ _ h=>by
 obtain⟨o,e,q⟩:=h;exact⟨o,e,q,DK.refl _⟩⟩
theorem stack:KpD PySem.stack:=⟨fun _ _ _ _ _ _ h=>⟨h,DK.refl _⟩⟩
theorem update(a:Addr){f:Obj->Obj}(hf:∀o,(f o).dict=o.dict/\(f o).isFreed=o.isFreed):KpD (PySem.update a f):=⟨fun _ _ _ _ _ _ h=>⟨h.1,h.2,DK.upd hf⟩⟩
theorem alloc(x:Obj):KpD (PySem.alloc x):=⟨fun _ _ _ _ _ _ h=>⟨h,DK.push _ _⟩⟩
theorem field(v:Value)(i:Nat):KpD (PySem.field v i):=⟨fun M Γ Q E p s h=>by
 rw[wp_field_iff] at h ⊢;obtain⟨a,o,vs,x,e,ho,hd,hx,q⟩:=h;exact⟨a,o,vs,x,e,ho,hd,hx,q,DK.refl _⟩⟩
theorem mapF(g:Array Value->Array Value)(o:Obj):(o.mapFields g).dict=o.dict/\(o.mapFields g).isFreed=o.isFreed:=by
 obtain⟨c,d,dt,sl⟩:=o;cases dt <;> exact⟨rfl,rfl⟩
theorem setField(v:Value)(i:Nat)(x:Value):KpD (PySem.setField v i x):=⟨fun M Γ Q E p s h=>by
 rw[wp_setField_iff] at h ⊢;obtain⟨a,o,vs,e,ho,hd,hi,q⟩:=h;exact⟨a,o,vs,e,ho,hd,hi,q,DK.upd (mapF _)⟩⟩
theorem newFields(ty:String)(vs:List Value):KpD (PySem.newFields ty vs):=by
 unfold PySem.newFields newObj newObjAsIs;dsimp only;split
 all_goals repeat' with_reducible first
  | exact unsupported _
  | exact alloc _
  | exact pure _
  | apply bind
  | intro _
theorem slotF(g:Obj->Array (Option Value))(o:Obj):({ o with slots:=g o }:Obj).dict=o.dict/\({ o with slots:=g o }:Obj).isFreed=o.isFreed:=by
 obtain⟨c,d,dt,sl⟩:=o;cases dt <;> exact⟨rfl,rfl⟩
end KpD
local macro_rules
 | `(tactic| trivial)=>`(tactic| (repeat' with_reducible first
  | assumption
  | exact KpD.pure _
  | exact KpD.unsupported _
  | exact KpD.field _ _
  | exact KpD.setField _ _ _
  | exact KpD.newFields _ _
  | exact KpD.load _
  | exact KpD.update _ (KpD.slotF _)
  | exact KpD.stack
  | exact KpD.alloc _
  | apply KpD.ite
  | apply KpD.bind
  | intro _
  | split))
theorem zjw(env:Env)(outer:List Env):KpD (behindIsImport env outer):=by unfold behindIsImport; trivial
theorem zm2:KpD underTheClaimsCaller:=by unfold underTheClaimsCaller; trivial
theorem zot(env:Env)(i:Bool)(l:List Env):KpD (keptBack env i l):=by
 have:=zm2
 cases l <;> unfold keptBack <;> trivial
theorem zgq:∀l:List Env,KpD (readyFrames l)
 | []=>KpD.pure _
 | env :: outer=>by
  have ih:=zgq outer;have h1:=zjw env outer;have h2:=fun i=>zot env i outer
  unfold readyFrames;trivial
  all_goals first | exact h2 _ | exact KpD.update _ (KpD.slotF _)
theorem zr0(l:List Env):KpD (frameObject l):=by
 cases l with
 | nil=>exact KpD.pure _
 | cons env outer =>
  have:=zgq (env :: outer)
  unfold frameObject;trivial
theorem zou:KpD frameEnvs:=by unfold frameEnvs; trivial
theorem zi1(env:Env):KpD (frameOf env):=by
 have h1:=zou;have h2:=zr0;unfold frameOf;trivial
 all_goals exact h2 _
theorem zm3(f:Addr)(b:Bool):KpD (entryPlaceOf f b):=by unfold entryPlaceOf; trivial
theorem zdz(e:Value)(f:Option Addr):KpD (setFlight e f):=by unfold setFlight; trivial
theorem zir(e:Value)(env:Env):KpD (noteFrame e env):=by
 have h1:=zi1 env;have h2:=zm3;unfold noteFrame EntryCells.newEntry;trivial
 all_goals exact h2 _ _
theorem zeu(env:Env)(e:Value):KpD (leaving env e):=by
 unfold leaving;exact KpD.bind (zir e env) fun _=>zdz e none
theorem zgx{α:Type}{M:Model}{A:Around}{t:Sem α}{Q Q':α->Shared->Prop}{E:Value->Shared->Prop}{s:Shared}(k:KpD t)(h:wpAny M A t Q' E s)(hQ:∀a s',Q' a s'->DK s.heap s'.heap->Q a s'):wpAny M A t Q E s:=fun Γ p hΓ =>
 Sem.wp_mono M Γ t (fun a _ s' ⟨q,d⟩=>hQ a s' q d) (fun _ _ _ z=>z) p s (k.out M Γ _ _ p s (h Γ p hΓ))
end L2
namespace L2
open PySem PySem.Spec PyProof.Rows
theorem zgk{P:Program}{w:World}{H:Hp}{h:Heap}{a:Addr}{o:HO}(x:ObjOk P w H h a o):∃u,h.get? a=some u:=by
 cases o with
 | lst xs=>obtain⟨_,_,_,_,e⟩:=x; exact⟨_,e⟩
 | tup xs=>obtain⟨_,_,_,_,u,e,_⟩:=x; exact⟨u,e⟩
 | dK kvs=>obtain⟨_,_,_,_,u,_,_,e,_⟩:=x; exact⟨u,e⟩
 | dT kvs=>obtain⟨_,_,_,_,u,_,_,e,_⟩:=x; exact⟨u,e⟩
 | set S n=>obtain⟨u,_,_,_,e,_⟩:=x; exact⟨u,e⟩
 | ins C dx fs=>obtain⟨_,_,_,e,_⟩:=x; exact⟨_,e⟩
 | own y=>exact x
 | xd fs=>obtain⟨_,⟨u,_,_,e,_⟩,_⟩:=x; exact⟨u,e⟩
 | rng lo hi=>obtain⟨_,_,_,e⟩:=x; exact⟨_,e⟩
 | frz ob u=>obtain⟨e,_⟩:=x; exact⟨_,e⟩
 | tbl ps=>exact⟨_,x⟩
 | met f y=>exact⟨_,x⟩
 | ext φ=>obtain⟨_,e,_⟩:=x; exact e
theorem zch{P:Program}{w:World}{H:Hp}{h:Heap}{a:Addr}(x:HOk P w H h)(e:h.get? a=none):H a=none:=by
 cases q:H a with
 | none=>rfl
 | some o =>
  obtain⟨u,z⟩:=zgk (x a o q);rw[e] at z;cases z
def FlyD(B:Heap)(l:List Env)(a:Addr)(cls:Value)(t:Addr)(od:Option Addr)(h:Heap):Prop:=Heap.FlyingW B l a cls (.ref t) h/\∃o,h.get? a=some o/\o.dict=od
theorem FlyD.there{B h:Heap}{l:List Env}{a t:Addr}{cls:Value}{od:Option Addr}(x:FlyD B l a cls t od h):∃o,h.get? a=some o/\o.cls=cls/\o.dict=od/\∃vs,o.data=.fields vs:=by
 obtain⟨o,e,d⟩:=x.2;obtain⟨o2,vs,e2,c,f,_⟩:=x.1.first;rw[e] at e2;cases e2;exact⟨o,e,c,d,vs,f⟩
theorem DK.dict{h h':Heap}{a:Addr}{od:Option Addr}(k:DK h h')(x:∃o,h.get? a=some o/\o.dict=od):∃o,h'.get? a=some o/\o.dict=od:=by
 obtain⟨o,e,d⟩:=x;obtain⟨o',e',d'⟩:=k a o e;exact⟨o',e',d'.trans d⟩
def CXr(P:Program)(w:World):CXT:=fun outer H s E e s' =>
 ∃(a t:Addr) (cls:Value) (od:Option Addr) (B:Heap) (H':Hp),e=.ref a/\s'.os=s.os/\AllBare s'.gens/\Un (frs outer) [] H H' s.heap s'.heap /\
  (∀b o,s.heap.get? b=some o->H b=none->b∉frs outer->B.get? b=some o)/\(∀b o,s.heap.get? b=some o->b∉frs outer->∃o',B.get? b=some o') /\
  HOk P w H' B/\FlyD B outer a cls t od s'.heap/\s.heap.get? a=none/\H' a=none/\E cls od H'
def excO(a:Addr)(cls:Value)(od:Option Addr):HO:=.ext fun h=>∃o,h.get? a=some o/\o.cls=cls/\o.dict=od/\∃vs,o.data=.fields vs
theorem zre{P:Program}{w:World}{H:Hp}{h:Heap}{a:Addr}{cls:Value}{od:Option Addr}{o:Obj}(e:h.get? a=some o)(c:o.cls=cls)(d:o.dict=od/\∃vs,o.data=.fields vs):ObjOk P w H h a (excO a cls od) :=
 ⟨⟨o,e,c,d⟩,⟨o,e⟩,fun _ _ ⟨u,q,z⟩ k=>⟨u,k u q,z⟩⟩
def Caught(X:Cx)(pins:List (Addr×Obj))(σ:St)(a:Addr)(cls:Value)(od:Option Addr)(H':Hp)(s':Shared):Prop :=
 ∃(B:Heap) (t:Addr),FlyD B X.stack a cls t od s'.heap/\H' a=none/\∀h'',FlyD B X.stack a cls t od h''->s'.heap.UpToSlots h'' →
  Inv X pins σ H' { s' with heap:=h'' }/\Inv X pins σ (upd H' a (excO a cls od)) { s' with heap:=h'' }
section
variable {X:Cx} {pins:List (Addr×Obj)} {σ:St} {H:Hp} {s s':Shared} {E:XK} {e:Value}
theorem zrc(I:Inv X pins σ H s)(h:CXr X.prog X.w X.stack H s E e s'):∃a cls od H',e=.ref a/\E cls od H'/\Caught X pins σ a cls od H' s':=by
 obtain⟨a,t,cls,od,B,H',rfl,os,bare,u,kB,tB,hok,fl,na,nH,hE⟩:=h;refine⟨a,cls,od,H',rfl,hE,B,t,fl,nH,fun h'' flD' up=>?_⟩;have fl':=flD'.1;have fr:=I.stack;have un:Un (frs X.stack) [] H H' s.heap h'':=by
  refine⟨fun b o q n hb _=>fl'.1 b o (kB b o q n hb),fun b o q n hb hx=>?_,u.free,fun b o q hx=>?_,u.tups,u.frzs,u.tbls⟩
  ·obtain⟨sl,q1⟩:=u.slot b o q n hb hx;obtain⟨_,o2,q2,nf⟩:=fr.mem hb;rw[q] at q2;cases q2;obtain⟨sl',q3⟩:=up b _ q1 nf;exact⟨sl',q3⟩
  ·by_cases hb:b∈frs X.stack
   ·obtain⟨sl,q1⟩:=u.slot b o q (I.stkFree b hb) hb hx;obtain⟨_,o2,q2,nf⟩:=fr.mem hb;rw[q] at q2;cases q2;obtain⟨sl',q3⟩:=up b _ q1 nf;exact⟨_,q3⟩
   ·obtain⟨o',q'⟩:=tB b o q hb;exact⟨o',fl'.1 b o' q'⟩
 have ok':HOk X.prog X.w H' h'':=hok.kept fl'.1;have neA:∀b o,s.heap.get? b=some o->b≠a:=fun b o q z=>by rw[z,na] at q; cases q
 have inS:∀b o,H b=some o->b≠a:=fun b o q=>by
  obtain⟨v,z⟩:=zgk (I.hok b o q);exact neA b v z
 refine⟨I.call' (s':={ s' with heap:=h'' }) os un ok' bare fun b z=>absurd z (by simp),?_⟩;refine I.call' (s':={ s' with heap:=h'' }) os ⟨un.keep,un.slot,fun b o q n hx=>?_,un.there,fun b xs q=>?_,fun b o v q=>?_,fun b ps q=>?_⟩ (fun b o q=>?_) bare fun b z=>absurd z (by simp)
 ·rw[upd_ne (neA b o q)];exact un.free b o q n hx
 ·rw[upd_ne (inS b _ q)];exact un.tups b xs q
 ·rw[upd_ne (inS b _ q)];exact un.frzs b o v q
 ·obtain⟨more,z⟩:=un.tbls b ps q;exact⟨more,by rw[upd_ne (inS b _ q)]; exact z⟩
 ·by_cases hb:b=a
  ·subst hb;rw[za1] at q;cases q;obtain⟨ob,z1,z2,z3⟩:=flD'.there;exact zre z1 z2 z3
  ·rw[upd_ne hb] at q;refine(ok' b o q).stay (fun c v _ z=>z) (fun c z=>?_) fun c xs z=>?_
   ·rw[upd_ne (ne_of_none z nH)];exact z
   ·rw[upd_ne (ne_of_none z nH)];exact z
end
section
variable {P:Program} {w:World} {K:PySem.W.Frag} {mg:Str->Option Value} {base:Heap} {N:List Str} {qual:Str} {scope:Scope} {f:Addr} {cd:Value} {A:Around} {outer:List Env} {s₀:Shared} {H₀:Hp} {E:XK}
theorem zoa:Passes (CXr P w) (cxOf (CXr P w) P w K mg base N qual scope f cd A outer s₀ H₀ E) E:=by
 intro pins σ H s e s' I h;obtain⟨a,t,cls,od,B,H',rfl,os,bare,u,kB,tB,hok,fl,na,nH,hE⟩:=h;have sub:∀b,b∈frs outer->b∈frs (envOfC qual scope s₀.heap.objs.size f cd :: outer):=fun b hb=>by
  show b∈List.filterMap _ (_ :: outer);rw[List.filterMap_cons];exact List.mem_cons_of_mem _ hb
 have noL:∀b o,s₀.heap.get? b=some o->b∉frs outer->b∉frs (envOfC qual scope s₀.heap.objs.size f cd :: outer):=fun b o q hb z=>by
  rcases List.mem_cons.mp (I.stkSub b z) with z | z
  ·exact absurd (Heap.lt_size q) (by rw[z]; exact Nat.lt_irrefl _)
  ·exact hb z
 have nex:∀b:Addr,b∉([]:List Addr):=fun b z=>by simp at z
 have kB':∀b o,s₀.heap.get? b=some o->H₀ b=none->b∉frs outer->B.get? b=some o:=fun b o q n hb =>
  kB b o (I.base.keep b o q n hb (nex b)) (I.base.free b o q n (nex b)) (noL b o q hb)
 have tB':∀b o,s₀.heap.get? b=some o->b∉frs outer->∃o',B.get? b=some o':=fun b o q hb=>by
  obtain⟨o1,q1⟩:=I.base.there b o q (nex b);exact tB b o1 q1 (noL b o q hb)
 have na':s₀.heap.get? a=none:=by
  cases q:s₀.heap.get? a with
  | none=>rfl
  | some o =>
   obtain⟨o1,q1⟩:=I.base.there a o q (nex a);rw[na] at q1;cases q1
 refine zgx (zeu _ _) (Q':=fun _ s2=>∃h',s2={ s' with heap:=h' }/\Heap.FlyingW B outer a cls (.ref t) h'/\s'.heap.UpToSlots h') (wpAny_leaves_onW I.ok.frames rfl fl.1 fun h' fl' up=>⟨h',rfl,fl',up⟩) ?_;rintro _ s2 ⟨h',rfl,fl',up⟩ dk;refine⟨a,t,cls,od,B,H',rfl,os.trans I.os,bare,?_,kB',tB',hok,⟨fl',dk.dict fl.2⟩,na',nH,hE⟩;have slot':∀b o,s₀.heap.get? b=some o->H₀ b=none->b∈frs outer->∃sl,h'.get? b=some { o with slots:=sl }:=fun b o q n hb=>by
  obtain⟨sl,q1⟩:=I.base.slot b o q n hb (nex b);obtain⟨sl1,q2⟩:=u.slot b _ q1 (I.base.free b o q n (nex b)) (sub b hb) (nex b);obtain⟨_,o2,q3,nf⟩:=I.funs.mem hb;rw[q1] at q3;cases q3;obtain⟨sl2,q4⟩:=up b _ q2 nf;exact⟨sl2,q4⟩
 refine⟨fun b o q n hb _=>fl'.1 b o (kB' b o q n hb),fun b o q n hb _=>slot' b o q n hb,fun b o q n _=>?_,fun b o q _=>?_,fun b xs q=>u.tups b xs (I.base.tups b xs q),fun b o v q=>u.frzs b o v (I.base.frzs b o v q),fun b ps q=>?_⟩
 ·obtain⟨o1,q1⟩:=I.base.there b o q (nex b);exact u.free b o1 q1 (I.base.free b o q n (nex b)) (nex b)
 ·by_cases hb:b∈frs outer
  ·obtain⟨sl,q1⟩:=slot' b o q (I.ok.frf b hb) hb;exact⟨_,q1⟩
  ·obtain⟨o1,q1⟩:=tB' b o q hb;exact⟨o1,fl'.1 b o1 q1⟩
 ·obtain⟨m1,q1⟩:=I.base.tbls b ps q;obtain⟨m2,q2⟩:=u.tbls b _ q1;exact⟨m1++m2,by rw[q2,Array.append_assoc]⟩
end
theorem okX {P:Program} {w:World} {K:PySem.W.Frag} {mg:Str->Option Value} {base:Heap} {x qual:Str} {st:Stmt} {f:Addr} {fd:FuncData} {N ps:List Str} {k:Nat} {sp:Sp} (F:Fun K x qual st f fd) (S:FnScope N ps (defScope st))
  (len:∀vs H Q E,sp vs H Q E->vs.length=ps.length)
  (hbody:∀(cdv:Value) (A:Around) (outer:List Env) (s:Shared) (H:Hp) (vs:List V) (Q:VK) (E:XK),Room k (A.deeper (envOfC qual (defScope st) s.heap.objs.size f cdv))->sp vs H Q E →
   ∃t,PSs (cxOf (CXr P w) P w K mg base N qual (defScope st) f cdv A outer s H E) (defBody st) t/\t { nx:=fun _ H'=>Q .non H',rt:=Q } (start N vs) H):FnOk P w K mg base (CXr P w) (k+1) f fd ps sp:=by
 obtain⟨oc,od,kV,doc,pm,an,cdv,ct,osl,rfl,lk,hcd⟩:=F.ex;exact zra lk hcd S len fun A outer s H vs Q E hr hsp=>hbody cdv A outer s H vs Q E hr hsp
abbrev TX:=St->Hp->VK->XK->Prop
def PX(X:Cx)(e:PySem.Expr)(t:TX):Prop :=
 ∀(pins:List (Addr×Obj)) (s:Shared) (σ:St) (H:Hp) (Q:VK) (E:XK) (W:Value->Shared->Prop),Inv X pins σ H s->t σ H Q E->(∀a cls od H' s',Caught X pins σ a cls od H' s'->E cls od H'->W (.ref a) s') →
  wpAny (model X.prog X.w) X.A (eval e X.env) (EP X pins σ Q) W s
def tXCall(sp:Sp)(dvs:List V)(t:TA):TX:=fun σ H Q E=>t σ H fun vs H1=>sp (vs++dvs) H1 Q E
theorem zkx {X:Cx} {k:Nat} {f:Addr} {fd:FuncData} {ps:List Str} {sp:Sp} {dvs:List V} {ds:List Value} {x:Str} {p pos:Pos} {e:PySem.Expr} {es:List PySem.Expr} {t:TA}
  (F:FnOk X.prog X.w X.K X.mg X.base (CXr X.prog X.w) k f fd ps sp) (hr:Room k X.A) (hg:Gl X x) (hm:X.mg x=some (.ref f)) (hk:PySem.W.keepIn X.K (.ref f)=true) (hb:Binds X.K fd ps ds) (hd:Vals dvs ds)
  (ha:PA X.nox (e :: es) t) (hdb:(x == ("__debug__":Str))=false:=by decide) (he:starEach (e :: es) X.env=(false,eval e X.env) :: starEach es X.env:=by rfl) (hpl:(backTo pos (starEach es X.env)).any (·.1)=false:=by rfl) :
  PX X (.Call (.Name x p) (e :: es) [] pos) (tXCall sp dvs t):=by
 intro pins s σ H Q E W I h hW;refine wpAny_Call_Name_kw (zdj I hg hm ?_ hdb);refine PySem.W.callWith_K (h₀:=X.base) I.ok.mod.kin hk (wpAny_mono (ha pos pins s σ H _ (I.wish _) h) (fun us s1 ⟨vs,H1,I1',r,q⟩=>?_) fun _ _ z=>False.elim z) he hpl;have I1:Inv X pins σ H1 s1:=I1'.unwish;refine⟨I1.kIn,?_⟩;have r2:Vals (vs++dvs) (us++ds):=r.append hd;have hl:(us++ds).length=ps.length:=by rw[<-r2.length]; exact F.len _ _ _ _ q
 refine wpAny_call (codeAny_mono (F.run X.A X.stack s1 H1 ⟨us,[]⟩ (us++ds) (vs++dvs) Q E hr I1.env0 (hb s1 us I1.kIn hl) r2 q) fun r s' hq=>?_);cases r with
 | error e =>
  obtain⟨a,cls,od,H',e1,hE,c⟩:=zrc I1 hq;subst e1;exact hW a cls od H' s' c hE
 | ok fl =>
  cases fl with
  | ret u=>exact I1.after hq
  | next=>exact False.elim hq
  | brk=>exact False.elim hq
  | cont=>exact False.elim hq
abbrev TXS:=Ends->St->Hp->XK->Prop
def PXS(X:Cx)(body:List Stmt)(t:TXS):Prop :=
 ∀(pins:List (Addr×Obj)) (s:Shared) (σ:St) (H:Hp) (D:Ends) (E:XK) (W:Value->Shared->Prop),Inv X pins σ H s->t D σ H E->(∀a cls od H' s',Caught X pins σ a cls od H' s'->E cls od H'->W (.ref a) s') →
  wpAny (model X.prog X.w) X.A (execs body X.env) (SP X pins D) W s
def tXSet(i:Nat)(te:TX):TXS:=fun D σ H E=>te σ H (fun v H1=>D.nx (σ.set i (some v)) H1) E
theorem zkv {X:Cx} {i:Nat} {x:Str} {e:PySem.Expr} {te:TX} {pos pos':Pos} (hN:X.N.Nodup) (hi:X.N[i]?=some x) (hx:Loc X.env.scope x) (he:PX X e te) (hs:swapsWith e (some (.Name x pos')) pos.line X.env=pure false:=by rfl)
  (hf:X.fn x=true\/X.env.scope.names.lookup x=some .local:=by first | exact .inl rfl | exact .inr rfl | assumption):PXS X [.Assign [.Name x pos'] e pos] (tXSet i te):=by
 intro pins s σ H D E W I h hW;refine wpAny_execs_cons (wpAny_Assign_Name (thn (he pins s σ H _ E W I h hW) fun v s1 ⟨y,H1,I1,r1,q1⟩=>?_) hs);exact zd6 I1 hN hi hx r1 (fun s2 I2=>wpAny_execs_nil ⟨_,H1,I2,q1⟩) hf
abbrev marked(X:Cx)(a:Addr):Cx:={ X with A:=X.A.mark (some (.ref a)),calm:=false }
theorem zcc{X:Cx}{pins:List (Addr×Obj)}{σ:St}{H:Hp}{s:Shared}(I:Inv X pins σ H s)(a:Addr):Inv (marked X a) pins σ H s :=
 ⟨⟨I.ok.mod,I.ok.kind,I.ok.glob,I.ok.blt,I.ok.above,I.ok.inj,I.ok.has,I.ok.cab,(fun z=>by cases z),I.ok.frames,I.ok.stk,I.ok.exf,I.ok.bs,I.ok.bsz,I.ok.noex,I.ok.exfs,I.ok.funs,I.ok.frf⟩,I.os,I.bare,I.base,I.loc,I.cell,I.free,I.freeC,I.pin,I.hok,I.len⟩
theorem zbc{X:Cx}{pins:List (Addr×Obj)}{σ:St}{H:Hp}{s:Shared}{a:Addr}(ok:X.Ok)(I:Inv (marked X a) pins σ H s):Inv X pins σ H s :=
 ⟨ok,I.os,I.bare,I.base,I.loc,I.cell,I.free,I.freeC,I.pin,I.hok,I.len⟩
theorem zc0 {X:Cx} {M:Model} {A:Around} {W:Value->Shared->Prop} {pins:List (Addr×Obj)} {σ:St} {H:Hp} {s:Shared} {i:Nat} {n:Str} {pos:Pos} {Q:Unit->Shared->Prop} (I:Inv X pins σ H s) (hN:X.N.Nodup) (hi:X.N[i]?=some n)
  (hx:X.env.scope.names.lookup n=some .local) (h:∀s',Inv X pins (σ.set i none) H s'->Q () s'):wpAny M A (do bindName X.env n .none; unbindBehindTheSuite X.env n pos) Q W s:=by
 obtain⟨m,hn,hl⟩:=id I.loc;have hcls:(X.env.scope.kind == .class || (X.env.scope.kind == .module && X.env.locals != X.env.globals))=false:=by rw[I.ok.kind]; rfl
 obtain⟨oL,_,_,hoL,_⟩:=id hn;refine wpAny_nameGoes_keeps hx hn hcls fun h' v hn' hs=>h _ ?_
 have ne:∀b o,X.s₀.heap.get? b=some o->b≠X.env.locals:=fun b o e=>Nat.ne_of_lt (Nat.lt_of_lt_of_le (Heap.lt_size e) I.ok.above)
 refine⟨I.ok,I.os,I.bare,⟨fun b o e z hb hx=>?_,fun b o e z hb hx=>?_,I.base.free,fun b o e hx=>?_,I.base.tups,I.base.frzs,I.base.tbls⟩,⟨_,hn',fun j y v' e1 e2 e3=>?_⟩,fun y c e=>?_,I.free,I.freeC,fun p hp=>?_,fun b o e=>?_,by simpa using I.len⟩
 ·exact(hs.2 b (ne b o e)).trans (I.base.keep b o e z hb hx)
 ·obtain⟨sl,e1⟩:=I.base.slot b o e z hb hx;exact⟨sl,(hs.2 b (ne b o e)).trans e1⟩
 ·obtain⟨o',e1⟩:=I.base.there b o e hx;exact⟨o',(hs.2 b (ne b o e)).trans e1⟩
 ·have hj:j≠i:=fun z=>by
   subst z;have hlt:j<σ.length:=by rw[I.len]; exact(List.getElem?_eq_some_iff.mp hi).1
   rw[List.getElem?_set_self hlt] at e2;cases e2
  rw[List.getElem?_set_ne (Ne.symm hj)] at e2;obtain⟨u',r',q⟩:=hl j y v' e1 e2 e3;have hy:y≠n:=fun e=>hj (zfy hN e1 (e ▸ hi))
  refine⟨u',r',?_⟩;rcases q with ⟨k,e⟩ | ⟨k,c,e,z⟩
  ·exact .inl ⟨k,by simp[hy,e]⟩
  ·exact .inr ⟨k,c,e,z.sameBut hs (I.cne y c e)⟩
 ·obtain⟨w',z⟩:=I.cell y c e;exact⟨w',z.sameBut hs (I.cne y c e)⟩
 ·obtain⟨e,z,ne',nf,d⟩:=I.pin p hp;exact⟨(hs.2 p.1 ne').trans e,z,ne',nf,d⟩
 ·refine(I.hok b o e).stay (fun c w' hc q=>(hs.2 c ?_).trans q) (fun _ q=>q) fun _ _ q=>q
  rintro rfl;rcases hc with rfl | hc
  ·rw[I.free] at e; cases e
  ·rw[I.free] at hc; cases hc
section
variable {M:Model} {A:Around} {E:Value->Shared->Prop} {s:Shared} {B:Heap} {env:Env} {outer l:List Env} {L e t:Addr} {cls:Value} {od:Option Addr} {Q:Unit->Shared->Prop}
theorem zgo (hfr:A.frames=some (env :: outer)) (hf:env.frame=some L) (hfl:FlyD B (env :: outer) e cls t od s.heap)
  (hQ:∀h',Heap.HeldW B (env :: outer) e cls (.ref t) L h'->(∃o,h'.get? e=some o/\o.dict=od)->s.heap.UpToSlots h'->Q () { s with heap:=h' }):wpAny M A (noteFrame (.ref e) env) Q E s:=by
 refine zgx (zir _ _) (Q':=fun _ s2=>∃h',s2={ s with heap:=h' }/\Heap.HeldW B (env :: outer) e cls (.ref t) L h'/\s.heap.UpToSlots h') (wpAny_looks_onW hfr hf hfl.1 fun h' a b=>⟨h',rfl,a,b⟩) ?_;rintro _ s2 ⟨h',rfl,a,b⟩ dk;exact hQ h' a (dk.dict hfl.2) b
theorem landsD(hh:Heap.HeldW B l e cls (.ref t) L s.heap)(hd:∃o,s.heap.get? e=some o/\o.dict=od)(hQ:∀h',FlyD B l e cls t od h'->s.heap.UpToSlots h'->Q () { s with heap:=h' }):wpAny M A (setFlight (.ref e) none) Q E s:=by
 refine zgx (zdz _ _) (Q':=fun _ s2=>∃h',s2={ s with heap:=h' }/\Heap.FlyingW B l e cls (.ref t) h'/\s.heap.UpToSlots h') (wpAny_landsW hh fun h' a b=>⟨h',rfl,a,b⟩) ?_;rintro _ s2 ⟨h',rfl,a,b⟩ dk;exact hQ h' ⟨a,dk.dict hd⟩ b
theorem zd3(hh:FlyD B l e cls t od s.heap)(hQ:∀h',FlyD B l e cls t od h'->s.heap.UpToSlots h'->Q () { s with heap:=h' }):wpAny M A (setFlight (.ref e) none) Q E s:=by
 refine zgx (zdz _ _) (Q':=fun _ s2=>∃h',s2={ s with heap:=h' }/\Heap.FlyingW B l e cls (.ref t) h'/\s.heap.UpToSlots h') (lands_againW hh.1 fun h' a b=>⟨h',rfl,a,b⟩) ?_;rintro _ s2 ⟨h',rfl,a,b⟩ dk;exact hQ h' ⟨a,dk.dict hh.2⟩ b
end
def tTry(K:PySem.W.Frag)(C:Addr)(i:Nat)(tb:TXS)(th:Addr->TS):TS:=fun D σ H=>tb D σ H fun cls od H'=>PySem.W.exmOne K cls (.ref C)=some true/\∀a,H' a=none →
 th a { nx:=fun σ2 H2=>D.nx (σ2.set i none) H2,rt:=D.rt,bk:=fun σ2 H2=>D.bk (σ2.set i none) H2,ct:=fun σ2 H2=>D.ct (σ2.set i none) H2 } (σ.set i (some (.ref a))) (upd H' a (excO a cls od))
theorem ps_try {X:Cx} {body:List Stmt} {y n:Str} {C:Addr} {i:Nat} {b0:Stmt} {suite:List Stmt} {tb:TXS} {th:Addr->TS} {np hpos pos:Pos} (hN:X.N.Nodup) (hi:X.N[i]?=some n) (hx:X.env.scope.names.lookup n=some .local) (hg:Gl X y) (hm:X.mg y=some (.ref C))
  (hst:X.stack=X.env :: X.outer) (hfr:X.env.frame=some X.env.locals)
  (hb:PXS X body tb) (hs:∀a,PSs (marked X a).nox (b0 :: suite) (th a)) (hdb:(y == ("__debug__":Str))=false:=by decide) :
  PS X (.Try body [.ExceptHandler (some (.Name y np)) (some n) (b0 :: suite) hpos] [] [] pos) (tTry X.K C i tb th):=by
 intro pins s σ H D I h;refine wpAny_Try_except (wpAny_mono (hb pins s σ H D _ _ I h ?_) (fun f s1 q=>?_) fun _ _ z=>z);rotate_left
 ·cases f with
  | next=>exact wpAny_execs_nil q
  | ret v=>exact q
  | brk=>exact q
  | cont=>exact q
 intro a cls od H' s' ⟨B,t,fl,nH,inv⟩ ⟨hq,rd⟩;rw[hst] at fl inv;refine zgo (hst ▸ I.ok.frames) hfr fl fun h4 held4 dk4 up4=>?_
 refine landsD held4 dk4 fun h5 fl5 up5=>?_
 have up45:=up4.trans up5;have I5:=(inv h5 fl5 up45).1;refine wpAny_handleBy_cons (codeAny_handlers_test ?_) (by intro z; cases z);refine zdj (zcc I5 a) hg hm ?_ hdb;obtain⟨ob,hob,hoc,_⟩:=fl5.there;have LT:PySem.W.Looks (model X.prog X.w) h5 (typeOf (.ref a)) cls:=hoc ▸ (PySem.W.Looks.ld hob).andThen .now;refine(PySem.W.exm_one (I5.kIn) LT hq).at (codeAny_handlers_suite_as ?_);refine zd3 fl5 fun h6 fl6 up6=>?_
 have I6:=(inv h6 fl6 (up45.trans up6)).2;refine zd6 (X:=(marked X a).nox) (v:=.ref a) (Inv.wish (zcc I6 a) (fun _ _=>False)) hN hi (.inl hx) rfl (fun s7 I7=>?_) (.inr hx);refine wpAny_mono (hs a pins s7 _ _ _ I7 (rd a nH)) (fun f s8 q8=>?_) fun _ _ z=>False.elim z
 cases f with
 | next =>
  obtain⟨σ8,H8,I8,d8⟩:=q8;exact zc0 (zbc I.ok (Inv.unwish I8)) hN hi hx fun s9 I9=>⟨_,H8,I9,d8⟩
 | brk =>
  obtain⟨σ8,H8,I8,d8⟩:=q8;exact zc0 (zbc I.ok (Inv.unwish I8)) hN hi hx fun s9 I9=>⟨_,H8,I9,d8⟩
 | cont =>
  obtain⟨σ8,H8,I8,d8⟩:=q8;exact zc0 (zbc I.ok (Inv.unwish I8)) hN hi hx fun s9 I9=>⟨_,H8,I9,d8⟩
 | ret u =>
  obtain⟨v,σ8,H8,I8,rv,d8⟩:=q8;exact zc0 (zbc I.ok (Inv.unwish I8)) hN hi hx fun s9 I9=>⟨v,_,H8,I9,rv,d8⟩
def tSuite(D:Ends)(i:Nat)(th:Addr->TS)(σ:St)(cls:Value)(od:Option Addr)(H':Hp):Prop:=∀a,H' a=none →
 th a { nx:=fun σ2 H2=>D.nx (σ2.set i none) H2,rt:=D.rt,bk:=fun σ2 H2=>D.bk (σ2.set i none) H2,ct:=fun σ2 H2=>D.ct (σ2.set i none) H2 } (σ.set i (some (.ref a))) (upd H' a (excO a cls od))
def tTry2(K:PySem.W.Frag)(C1 C2:Addr)(i:Nat)(tb:TXS)(th1 th2:Addr->TS):TS:=fun D σ H=>tb D σ H fun cls od H' =>
 (PySem.W.exmOne K cls (.ref C1)=some true/\tSuite D i th1 σ cls od H')\/(PySem.W.exmOne K cls (.ref C1)=some false/\PySem.W.exmOne K cls (.ref C2)=some true/\tSuite D i th2 σ cls od H')
theorem zq9 {X:Cx} {body:List Stmt} {y1 y2 n:Str} {C1 C2:Addr} {i:Nat} {b1 b2:Stmt} {su1 su2:List Stmt} {tb:TXS} {th1 th2:Addr->TS} {np1 hp1 np2 hp2 pos:Pos} (hN:X.N.Nodup) (hi:X.N[i]?=some n) (hx:X.env.scope.names.lookup n=some .local) (hg1:Gl X y1) (hm1:X.mg y1=some (.ref C1)) (hg2:Gl X y2) (hm2:X.mg y2=some (.ref C2))
  (hst:X.stack=X.env :: X.outer) (hfr:X.env.frame=some X.env.locals)
  (hb:PXS X body tb) (hs1:∀a,PSs (marked X a).nox (b1 :: su1) (th1 a)) (hs2:∀a,PSs (marked X a).nox (b2 :: su2) (th2 a)) (hdb1:(y1 == ("__debug__":Str))=false:=by decide) (hdb2:(y2 == ("__debug__":Str))=false:=by decide) :
  PS X (.Try body [.ExceptHandler (some (.Name y1 np1)) (some n) (b1 :: su1) hp1,.ExceptHandler (some (.Name y2 np2)) (some n) (b2 :: su2) hp2] [] [] pos) (tTry2 X.K C1 C2 i tb th1 th2):=by
 intro pins s σ H D I h;refine wpAny_Try_except (wpAny_mono (hb pins s σ H D _ _ I h ?_) (fun f s1 q=>?_) fun _ _ z=>z);rotate_left
 ·cases f with
  | next=>exact wpAny_execs_nil q
  | ret v=>exact q
  | brk=>exact q
  | cont=>exact q
 intro a cls od H' s' ⟨B,t,fl,nH,inv⟩ hq;rw[hst] at fl inv;refine zgo (hst ▸ I.ok.frames) hfr fl fun h4 held4 dk4 up4=>?_
 refine landsD held4 dk4 fun h5 fl5 up5=>?_
 have up45:=up4.trans up5;have I5:=(inv h5 fl5 up45).1;obtain⟨ob,hob,hoc,_⟩:=fl5.there;have LT:PySem.W.Looks (model X.prog X.w) h5 (typeOf (.ref a)) cls:=hoc ▸ (PySem.W.Looks.ld hob).andThen .now;refine wpAny_handleBy_cons (codeAny_handlers_test ?_) (by intro z; cases z);refine zdj (zcc I5 a) hg1 hm1 ?_ hdb1;rcases hq with ⟨hq,rd⟩ | ⟨hq1,hq2,rd⟩
 ·refine(PySem.W.exm_one (I5.kIn) LT hq).at (codeAny_handlers_suite_as ?_);refine zd3 fl5 fun h6 fl6 up6=>?_
  have I6:=(inv h6 fl6 (up45.trans up6)).2;refine zd6 (X:=(marked X a).nox) (v:=.ref a) (Inv.wish (zcc I6 a) (fun _ _=>False)) hN hi (.inl hx) rfl (fun s7 I7=>?_) (.inr hx);refine wpAny_mono (hs1 a pins s7 _ _ _ I7 (rd a nH)) (fun f s8 q8=>?_) fun _ _ z=>False.elim z
  cases f with
  | next =>
   obtain⟨σ8,H8,I8,d8⟩:=q8;exact zc0 (zbc I.ok (Inv.unwish I8)) hN hi hx fun s9 I9=>⟨_,H8,I9,d8⟩
  | brk =>
   obtain⟨σ8,H8,I8,d8⟩:=q8;exact zc0 (zbc I.ok (Inv.unwish I8)) hN hi hx fun s9 I9=>⟨_,H8,I9,d8⟩
  | cont =>
   obtain⟨σ8,H8,I8,d8⟩:=q8;exact zc0 (zbc I.ok (Inv.unwish I8)) hN hi hx fun s9 I9=>⟨_,H8,I9,d8⟩
  | ret u =>
   obtain⟨v,σ8,H8,I8,rv,d8⟩:=q8;exact zc0 (zbc I.ok (Inv.unwish I8)) hN hi hx fun s9 I9=>⟨v,_,H8,I9,rv,d8⟩
 ·refine(PySem.W.exm_one (I5.kIn) LT hq1).at ?_;show wpAny _ _ _ _ _ _;refine wpAny_handleBy_cons (codeAny_handlers_test ?_) (by intro z; cases z);refine zdj (zcc I5 a) hg2 hm2 ?_ hdb2;refine(PySem.W.exm_one (I5.kIn) LT hq2).at (codeAny_handlers_suite_as ?_);refine zd3 fl5 fun h6 fl6 up6=>?_
  have I6:=(inv h6 fl6 (up45.trans up6)).2;refine zd6 (X:=(marked X a).nox) (v:=.ref a) (Inv.wish (zcc I6 a) (fun _ _=>False)) hN hi (.inl hx) rfl (fun s7 I7=>?_) (.inr hx);refine wpAny_mono (hs2 a pins s7 _ _ _ I7 (rd a nH)) (fun f s8 q8=>?_) fun _ _ z=>False.elim z
  cases f with
  | next =>
   obtain⟨σ8,H8,I8,d8⟩:=q8;exact zc0 (zbc I.ok (Inv.unwish I8)) hN hi hx fun s9 I9=>⟨_,H8,I9,d8⟩
  | brk =>
   obtain⟨σ8,H8,I8,d8⟩:=q8;exact zc0 (zbc I.ok (Inv.unwish I8)) hN hi hx fun s9 I9=>⟨_,H8,I9,d8⟩
  | cont =>
   obtain⟨σ8,H8,I8,d8⟩:=q8;exact zc0 (zbc I.ok (Inv.unwish I8)) hN hi hx fun s9 I9=>⟨_,H8,I9,d8⟩
  | ret u =>
   obtain⟨v,σ8,H8,I8,rv,d8⟩:=q8;exact zc0 (zbc I.ok (Inv.unwish I8)) hN hi hx fun s9 I9=>⟨v,_,H8,I9,rv,d8⟩
abbrev TXA:=St->Hp->(List V->Hp->Prop)->XK->Prop
def PXA(X:Cx)(es:List PySem.Expr)(t:TXA):Prop :=
 ∀(pos:Pos) (pins:List (Addr×Obj)) (s:Shared) (σ:St) (H:Hp) (Q:List V->Hp->Prop) (E:XK) (W:Value->Shared->Prop),Inv X pins σ H s->t σ H Q E->(∀a cls od H' s',Caught X pins σ a cls od H' s'->E cls od H'->W (.ref a) s') →
  wpAny (model X.prog X.w) X.A (spliced (backTo pos (starEach es X.env))) (AP X pins σ Q) W s
section
variable {X:Cx} {e:PySem.Expr} {es:List PySem.Expr}
def tXE(te:TE):TX:=fun σ H Q _=>te σ H Q
theorem px_pe{te:TE}(h:PE X.nox e te):PX X e (tXE te):=by
 intro pins s σ H Q E W I h' hW;exact wpAny_mono (h pins s σ H Q (I.wish _) h') (fun u s1 ⟨x,H1,I1,r,q⟩=>⟨x,H1,I1.unwish,r,q⟩) fun _ _ z=>False.elim z
def tXNil:TXA:=fun _ H Q _=>Q [] H
theorem zkw:PXA X [] tXNil:=by
 intro pos pins s σ H Q E W I h hW;exact wpAny_mono (za2 (X:=X.nox) pos pins s σ H Q (I.wish _) h) (fun u s1 ⟨x,H1,I1,r,q⟩=>⟨x,H1,I1.unwish,r,q⟩) fun _ _ z=>False.elim z
def tXCons(te:TX)(t:TXA):TXA:=fun σ H Q E=>te σ H (fun v H1=>t σ H1 (fun vs H2=>Q (v :: vs) H2) E) E
theorem zed{te:TX}{t:TXA}(ha:PX X e te)(hr:PXA X es t)(hs:starEach (e :: es) X.env=(false,eval e X.env) :: starEach es X.env:=by rfl):PXA X (e :: es) (tXCons te t):=by
 intro pos pins s σ H Q E W I h hW;rw[hs];show wpAny _ _ (spliced ((false,eval e X.env) :: backTo pos (starEach es X.env))) _ _ s;refine Calls.spliced_cons (thn (ha pins s σ H _ E W I h hW) fun u s1 ⟨x,H1,I1,r1,q1⟩=>?_);exact thn (hr pos pins s1 σ H1 _ E W I1 q1 hW) fun us s2 ⟨xs,H2,I2,r2,q2⟩=>⟨x :: xs,H2,I2,.cons r1 r2,q2⟩
def tXTup(t:TXA):TX:=fun σ H Q E=>t σ H (fun xs H1=>TupNR xs H1 Q) E
theorem zpi{t:TXA}{x1}{pos:Pos}(h:PXA X es t):PX X (.Tuple es x1 pos) (tXTup t):=by
 intro pins s σ H Q E W I hq hW;refine wpAny_Tuple_spliced (thn (h pos pins s σ H _ E W I hq hW) fun us s1 ⟨xs,H1,I1,r,z,q⟩=>⟨by rw[<-r.length]; exact z,?_⟩);have hf:H1 s1.heap.objs.size=none:=I1.hok.fresh (Nat.le_refl _);refine⟨.ref s1.heap.objs.size,upd H1 s1.heap.objs.size (.tup xs),I1.laid (t':=s1.toks) (fun b u e=>Heap.get?_push_of_some _ e) (Nat.le_refl _) ?_,rfl,q _ hf⟩;exact⟨z,us,r,⟨_,Heap.get?_push_size _ rfl,rfl,_,rfl⟩,_,Heap.get?_push_size _ rfl,rfl⟩
end
def cxComp(X:Cx)(scope:Scope)(cl:List (Str×Addr))(C:Addr)(Nc:List Str)(ex:List Addr)(pins:List (Addr×Obj))(s₀:Shared)(H₀:Hp):Cx where
 prog:=X.prog
 w:=X.w
 K:=X.K
 mg:=X.mg
 base:=X.base
 A:=X.A
 N:=Nc
 s₀:=s₀
 H₀:=H₀
 env:=compEnvC scope cl C X.env
 outer:=X.stack
 stack:=X.stack
 ex:=ex
 fn:=fun y=>scope.names.lookup y == some .local
 calm:=true
 pn:=X.pn++pins
 xe:=fun _ _=>False
structure CompScope(X:Cx)(scope:Scope)(cl:List (Str×Addr))(Nc:List Str)(cap:List (Nat×Nat)):Prop where
 clos:closureFor scope X.env=pure cl
 kind:scope.kind=.function
 names:∀y∈scope.names,y.2=.local->scope.names.lookup y.1=some .local
 nocell:∀y∈scope.names,y.2≠.cell
 sub:∀x c,cl.lookup x=some c->X.env.cells.lookup x=some c/\scope.names.lookup x≠some .local
 has:∀x,((relabel scope X.env).names.lookup x=some .cell\/(relabel scope X.env).names.lookup x=some .free)->∃c,cl.lookup x=some c
 caps:∀j i,(j,i)∈cap->∃x c,Nc[j]?=some x/\X.N[i]?=some x/\cl.lookup x=some c/\X.env.scope.names.lookup x=some .cell/\(relabel scope X.env).names.lookup x=some .cell
theorem zbe {X:Cx} {scope:Scope} {cl:List (Str×Addr)} {Nc:List Str} {cap:List (Nat×Nat)} (clos:closureFor scope X.env=pure cl) (kind:scope.kind=.function) (names:∀y∈scope.names,y.2=.local->scope.names.lookup y.1=some .local) (nocell:∀y∈scope.names,y.2≠.cell)
  (subs:∀p∈cl,X.env.cells.lookup p.1=some p.2/\scope.names.lookup p.1=some .free) (hass:((relabel scope X.env).names.all fun p=>(p.2 != .cell && p.2 != .free) || (cl.lookup p.1).isSome)=true)
  (caps:∀p∈cap,∃x c,Nc[p.1]?=some x/\X.N[p.2]?=some x/\cl.lookup x=some c/\X.env.scope.names.lookup x=some .cell/\(relabel scope X.env).names.lookup x=some .cell):CompScope X scope cl Nc cap :=
 ⟨clos,kind,names,nocell,fun x c e=>⟨(subs (x,c) (PySem.mem_of_lookup e)).1,fun z=>by
  have:=(subs (x,c) (PySem.mem_of_lookup e)).2
  rw[z] at this;cases this⟩,fun x e=>by
  have key:∀k,(relabel scope X.env).names.lookup x=some k->(k=.cell\/k=.free)->∃c,cl.lookup x=some c:=fun k e hk=>by
   have:=List.all_eq_true.mp hass (x,k) (PySem.mem_of_lookup e)
   rcases hk with rfl | rfl
   ·exact Option.isSome_iff_exists.mp (by simpa using this)
   ·exact Option.isSome_iff_exists.mp (by simpa using this)
  rcases e with e | e
  ·exact key _ e (.inl rfl)
  ·exact key _ e (.inr rfl),fun j i m=>caps (j,i) m⟩
def capSt(n:Nat)(cap:List (Nat×Nat))(σ:St):St:=(List.range n).map fun j=>((cap.find? fun p=>p.1 == j).bind fun p=>σ[p.2]?).bind id
theorem zn3{n:Nat}{cap:List (Nat×Nat)}{σ:St}{j:Nat}{v:V}(h:(capSt n cap σ)[j]?=some (some v)):∃i,(j,i)∈cap/\σ[i]?=some (some v):=by
 unfold capSt at h;rw[List.getElem?_map] at h;cases e:(List.range n)[j]? with
 | none=>rw[e] at h; cases h
 | some k =>
  rw[e] at h;have hk:k=j:=by
   obtain⟨hl,q⟩:=List.getElem?_eq_some_iff.mp e;rw[List.getElem_range] at q;exact q.symm
  subst hk;simp only[Option.map_some,Option.some.injEq] at h;cases f:cap.find? fun p=>p.1 == k with
  | none=>rw[f] at h; cases h
  | some p =>
   rw[f] at h;have h1:=List.mem_of_find?_eq_some f;have h2:p.1=k:=by
    have:=List.find?_some f
    exact eq_of_beq this
   refine⟨p.2,?_,?_⟩
   ·rw[<-h2]; exact h1
   ·simp only[Option.bind_some] at h;cases g:σ[p.2]? with
    | none=>rw[g] at h; cases h
    | some o=>rw[g] at h; simpa using h
section
variable {X:Cx} {pins:List (Addr×Obj)} {σ:St} {H:Hp} {s:Shared} {scope:Scope} {cl:List (Str×Addr)} {Nc:List Str} {cap:List (Nat×Nat)} {fp:List Addr}
theorem zoy (I:Inv X pins σ H s) (hcalm:X.calm=true) (S:CompScope X scope cl Nc cap) (hfp:∀b∈fp,FpOk X pins H b) (hob:∀b∈fp,∃o,s.heap.get? b=some o) {C:Addr} {h1:Heap} {m:Str->Option Value} {tk:Nat} (hC:s.heap.objs.size<=C)
  (hn:h1.Ns C m) (keep:∀b o,s.heap.get? b=some o->h1.get? b=some o):Inv (cxComp X scope cl C Nc fp pins s H) [] (capSt Nc.length cap σ) H { s with heap:=h1,toks:=tk }:=by
 have neC:∀b o,s.heap.get? b=some o->b≠C:=fun b o e=>Nat.ne_of_lt (Nat.lt_of_lt_of_le (Heap.lt_size e) hC)
 refine⟨⟨I.ok.mod,S.kind,I.ok.glob,I.ok.blt,hC,fun x y c e1 e2=>?_,fun x hx=>S.has x hx,fun x c e1 e2=>?_,fun _=>I.ok.hd hcalm,I.ok.frames,.inl rfl,fun b hb=>⟨?_,fun x c e=>?_⟩,I.bs,Nat.le_trans I.ok.bsz I.sz,fun b o e hb=>?_,fun b hb z=>?_,I.stack,I.stkFree⟩,
  rfl,I.bare,Un.kept keep,⟨m,hn,fun j x v e1 e2 e3=>?_⟩,fun x c e=>?_,I.hok.fresh hC,fun x c e=>?_,fun p hp=>?_,I.hok.kept keep,?_⟩
 ·exact I.ok.inj x y c (S.sub x c e1).1 (S.sub y c e2).1
 ·exact absurd (beq_iff_eq.mp e1) (S.sub x c e2).2
 ·obtain⟨o,e⟩:=hob b hb;exact neC b o e
 ·exact(hfp b hb).2.2.2.2.1 x c (S.sub x c e).1
 ·rcases(hfp b hb).2.2.2.1 with z | z
  ·exact I.ok.noex b o e z
  ·exact absurd (Nat.lt_of_lt_of_le (Heap.lt_size e) (Nat.le_trans I.ok.bsz z)) (Nat.lt_irrefl _)
 ·rcases List.mem_cons.mp (I.stkSub b z) with z | z
  ·exact(hfp b hb).2.1 z
  ·exact(hfp b hb).2.2.1 z
 ·obtain⟨i,hm,hv⟩:=zn3 e2;obtain⟨x',c,q1,q2,q3,q4,q5⟩:=S.caps j i hm;have e1':Nc[j]?=some x:=e1;rw[q1] at e1';cases e1';obtain⟨mo,_,hl⟩:=I.loc;obtain⟨u,r,l⟩:=hl i x v q2 hv (.inr (.inl q4));refine⟨u,r,?_⟩;rcases l with ⟨k,_⟩ | ⟨_,c',e',z⟩
  ·have k':X.env.scope.names.lookup x=some .local:=k;rw[q4] at k';cases k'
  ·have:c'=c:=Option.some.inj (e'.symm.trans (S.sub x c q3).1)
   subst this;obtain⟨o,ho,hd⟩:=z;exact .inr ⟨.inl q5,c',q3,⟨o,keep _ _ ho,hd⟩⟩
 ·obtain⟨v,o,ho,hd⟩:=I.cell x c (S.sub x c e).1;exact⟨v,o,keep _ _ ho,hd⟩
 ·exact I.freeC x c (S.sub x c e).1
 ·have hp':p∈X.pn++pins:=by
   have z:p∈(X.pn++pins)++[]:=hp;rw[List.append_nil] at z;exact z
  obtain⟨e,n,ne,nf,d⟩:=I.pin p hp';refine⟨keep _ _ e,n,neC _ _ e,fun z=>?_,d⟩;rcases List.mem_cons.mp (I.stkSub p.1 z) with z | z
  ·exact ne z
  ·exact nf z
 ·show(capSt Nc.length cap σ).length=Nc.length;unfold capSt;rw[List.length_map,List.length_range]
theorem zmz(I:Inv X pins σ H s)(hfp:∀b∈fp,FpOk X pins H b){C:Addr}{σc:St}{H':Hp}{s':Shared}{h':Heap}(J:Inv (cxComp X scope cl C Nc fp pins s H) [] σc H' s')(hs:Heap.SameBut C s'.heap h'):Inv X pins σ H' { s' with heap:=h' }:=by
 have hC:s.heap.objs.size<=C:=J.ok.above;have neC:∀b o,s.heap.get? b=some o->b≠C:=fun b o e=>Nat.ne_of_lt (Nat.lt_of_lt_of_le (Heap.lt_size e) hC)
 have u:=J.base;refine I.call' (s':={ s' with heap:=h' }) (ch:=fp) J.os ⟨fun b o e n hb hx=>?_,fun b o e n hb hx=>?_,u.free,fun b o e hx=>?_,u.tups,u.frzs,u.tbls⟩ (fun b o e=>?_) J.bare fun b hb=>⟨(hfp b hb).2.2.2.1,(hfp b hb).2.1,(hfp b hb).2.2.2.2.1,(hfp b hb).2.2.2.2.2⟩
 ·exact(hs.2 b (neC b o e)).trans (u.keep b o e n hb hx)
 ·obtain⟨sl,q⟩:=u.slot b o e n hb hx;exact⟨sl,(hs.2 b (neC b o e)).trans q⟩
 ·obtain⟨o',q⟩:=u.there b o e hx;exact⟨o',(hs.2 b (neC b o e)).trans q⟩
 ·refine(J.hok b o e).stay (fun c v hc q=>(hs.2 c ?_).trans q) (fun _ q=>q) fun _ _ q=>q
  intro z;subst z;have fr:H' c=none:=J.free;rcases hc with hc | hc
  ·rw[hc] at fr; rw[fr] at e; cases e
  ·rw[fr] at hc; cases hc
end
def tComp(n:Nat)(cap:List (Nat×Nat))(wi:TI)(g:TG)(te:TE):TE:=fun σ H Q=>wi σ H fun J H1=>∀acc,H1 acc=none →
 ∃W:Nat->Nat->List V->St->Hp->Prop,(∃m,W 0 m [] (capSt n cap σ) (upd H1 acc (.lst [])))/\∀i m ys σc H2,W i m ys σc H2 →
  (J.stop i H2/\Q (.ref acc) H2)\/(J.go i H2/\∀x H3,J.yld i H2 x H3->g x σc H3 fun σ4 H4=>te σ4 H4 fun v H5=>H5 acc=some (.lst ys)/\ys.length<sizeLine/\∃m',m' < m/\W (i+1) m' (ys++[v]) σ4 (upd H5 acc (.lst (ys++[v]))))
def tCompF(n:Nat)(cap:List (Nat×Nat))(wi:TI)(g:TG)(tt:TT)(te:TE):TE:=fun σ H Q=>wi σ H fun J H1=>∀acc,H1 acc=none →
 ∃W:Nat->Nat->List V->St->Hp->Prop,(∃m,W 0 m [] (capSt n cap σ) (upd H1 acc (.lst [])))/\∀i m ys σc H2,W i m ys σc H2 →
  (J.stop i H2/\Q (.ref acc) H2)\/(J.go i H2/\∀x H3,J.yld i H2 x H3->g x σc H3 fun σ4 H4=>tt σ4 H4 fun ok H5=>if ok=true then (te σ4 H5 fun v H6=>H6 acc=some (.lst ys)/\ys.length<sizeLine/\∃m',m' < m/\W (i+1) m' (ys++[v]) σ4 (upd H6 acc (.lst (ys++[v])))) else ∃m',m' < m/\W (i+1) m' ys σ4 H5)
def PTs(X:Cx)(ifs:List PySem.Expr)(tt:TT):Prop:=∀(pins:List (Addr×Obj)) (s:Shared) (σ:St) (H:Hp) (Q:Bool->Hp->Prop),Inv X pins σ H s->tt σ H Q →
 wpAny (model X.prog X.w) X.A (forIn ifs true fun c r=>if r=true then do let ok <-isTrue c X.env (eval c X.env); pure (ForInStep.yield ok) else pure (ForInStep.yield r)) (fun ok s'=>∃H',Inv X pins σ H' s'/\Q ok H') X.xe s
theorem zky{X:Cx}:PTs X [] (fun _ H Q=>Q true H):=fun _ _ _ H _ I q=>wpAny_tests_nil ⟨H,I,q⟩
section
variable {prog:Program} {w:World} {A:Around} {s:Shared}
theorem zgz {elt iter tg:PySem.Expr} {ifs:List PySem.Expr} {scope:Scope} {pos:Pos} {it acc:Value} {env:Env} {R:Result->Shared->Prop} (I:Nat->Shared->Prop)
  (turn:∀n s,I n s->wpAny (model prog w) A (pyNext it) (fun r s₁=>match r with
   | none=>R (.ok .next) s₁
   | some v=>wpAny (model prog w) A (letOwnedTupleGo tg it v) (fun _ s₁'=>wpAny (model prog w) A (assign tg env v) (fun _ s₂ =>
     wpAny (model prog w) A (forIn ifs true fun c r=>if r=true then do let ok <-isTrue c env (eval c env); pure (ForInStep.yield ok) else pure (ForInStep.yield r)) (fun ok s₃=>if ok=true then
      wpAny (model prog w) A (eval elt env) (fun x s₄ =>
       wpAny (model prog w) A (call (.builtin "list.append") [acc,x]) (fun _ s₅=>∃m,m<n/\I m s₅) (fun _ _=>False) s₄) (fun _ _=>False) s₃
      else ∃m,m<n/\I m s₃) (fun _ _=>False) s₂)
     (fun _ _=>False) s₁') (fun _ _=>False) s₁) (notedBy (model prog w) A env fun e s'=>R (.error e) s') s)
  (n:Nat) (h:I n s):codeAny (model prog w) A (.compLoop (.ListComp elt [⟨tg,iter,ifs,0⟩] scope pos) 0 it acc env) R s:=by
 refine codeAny_loop rfl I (fun n s hI=>?_) n h;show wpAny _ A ((compTurn (.ListComp elt [⟨tg,iter,ifs,0⟩] scope pos) 0 it acc env).onRaise (fun x=>do noteFrame x env; theTreesLotGoes x)) _ _ s;refine wpAny_noted ?_;rw[compTurn_list];refine wpAny_bind (wpAny_standAt (wpAny_bind (wpAny_mono (turn n s hI) (fun r s₁ h₁=>?_) fun _ _ h'=>h')));cases r with
 | none=>exact wpAny_pure h₁
 | some v =>
  refine wpAny_bind (wpAny_mono h₁ (fun _ s₁' h₁'=>?_) fun _ _ h'=>False.elim h');refine wpAny_bind (wpAny_mono h₁' (fun _ s₂ h₂=>wpAny_bind (wpAny_mono h₂ (fun ok s₃ h₃=>?_) fun _ _ h'=>False.elim h')) fun _ _ h'=>False.elim h');cases ok with
  | false=>exact wpAny_pure ⟨rfl,h₃⟩
  | true =>
   exact wpAny_bind (wpAny_bind (wpAny_mono h₃ (fun x s₄ h₄=>wpAny_bind (wpAny_mono h₄ (fun _ s₅ h₅=>wpAny_pure (wpAny_pure ⟨rfl,h₅⟩)) fun _ _ h'=>False.elim h')) fun _ _ h'=>False.elim h'))
end
section
variable {X:Cx} {elt iter tg:PySem.Expr} {ifs:List PySem.Expr} {pos:Pos} {scope:Scope} {cl:List (Str×Addr)} {Nc:List Str} {cap:List (Nat×Nat)} {wi:TI} {g:TG} {tt:TT} {te:TE}
theorem zgy {pins:List (Addr×Obj)} {s:Shared} {σ:St} {H:Hp} {Q:V->Hp->Prop} {pos':Pos} {use:Option (Value->Sem Unit)} {P:Value->Shared->Prop} (hc:X.calm=true) (hi:PI X tg iter wi) (S:CompScope X scope cl Nc cap)
  (hg:∀C fp pins s H,PG (cxComp X scope cl C Nc fp pins s H) tg g) (ht:∀C fp pins s H,PTs (cxComp X scope cl C Nc fp pins s H) ifs tt) (he:∀C fp pins s H,PE (cxComp X scope cl C Nc fp pins s H) elt te)
  (hs:∀y,foldedSetIterable iter X.env y=pure y) (I:Inv X pins σ H s) (h:tCompF Nc.length cap wi g tt te σ H Q)
  (fin:∀(acc C:Addr) (H5:Hp) (s6:Shared) (m6:Str->Option Value),Inv X pins σ H5 s6->FpOk X pins H5 C->s6.heap.Ns C m6->Q (.ref acc) H5->compPost (model X.prog X.w) X.A X.xe use P (.ref acc) C (.ok .next) s6) :
  wpAny (model X.prog X.w) X.A (comprehension (.ListComp elt [⟨tg,iter,ifs,0⟩] scope pos) scope X.env pos' (newList []) false (eval iter X.env) use) P X.xe s:=by
 refine wpAny_comprehension_free (use:=use) (cl:=cl) rfl hs S.clos S.kind S.names ?_;refine thn (hi pins s σ H _ I h) fun v s1 h1=>thn h1 fun itv s2 h2=>?_
 obtain⟨it,fp,tn,J,H2,e,I2,T,st2,f2,rd⟩:=h2;subst e;refine wpAny_newObj_type ?_;have hacc:H2 s2.heap.objs.size=none:=I2.hok.fresh (Nat.le_refl _);obtain⟨W,⟨m0,w0⟩,turn⟩:=rd s2.heap.objs.size hacc;have I3:Inv X pins σ (upd H2 s2.heap.objs.size (.lst [])) { s2 with heap:=s2.heap.push { cls:=.type "list",dict:=none,data:=.seq ([]:List Value).toArray } } :=
  I2.laid (t':=s2.toks) (fun b u e=>Heap.get?_push_of_some _ e) (Nat.le_refl _) ⟨Nat.zero_le _,[],0,.nil,Heap.get?_push_size _ rfl⟩
 have st3:tn 0 (s2.heap.push { cls:=.type "list",dict:=none,data:=.seq ([]:List Value).toArray }):=T.keep _ _ _ st2 fun b _ o e=>Heap.get?_push_of_some _ e
 have f3:∀b∈fp,FpOk X pins (upd H2 s2.heap.objs.size (.lst [])) b:=fun b hb=>by
  obtain⟨o,e,_⟩:=T.obj _ _ st2 b hb;refine⟨?_,(f2 b hb).2⟩;rw[upd_ne (Nat.ne_of_lt (Heap.lt_size e))];exact(f2 b hb).1
 generalize hh3:s2.heap.push { cls:=.type "list",dict:=none,data:=.seq ([]:List Value).toArray }=h3 at I3 st3 ⊢;generalize hH3:upd H2 s2.heap.objs.size (.lst [])=H3 at I3 f3 w0;generalize s2.heap.objs.size=acc at *;refine wpAny_newFunctionEnv S.nocell (by intro y hy; simp at hy) (fun h4 hns hsb=>?_) S.kind;dsimp only at hns hsb ⊢;have keep:∀b o,h3.get? b=some o->h4.get? b=some o:=fun b o e=>hsb.extBut b o (Nat.ne_of_lt (Heap.lt_size e)) (Heap.get?_push_of_some _ e)
 have f0:∀b∈fp,∃o,h3.get? b=some o:=fun b hb=>by
  obtain⟨o,e,_⟩:=T.obj _ _ st3 b hb;exact⟨o,e⟩
 have I4:=zoy (tk:=s2.toks+([]:List (Str×Value)).length) I3 hc S f3 f0 (C:=h3.objs.size) (Nat.le_refl _) hns keep;have st4:tn 0 h4:=T.keep _ _ _ st3 fun b _ o e=>keep b o e
 have stat:∀{H':Hp},(∀b∈fp,H' b=none)->∀b∈fp,FpOk (cxComp X scope cl h3.objs.size Nc fp pins { s2 with heap:=h3 } H3) [] H' b:=fun hn b hb=>by
  obtain⟨o,e⟩:=f0 b hb;refine⟨hn b hb,Nat.ne_of_lt (Heap.lt_size e),I4.ok.exfs b hb,.inl hb,fun x c q=>(f3 b hb).2.2.2.2.1 x c (S.sub x c q).1,fun p hp=>?_⟩;have z:p∈(X.pn++pins)++[]:=hp;rw[List.append_nil] at z;exact(f3 b hb).2.2.2.2.2 p z
 have loop:codeAny (model X.prog X.w) X.A (.compLoop (.ListComp elt [⟨tg,iter,ifs,0⟩] scope pos) 0 (.ref it) (.ref acc) (compEnvC scope cl h3.objs.size X.env)) (compPost (model X.prog X.w) X.A X.xe use P (.ref acc) h3.objs.size)
   { s2 with heap:=h4,toks:=s2.toks+([]:List (Str×Value)).length }:=by
  refine zgz (fun n s'=>∃i ys σ' H',Inv (cxComp X scope cl h3.objs.size Nc fp pins { s2 with heap:=h3 } H3) [] σ' H' s'/\tn i s'.heap/\(∀b∈fp,H' b=none)/\W i n ys σ' H') ?_ m0 ⟨0,[],_,H3,I4,st4,fun b hb=>(f3 b hb).1,w0⟩;rintro n s5 ⟨i,ys,σ5,H5,I5,st5,fr5,w5⟩;rcases turn i n ys σ5 H5 w5 with ⟨stop,qn⟩ | ⟨go,step⟩
  ·refine thn (T.done (cxComp X scope cl h3.objs.size Nc fp pins { s2 with heap:=h3 } H3) rfl rfl rfl rfl i [] s5 σ5 H5 _ I5 (stat fr5) st5 stop) fun r s6 ⟨hr,I6⟩=>?_
   subst hr;obtain⟨m6,hn6,_⟩:=id I6.loc;exact fin acc _ H5 s6 m6 (zmz (h':=s6.heap) I3 f3 I6 ⟨rfl,fun _ _=>rfl⟩) (I3.fpOk (Nat.le_refl _) I6.free) hn6 qn
  ·refine wpAny_mono (T.item (cxComp X scope cl h3.objs.size Nc fp pins { s2 with heap:=h3 } H3) rfl rfl rfl rfl i [] s5 σ5 H5 (fun _ _=>False) I5 (stat fr5) st5 go) (fun r s6 ⟨u,hr,h6⟩=>?_) fun _ _ z=>False.elim z
   subst hr;refine thn h6 fun _ s7 ⟨y,H7,I7,r7,y7,st7,fr7⟩=>?_
   have I7':=I7.pinned (stat fr7) (T.obj _ _ st7);have kp:∀{σ8:St} {H8:Hp} {s8:Shared},Inv (cxComp X scope cl h3.objs.size Nc fp pins { s2 with heap:=h3 } H3) ([]++pinsAt fp s7.heap) σ8 H8 s8->tn (i+1) s8.heap/\∀b∈fp,H8 b=none:=fun {σ8 H8 s8} I8 =>
    ⟨T.keep _ _ _ st7 fun b hb o e=>(I8.pin (b,o) (List.mem_append_right _ (List.mem_append_right _ (zdb hb e)))).1,fun b hb=>by
     obtain⟨o,e,d⟩:=T.obj _ _ st7 b hb;exact(I8.pin (b,o) (List.mem_append_right _ (List.mem_append_right _ (zdb hb e)))).2.1⟩
   refine thn (hg _ _ _ _ _ _ s7 σ5 H7 y u _ I7' r7 (step y H7 y7)) fun _ s8 ⟨σ8,H8,I8,q8⟩=>?_
   refine thn (ht _ _ _ _ _ _ s8 σ8 H8 _ I8 q8) fun ok s9 ⟨H9,I9,q9⟩=>?_
   cases ok with
   | false =>
    rw[if_neg Bool.false_ne_true] at q9 ⊢;obtain⟨m',hm,w'⟩:=q9;obtain⟨st9,fr9⟩:=kp I9;exact⟨m',hm,i+1,ys,σ8,H9,I9.unpinned,st9,fr9,w'⟩
   | true =>
    rw[if_pos rfl] at q9 ⊢;refine thn (he _ _ _ _ _ _ s9 σ8 H9 _ I9 q9) fun w10 s10 ⟨v10,H10,I10,r10,e10,l10,m',hm,q10⟩=>?_
    refine thn (zcq _ s10 σ8 H10 (.ref acc) [v10] (.ref acc) [w10] (fun _ H11=>W (i+1) m' (ys++[v10]) σ8 H11) I10 rfl (.cons r10 .nil) ⟨acc,ys,v10,rfl,rfl,e10,l10,q10⟩) fun _ s11 ⟨_,H11,I11,_,q11⟩=>?_
    obtain⟨st11,fr11⟩:=kp I11;exact⟨m',hm,i+1,ys++[v10],σ8,H11,I11.unpinned,st11,fr11,q11⟩
 exact codeAny_compStart_list loop (T.self _ 0 _ _ _ st4 loop)
theorem zo9 (hc:X.calm=true) (hi:PI X tg iter wi) (S:CompScope X scope cl Nc cap)
  (hg:∀C fp pins s H,PG (cxComp X scope cl C Nc fp pins s H) tg g) (ht:∀C fp pins s H,PTs (cxComp X scope cl C Nc fp pins s H) ifs tt) (he:∀C fp pins s H,PE (cxComp X scope cl C Nc fp pins s H) elt te)
  (hs:∀y,foldedSetIterable iter X.env y=pure y:=by intro _; rfl):PE X (.ListComp elt [⟨tg,iter,ifs,0⟩] scope pos) (tCompF Nc.length cap wi g tt te):=by
 intro pins s σ H Q I h;rw[eval_ListComp];exact zgy (use:=none) hc hi S hg ht he hs I h fun acc C H5 s6 m6 back fpC hn qn=>⟨m6,hn,fun h7 hs7=>⟨.ref acc,H5,back.turned (t':=s6.toks) (fun b o hb q=>(hs7.2 b hb).trans q) fpC.1 fpC.2.1 fpC.2.2.2.1 fpC.2.2.2.2.1 fpC.2.2.2.2.2,rfl,qn⟩⟩
theorem zf9{n:Nat}:tCompF n cap wi g (fun _ H Q=>Q true H) te=tComp n cap wi g te:=by
 unfold tCompF tComp;simp only[if_true]
theorem zd1 (hc:X.calm=true) (hi:PI X tg iter wi) (S:CompScope X scope cl Nc cap)
  (hg:∀C fp pins s H,PG (cxComp X scope cl C Nc fp pins s H) tg g) (he:∀C fp pins s H,PE (cxComp X scope cl C Nc fp pins s H) elt te)
  (hs:∀y,foldedSetIterable iter X.env y=pure y:=by intro _; rfl):PE X (.ListComp elt [⟨tg,iter,[],0⟩] scope pos) (tComp Nc.length cap wi g te) :=
 zf9 ▸ zo9 (ifs:=[]) (pos:=pos) hc hi S hg (fun _ _ _ _ _=>zky) he hs
theorem zhl {i:Nat} {y:Str} {py spos:Pos} (hN:X.N.Nodup) (hiN:X.N[i]?=some y) (hy:Loc X.env.scope y)
  (hc:X.calm=true) (hi:PI X tg iter wi) (S:CompScope X scope cl Nc cap)
  (hg:∀C fp pins s H,PG (cxComp X scope cl C Nc fp pins s H) tg g) (ht:∀C fp pins s H,PTs (cxComp X scope cl C Nc fp pins s H) ifs tt) (he:∀C fp pins s H,PE (cxComp X scope cl C Nc fp pins s H) elt te)
  (hsw:swapsWith (.ListComp elt [⟨tg,iter,ifs,0⟩] scope pos) (some (.Name y py)) spos.line X.env=pure true:=by rfl) (hs:∀z,foldedSetIterable iter X.env z=pure z:=by intro _; rfl)
  (hf:X.fn y=true\/X.env.scope.names.lookup y=some .local:=by first | exact .inl rfl | exact .inr rfl | assumption) :
  PS X (.Assign [.Name y py] (.ListComp elt [⟨tg,iter,ifs,0⟩] scope pos) spos) (tAsg (tCompF Nc.length cap wi g tt te) (gName i)):=by
 intro pins s σ H D I h;rw[exec_Assign_Name_used _ _ _ _ hsw];refine wpAny_bind (wpAny_standAt (wpAny_bind ?_));show wpAny _ X.A (do let _ <-comprehension (.ListComp elt [⟨tg,iter,ifs,0⟩] scope pos) scope X.env _ (newList []) false (eval iter X.env) (some (assign (.Name y py) X.env))) _ _ s;refine wpAny_bind (wpAny_mono (zgy (use:=some (assign (.Name y py) X.env)) (P:=fun _ s'=>SP X pins D .next s') hc hi S hg ht he hs I h fun acc C H5 s6 m6 back fpC hn6 qn=>?_) (fun _ s' hq=>wpAny_pure (wpAny_pure hq)) fun _ _ e=>e);show wpAny (model X.prog X.w) X.A (assign (.Name y py) X.env (.ref acc)) _ X.xe s6;refine wpAny_assign_Name (zg9 (v:=.ref acc) back hN hiN hy rfl (fun s7 I7 ⟨a7,sb7,e7⟩=>?_) hf);have nC:C≠a7:=by
  rcases e7 with e7 | e7
  ·rw[e7]; exact fpC.2.1
  ·exact Ne.symm (fpC.2.2.2.2.1 _ _ e7)
 refine⟨m6,hn6.sameBut sb7 nC,fun h8 hs8=>⟨_,H5,?_,qn⟩⟩;exact I7.turned (t':=s7.toks) (fun b o hb q=>(hs8.2 b hb).trans q) fpC.1 fpC.2.1 fpC.2.2.2.1 fpC.2.2.2.2.1 fpC.2.2.2.2.2
theorem zbx {i:Nat} {y:Str} {py spos:Pos} (hN:X.N.Nodup) (hiN:X.N[i]?=some y) (hy:Loc X.env.scope y)
  (hc:X.calm=true) (hi:PI X tg iter wi) (S:CompScope X scope cl Nc cap)
  (hg:∀C fp pins s H,PG (cxComp X scope cl C Nc fp pins s H) tg g) (he:∀C fp pins s H,PE (cxComp X scope cl C Nc fp pins s H) elt te)
  (hsw:swapsWith (.ListComp elt [⟨tg,iter,[],0⟩] scope pos) (some (.Name y py)) spos.line X.env=pure true:=by rfl) (hs:∀z,foldedSetIterable iter X.env z=pure z:=by intro _; rfl)
  (hf:X.fn y=true\/X.env.scope.names.lookup y=some .local:=by first | exact .inl rfl | exact .inr rfl | assumption) :
  PS X (.Assign [.Name y py] (.ListComp elt [⟨tg,iter,[],0⟩] scope pos) spos) (tAsg (tComp Nc.length cap wi g te) (gName i)) :=
 zf9 ▸ zhl (ifs:=[]) hN hiN hy hc hi S hg (fun _ _ _ _ _=>zky) he hsw hs hf
end
section
variable {X:Cx}
def Big(i:Int):Prop:=i.natAbs<2 ^ 8000
theorem zng{i:Int}(h:Big i):i.natAbs.log2<8000:=by
 by_cases z:i.natAbs=0
 ·rw[z]; decide
 ·exact(Nat.log2_lt z).mpr h
theorem zjc{i:Int}(h:Big i):Builtin.Int.intBits i<=8001:=by
 have:=zng h
 unfold Builtin.Int.intBits;split <;> omega
def CMulB(i j:Int):Prop:=Big i/\Big j
theorem zdv:OpR X (binaryOp .Mult) (rI CMulB fun i j=>.int (i*j)):=opI fun _ _ _ _ _ _ _ hc q=>mul_int q (IntMulOk.of_bits (Nat.le_trans (zjc hc.1) (by decide)) (Nat.le_trans (zjc hc.2) (by decide)))
def CDivB(_ j:Int):Prop:=j≠0/\Big j
theorem zda:OpR X (binaryOp .FloorDiv) (rI CDivB fun i j=>.int (i.fdiv j)):=opI fun _ _ _ _ _ _ _ hc q=>floordiv_int hc.1 q (.inl (PyProof.noPylong_of_log2 (by have:=zng hc.2; omega)))
end
theorem zcu:bootBuiltins "isinstance" = some (.builtin "isinstance"):=by decide +kernel
theorem zct:bootBuiltins "tuple" = some (.type "tuple"):=by decide +kernel
theorem bt_all:bootBuiltins "all" = some (.builtin "all"):=by decide +kernel
theorem zc4:bootBuiltins "len" = some (.builtin "len"):=by decide +kernel
theorem bt_abs:bootBuiltins "abs" = some (.builtin "abs"):=by decide +kernel
theorem zja:bootBuiltins "max" = some (.builtin "max"):=by decide +kernel
theorem zh4:bootBuiltins "min" = some (.builtin "min"):=by decide +kernel
section
variable {X:Cx}
end
end L2
namespace L2
open PySem PySem.Spec PyProof.Rows PySem.W
abbrev excD(C t:Addr)(od:Option Addr):Obj:={ cls:=.ref C,dict:=od,data:=.fields #[.ref t,.none,.none,.none,.bool false,.none] }
section
variable {M:Model} {A:Around} {E:Value->Shared->Prop} {env:Env} {nm qn:Str} {C N:Addr} {bs tl:List Value} {hdct:Bool} {sn:List Str} {sub:List Value} {ab:Bool} {col:Option Bool} {dd:Option Addr} {k0 k1 k2 k3 k5:Option Value} {newId:String}
abbrev ClsE(nm qn:Str)(C N:Addr)(bs tl:List Value)(hdct:Bool)(sn:List Str)(sub:List Value)(ab:Bool)(col:Option Bool)(dd:Option Addr)(k0 k1 k2 k3 k5:Option Value)(newId:String):Obj:=excClassObj nm qn C N bs tl hdct sn sub ab col dd k0 k1 k2 k3 k5 newId
theorem zhi {s:Shared} {x:Sem Value} {Q:Flow->Shared->Prop} (hb:tl.contains (.type "BaseException")=true) (hh:A.handled=none)
  (h:wpAny M A x (fun v s1=>∃e t od,v=.ref e/\s1.heap.get? C=some (ClsE nm qn C N bs tl hdct sn sub ab col dd k0 k1 k2 k3 k5 newId)/\s1.heap.get? e=some (excD C t od)/\E (.ref e) s1) E s) :
  wpAny M A (raiseStmt env (some x) none) Q E s:=by
 have hcB:(Value.ref C :: tl).contains (.type "BaseException")=true:=by rw[List.contains_cons,hb]; exact Bool.or_true _
 unfold raiseStmt;refine wpAny_bind (wpAny_mono h (fun v s1 hv=>?_) fun _ _ z=>z);obtain⟨e,t,od,rfl,hC,he,hE⟩:=hv;obtain⟨hp,g,d,tk,os⟩:=s1
 repeat (first | with_reducible refine wpAny_loadPart_at he ?_ | with_reducible refine wpAny_loadPart_at hC ?_ | (with_reducible refine wpAny_isSubtype_exc hC ?_; rw[hcB]) | wp_step)
 exact wpAny_raiseNew_none hh hE
end
section
variable {prog:Program} {w:World} {A:Around} {E:Value->Shared->Prop} {s:Shared} {env:Env} {nm qn:Str} {C N:Addr} {bs tl bmB:List Value} {hdct:Bool} {sn:List Str} {sub:List Value} {ab:Bool} {col:Option Bool} {dd:Option Addr} {k0 k1 k2 k3 k5:Option Value} {B newId initId:String}
theorem zjh (F:ExcBaseFacts B newId initId bmB) (T:OwnTail s.heap bmB tl) {mN:Str->Option Value} {rest:List Value} {fI:Addr} {oI:Obj} {Q:Fin->Shared->Prop}
  (hC:s.heap.get? C=some (ClsE nm qn C N bs tl hdct sn sub ab col dd k0 k1 k2 k3 k5 newId)) (hn:s.heap.Ns N mN) (hi:mN "__init__" = some (.ref fI)) (hfI:s.heap.get? fI=some oI) (hfc:oI.cls=.type "function")
  (hq:∀h' e t,Heap.MadeExcOf s.heap h' e (.ref C) rest->h'.get? e=some (excD C t none) →
   wpAny (model prog w) A (call (.ref fI) (.ref e :: rest)) (fun r s'=>r=.none/\Q (.done (.ret (.ref e))) s') E { s with heap:=h' }) (hrest:rest.length<=sizeLine) :
  wpAny (model prog w) A (Builtin.«type.__call__» ⟨.ref C :: rest,[]⟩) Q E s:=by
 obtain⟨h,g,d,t,os⟩:=s;dsimp only at T hC hn hfI hq
 repeat (first | with_reducible refine wpAny_loadPart_at hC ?_ | with_reducible refine wpAny_madeBy_exc hC ?_ | wp_step)
 refine codeAny_call_builtin_code (Code.quiet_builtin _ F.quiet) (wpAny_check_new_subT F T hC (codeAny_exc_new_subT F T hC ?_ hrest));obtain⟨h2,eh2⟩:∃h2,h2=(h.push { cls:=.type "tuple",data:=.seq rest.toArray }).push (excD C h.objs.size none):=⟨_,rfl⟩;have kp:∀b o,h.get? b=some o->h2.get? b=some o:=fun b o e=>by rw[eh2]; exact Heap.get?_push_of_some _ (Heap.get?_push_of_some _ e)
 have hget:h2.get? (h.objs.size+1)=some (excD C h.objs.size none):=by rw[eh2]; heap_get
 have htup:h2.get? h.objs.size=some { cls:=.type "tuple",data:=.seq rest.toArray }:=by rw[eh2]; exact Heap.get?_push_of_some _ (Heap.get?_push_at rfl rfl)
 show wpAny _ _ _ _ _ ⟨(h.push { cls:=.type "tuple",data:=.seq rest.toArray }).push (excD C h.objs.size none),g,d,t,os⟩;rw[<-eh2];clear eh2;have hC2:=kp _ _ hC;have hn2:=hn.keeps kp;have hcC:(Value.ref C :: tl).contains (.ref C)=true:=by simp
 unfold isInstance
 repeat (first | with_reducible refine wpAny_loadPart_at hget ?_ | (with_reducible refine wpAny_isSubtype_exc hC2 ?_; rw[hcC]) | wp_step)
 show wpAny _ _ (typeLookup (.ref C) _) _ _ _;refine wpAny_typeLookup_tail hC2 hn2 (T.keeps kp) F.mroIs F.init.lookup ?_;rw[hi];refine wpAny_holding (wpAny_bind ?_);unfold bindSpecial;refine wpAny_bind (wpAny_typeOf (T:="function") ⟨_,kp _ _ hfI,hfc⟩ ?_);rw[if_pos (by decide)];refine wpAny_pure (wpAny_bind (wpAny_mono (hq h2 (h.objs.size+1) h.objs.size ⟨kp,Heap.get?_none_of_le (Nat.le_succ _),h.objs.size,hget,Heap.get?_none_of_le (Nat.le_refl _),htup⟩ hget) (fun r s' hr=>?_) fun _ _ x=>x));obtain⟨rfl,hQ⟩:=hr
 wp_walk
 exact hQ
theorem zn6 (F:ExcBaseFacts B newId initId bmB) (T:OwnTail s.heap bmB tl) {mN:Str->Option Value} {rest:List Value} {fI:Addr} {oI:Obj} {Q:Value->Shared->Prop}
  (hC:s.heap.get? C=some (ClsE nm qn C N bs tl hdct sn sub ab col dd k0 k1 k2 k3 k5 newId)) (hn:s.heap.Ns N mN) (hi:mN "__init__" = some (.ref fI)) (hfI:s.heap.get? fI=some oI) (hfc:oI.cls=.type "function")
  (hq:∀h' e t,Heap.MadeExcOf s.heap h' e (.ref C) rest->h'.get? e=some (excD C t none) →
   wpAny (model prog w) (A.under (.builtin "type.__call__" ⟨.ref C :: rest,[]⟩)) (call (.ref fI) (.ref e :: rest)) (fun r s'=>r=.none/\Q (.ref e) s') E { s with heap:=h' }) (hrest:rest.length<=sizeLine) :
  wpAny (model prog w) A (call (.ref C) rest) Q E s:=by
 obtain⟨h,g,d,t,os⟩:=s;dsimp only at T hC hn hfI hq;have f1:=tc_lookup;have f2:=tc_bind (.ref C);have hT:(⟨h,g,d,t,os⟩:Shared).TypeIs (.ref C) "type":=⟨_,hC,rfl⟩;refine wpAny_call (codeAny_of_tree ?_);show wpAny _ _ (callAny (.ref C) _) _ _ _
 repeat (any_goals (first | assumption | with_reducible refine wpAny_loadPart_at hC ?_ | wp_step))
 refine⟨rfl,codeAny_call_builtin_at (Code.quiet_builtin _ (by decide +kernel)) entry_typeCall (wpAny_check_type_call_sub hC (zjh F T hC hn hi hfI hfc (fun h' e t' hm ht=>?_) hrest))⟩;exact hq h' e t' hm ht
theorem zhj (F:ExcBaseFacts B newId initId bmB) {mN:Str->Option Value} {x:Str} {np cpos pos:Pos} {args:List PySem.Expr} {fI:Addr} {oI:Obj} {Q:Flow->Shared->Prop} (hb:tl.contains (.type "BaseException")=true) (hh:A.handled=none)
  (hpl:(backTo cpos (starEach args env)).any (·.1)=false) (hi:mN "__init__" = some (.ref fI)) (hfc:oI.cls=.type "function")
  (h:wpAny (model prog w) A (eval (.Name x np) env) (fun f s1=>f=.ref C/\wpAny (model prog w) A (evalArgs (.ref C) true (backTo cpos (starEach args env)) [])
   (fun a s2=>a.kw=[]/\a.pos.length<=sizeLine/\s2.heap.get? C=some (ClsE nm qn C N bs tl hdct sn sub ab col dd k0 k1 k2 k3 k5 newId)/\s2.heap.Ns N mN/\OwnTail s2.heap bmB tl/\s2.heap.get? fI=some oI /\
    ∀h' e t,Heap.MadeExcOf s2.heap h' e (.ref C) a.pos->h'.get? e=some (excD C t none) →
     wpAny (model prog w) (A.under (.builtin "type.__call__" ⟨.ref C :: a.pos,[]⟩)) (call (.ref fI) (.ref e :: a.pos)) (fun r s'=>r=.none/\(∃od,s'.heap.get? e=some (excD C t od))/\s'.heap.get? C=some (ClsE nm qn C N bs tl hdct sn sub ab col dd k0 k1 k2 k3 k5 newId)/\E (.ref e) s') E { s2 with heap:=h' }) E s1) E s) :
  wpAny (model prog w) A (exec (.Raise (some (.Call (.Name x np) args [] cpos)) none pos) env) Q E s:=by
 rw[arm_exec_Raise];refine wpAny_bind (wpAny_standAt (zhi (C:=C) (nm:=nm) (qn:=qn) (N:=N) (bs:=bs) (tl:=tl) (hdct:=hdct) (sn:=sn) (sub:=sub) (ab:=ab) (col:=col) (dd:=dd) (k0:=k0) (k1:=k1) (k2:=k2) (k3:=k3) (k5:=k5) (newId:=newId) hb hh ?_));refine wpAny_bind (wpAny_mono (wpAny_Call_ofName (wpAny_mono h (fun f s1 h1=>?_) fun _ _ x=>x)) (fun v s3 h3=>wpAny_bind (wpAny_standAt (wpAny_pure h3))) fun _ _ x=>x);obtain⟨rfl,h1⟩:=h1;unfold callWith;refine wpAny_bind (wpAny_holding (wpAny_mono h1 (fun a s2 h2=>wpAny_bind (wpAny_standAt ?_)) fun _ _ x=>x));obtain⟨apos,akw⟩:=a;obtain⟨hkw,hlen,hC,hn,T,hfI,h2⟩:=h2;obtain rfl:akw=[]:=hkw;simp only[hpl];obtain⟨hp,g,d,tk,os⟩:=s2;refine wpAny_bind (wpAny_keeperOf_exc hC ?_);refine wpAny_bind (zn6 (s:=⟨hp,g,d,tk,os⟩) F T hC hn hi hfI hfc (fun h' e t hm ht=>wpAny_mono (h2 h' e t hm ht) (fun r s' hr=>⟨hr.1,wpAny_bind (wpAny_holding (wpAny_point (wpAny_pure ?_)))⟩) fun _ _ z=>z) hlen);obtain⟨_,⟨od,h4⟩,h5,h6⟩:=hr;exact⟨e,t,od,rfl,h5,h4,h6⟩
end
def exMro:List Value->Bool
 | [.type a,.type b,.type c,.type d]=>a == "ValueError" && b == "Exception" && c == "BaseException" && d == "object"
 | .ref _ :: r=>exMro r
 | _=>false
def exIn(K:Frag)(C:Addr):Bool:=(clsIn K C).any fun cd=>cd.hasDict && exMro cd.mro
theorem zfl:∀{l:List Value},exMro l=true->(∀self,refuseLoop self "__setattr__" l=pure ())/\l.contains (.type "object")=true/\l.isEmpty=false
 | [.type a,.type b,.type c,.type d],e=>by
  have e':(a == "ValueError" && b == "Exception" && c == "BaseException" && d == "object")=true:=e;simp only[Bool.and_eq_true,beq_iff_eq] at e';obtain⟨⟨⟨rfl,rfl⟩,rfl⟩,rfl⟩:=e';exact⟨PySem.F.store_ValueError.passes,by decide,rfl⟩
 | .ref c :: r,e=>by
  have e':exMro r=true:=by
   unfold exMro at e;exact e
  obtain⟨h1,h2,_⟩:=zfl (l:=r) e';exact⟨fun self=>by rw[refuseLoop_ref]; exact h1 self,by rw[List.contains_cons,h2,Bool.or_true],rfl⟩
section
variable {prog:Program} {w:World} {A:Around} {E:Value->Shared->Prop} {s:Shared} {K:Frag} {x C:Addr} {ox:Obj} {name:Str} {v:Value}
theorem xset {Q:Unit->Shared->Prop} (X:K.In s.heap) (hx:s.heap.get? x=some ox) (hcl:ox.cls=.ref C) (hdn:ox.dict=none) (hno:notCls ox=true)
  (hs:findIn K (.ref C) "__setattr__" = some (some (.builtin "object.__setattr__"))) (hm:exIn K C=true) (hn:findIn K (.ref C) name=some none)
  (h:∀h' d tk,s.heap.get? d=none->h'.get? x=some { ox with dict:=some d }->h'.Ns1 d (fun y=>if y=name then some v else none)->(∀b o,b≠x->s.heap.get? b=some o->h'.get? b=some o)->Q () { s with heap:=h',toks:=tk }) :
  wpAny (model prog w) A (setAttr (.ref x) name v) Q E s:=by
 have I:InstAt s.heap x ox C none:=⟨hx,hcl,hno,by rw[hdn]; trivial⟩;obtain⟨cd,hc,hcd⟩:=any_some hm;rw[Bool.and_eq_true] at hcd;obtain⟨hhd,hmro⟩:=hcd;obtain⟨m1,m2,m3⟩:=zfl hmro;have SF:=PySem.F.store_object;refine set_plain X I hs ?_;obtain⟨hp,g,d,tk,os⟩:=s;dsimp only at X hx I h ⊢;have sub:Looks (model prog w) hp (isInstance (.ref x) (.type "object")) true:=I.type.andThen (looks_mroIn X (by unfold mroIn; rw[hc,Option.bind_some,if_neg (by rw[m3]; decide),m2]));refine codeAny_call_builtin SF.slot.plain SF.entry (@check_slot (model prog w) _ _ ⟨hp,g,d,tk+1,os⟩ "object.__setattr__" "object" "__setattr__" (.ref x) [.str name tk,v] [] _ SF.kind SF.split sub (SF.args (.ref x) (.str name tk) v) ?_);have hmo:Looks (model prog w) hp (mroOf (.ref C)) cd.mro:=(looks_clsIn X hc).andThen .now;rw[osa_eq,refuse_eq];refine wpAny_bind (wpAny_bind (I.type.at (wpAny_bind (hmo.at ?_))));rw[m1];refine wpAny_pure (wpAny_bind (I.type.at (wpAny_bind ((looks_findIn X hn).at (wpAny_bind (Looks.now.at ?_))))));show wpAny _ _ (Builtin.ObjectAttr.storeInOwnDict (.ref x) (.ref C) (.str name tk) name v false) _ _ _;obtain⟨oc,od,oda,osl⟩:=ox;dsimp only at hcl hdn;subst hcl;subst hdn;refine wpAny_bind (wpAny_pure (wpAny_bind (wpAny_bind (wpAny_loadPart hx (wpAny_bind ((looks_clsIn X hc).at ?_))))));rw[hhd];have hx1:(hp.push { cls:=.type "dict",data:=.dict #[] }).get? x=some ⟨.ref C,none,oda,osl⟩:=Heap.get?_push_of_some _ hx;have hxs:x≠hp.objs.size:=Nat.ne_of_lt (Heap.lt_size hx);have hfr:=(Heap.get?_some_iff.mp hx).2;have hx2:((hp.push { cls:=.type "dict",data:=.dict #[] }).update x fun o=>{ o with dict:=some hp.objs.size }).get? x=some ⟨.ref C,some hp.objs.size,oda,osl⟩:=Heap.get?_update_self _ hx1 (by cases oda <;> first | rfl | exact hfr);have hgd:((hp.push { cls:=.type "dict",data:=.dict #[] }).update x fun o=>{ o with dict:=some hp.objs.size }).get? hp.objs.size=some { cls:=.type "dict",data:=.dict #[] }:=(Heap.get?_update_ne _ _ _ _ hxs.symm).trans (Heap.get?_push_at rfl rfl);have hko:∀b o,b≠x->hp.get? b=some o->((hp.push { cls:=.type "dict",data:=.dict #[] }).update x fun o=>{ o with dict:=some hp.objs.size }).get? b=some o:=fun b o n e=>(Heap.get?_update_ne _ _ _ _ n).trans (Heap.get?_push_of_some _ e)
 have fin:wpAny (model prog w) A.in1 (Builtin.ObjectAttr.storeInDict hp.objs.size (.str name tk) name v) (fun fin s'=>match fin with
   | .done f=>(match (Except.ok f:Result) with | .ok (.ret _)=>Q () s' | .ok _=>False | .error e=>E e s')
   | .again c'=>c'.quiet=true/\codeAny (model prog w) A c' (fun r s'=>match r with | .ok (.ret _)=>Q () s' | .ok _=>False | .error e=>E e s') s') (fun e s'=>E e s')
   ⟨(hp.push { cls:=.type "dict",data:=.dict #[] }).update x fun o=>{ o with dict:=some hp.objs.size },g,d,tk+1,os⟩:=by
  have hnd:((hp.push { cls:=.type "dict",data:=.dict #[] }).update x fun o=>{ o with dict:=some hp.objs.size }).Ns hp.objs.size (fun _=>none):=⟨_,#[],_,hgd,rfl,fun e he=>absurd he (by simp),fun _=>rfl⟩;unfold Builtin.ObjectAttr.storeInDict Builtin.ObjectAttr.newKeyGuard;refine wpAny_bind (wpAny_pure (wpAny_bind (wpAny_nsSet1 (Heap.Ns1.of_empty hnd) fun h' hn' hs=>?_)));obtain⟨oD,esD,epD,hoD,hdD,hcD⟩:=hn'.count (Within.cons name v Within.nil);refine wpAny_bind (wpAny_lookBehind hoD (by rw[hdD]; exact pastItsLine_dict (Nat.le_trans hcD (by rw[List.length_cons,List.length_nil,sizeLine_eq]; omega))) ?_);refine wpAny_pure ?_;exact h h' hp.objs.size _ (Heap.get?_none_of_le (Nat.le_refl _)) ((hs.2 x hxs).trans hx2) hn' fun b o n e=>(hs.2 b (Nat.ne_of_lt (Heap.lt_size e))).trans (hko b o n e)
 cases oda with
 | cls c=>cases hno
 | _ =>
  refine wpAny_bind (wpAny_alloc' ?_);refine wpAny_bind (wpAny_update' hx1 ?_);exact wpAny_pure fin
end
end L2
namespace L2
open PySem PySem.Spec PyProof.Rows
section
variable {X:Cx}
theorem zhd:∀{bs:List Bool} {us:List Value},Vals (bs.map V.bl) us->us=bs.map Value.bool
 | [],_,.nil=>rfl
 | b :: r,_,.cons (b:=u) h t=>by
  have h':u=Value.bool b:=h;rw[h',zhd t];rfl
def rAll(K:PySem.W.Frag):List V->Hp->VK->Prop:=fun xs H Q=>∃(p:Addr) (bs:List Bool),xs=[.ref p]/\SqL K H p (bs.map V.bl)/\Q (.bl (bs.all id)) H
theorem znm(bs:List Bool):((List.range bs.length).all fun i=>(bs[i]?).getD true)=bs.all id:=by
 rw[Bool.eq_iff_iff,List.all_eq_true,List.all_eq_true];constructor
 ·intro h b hb;obtain⟨i,hi,rfl⟩:=List.mem_iff_getElem.mp hb
  have:=h i (List.mem_range.mpr hi)
  rw[List.getElem?_eq_getElem hi] at this;exact this
 ·intro h i hi;have hl:=List.mem_range.mp hi;rw[List.getElem?_eq_getElem hl];exact h _ (List.getElem_mem hl)
theorem zn8(hc:X.calm=true):CallR X (.builtin "all") (rAll X.K):=by
 intro pins s σ H xs us Q I r h;obtain⟨p,bs,rfl,hq,q⟩:=h;obtain⟨u,rfl,r1⟩:=vals1 r;cases r1;obtain⟨its,rv,pl,hz⟩:=I.list hq;have e:=zhd rv;subst e;have hlt:p<s.heap.objs.size:=by
  obtain⟨o,_,ho,_⟩:=pl;exact Heap.lt_size ho
 refine call_all_walk (wpAny_pyIter_list pl.isList ?_);refine⟨s.heap.objs.size,_,_,_,_,_,fun i=>(bs[i]?).getD true,rfl,Walks.list (show X.A.in1.handled=none from I.ok.hd hc) _ p (Nat.ne_of_lt hlt) (bs.map Value.bool).toArray,⟨⟨_,Heap.get?_push_size _ rfl,rfl,rfl⟩,pl.isList.push _⟩,fun i v s' Q' E' hP hQ'=>?_,fun h' tk k=>?_⟩
 ·have hP:(bs.map Value.bool).toArray[i]?=some v:=hP;have hQ':Q' ((bs[i]?).getD true) s':=hQ';rw[List.getElem?_toArray,List.getElem?_map] at hP;cases e:bs[i]? with
  | none=>rw[e] at hP; cases hP
  | some b =>
   rw[e] at hP;obtain rfl:Value.bool b=v:=Option.some.inj hP;have hQ2:Q' b s':=by
    rw[e] at hQ';exact hQ'
   exact wpAny_pure hQ2
 ·refine⟨.bl (bs.all id),H,I.kept fun b o eb=>?_,?_,q⟩
  ·exact k b o (fun z=>by
    have:b=s.heap.objs.size:=by simpa using z
    exact absurd (Heap.lt_size eb) (by rw[this]; exact Nat.lt_irrefl _)) (Heap.get?_push_of_some _ eb)
  ·show Value.bool _=Value.bool _;rw[List.size_toArray,List.length_map,znm]
end
section
variable {prog:Program} {w:World} {A:Around} {E:Value->Shared->Prop} {s:Shared}
theorem zjs {c t:Addr} {k:Nat} {vs:Array Value} {y:Value} {Q:Value->Shared->Prop} (hc:s.heap.IsTupleIter c t k) (ht:s.heap.IsTuple t vs) (hy:vs[k]?=some y)
  (hQ:∀h',h'.IsTupleIter c t (k+1)->Heap.SameBut c s.heap h'->Q y { s with heap:=h' }):wpAny (model prog w) A (Builtin.SmallTypes.nextOf (.ref c)) Q E s:=by
 obtain⟨ob,e1,e2,e3⟩:=id hc;obtain⟨ot,f1,_,nt,f2⟩:=ht;unfold Builtin.SmallTypes.nextOf;refine wpAny_bind (wpAny_callSpecial?_slot (name:=Str.ofString "__next__") hc.typeIs PySem.F.slot_tuple_iterator_next (wpAny_call_entry PySem.F.slot_tuple_iterator_next hc.typeIs PySem.F.entry_tuple_iterator_next ?_ (PySem.F.args_tuple_iterator_next_1 _)));show wpAny _ _ (field (.ref c) 0 >>= _) _ _ s;refine wpAny_bind (wpAny_field e1 e3 (x:=.ref t) rfl ?_);show wpAny _ _ (if (Value.ref t == Value.none)=true then _ else _) _ _ _;rw[if_neg (show ¬((Value.ref t == Value.none)=true) by exact Bool.false_ne_true)];show wpAny _ _ (field (.ref c) 1 >>= _) _ _ s;refine wpAny_bind (wpAny_field e1 e3 (x:=.int k 0) rfl ?_);show wpAny _ _ (seqItems? (.ref t) >>= _) _ _ _;refine wpAny_bind (wpAny_seqItems f1 f2 ?_);simp only[Int.toNat_natCast,hy];refine wpAny_bind (wpAny_setField e1 e3 (by simp) (wpAny_pure ⟨y,rfl,wpAny_pure (hQ _ ?_ (Heap.SameBut.update ..))⟩));exact⟨_,Heap.get?_update_self _ e1 (Obj.isFreed_of_fields (Obj.data_mapFields e3 _)),(Obj.cls_mapFields ..).trans e2,by rw[Obj.data_mapFields e3]; simp[rawInt]⟩
theorem zlm {c t:Addr} {k:Nat} {vs:Array Value} {Q:Value->Shared->Prop} (hh:A.handled=none) (hc:s.heap.IsTupleIter c t k) (ht:s.heap.IsTuple t vs) (hy:vs[k]?=none)
  (hE:∀h' x,Heap.ExtBut c s.heap h'->(∃o,h'.get? x=some o/\o.cls=.type "StopIteration")->E (.ref x) { s with heap:=h' }):wpAny (model prog w) A (Builtin.SmallTypes.nextOf (.ref c)) Q E s:=by
 obtain⟨ob,e1,e2,e3⟩:=id hc;obtain⟨ot,f1,_,nt,f2⟩:=ht;unfold Builtin.SmallTypes.nextOf;refine wpAny_bind (wpAny_callSpecial?_slot (name:=Str.ofString "__next__") hc.typeIs PySem.F.slot_tuple_iterator_next (wpAny_call_entry PySem.F.slot_tuple_iterator_next hc.typeIs PySem.F.entry_tuple_iterator_next ?_ (PySem.F.args_tuple_iterator_next_1 _)));show wpAny _ _ (field (.ref c) 0 >>= _) _ _ s;refine wpAny_bind (wpAny_field e1 e3 (x:=.ref t) rfl ?_);show wpAny _ _ (if (Value.ref t == Value.none)=true then _ else _) _ _ _;rw[if_neg (show ¬((Value.ref t == Value.none)=true) by exact Bool.false_ne_true)];show wpAny _ _ (field (.ref c) 1 >>= _) _ _ s;refine wpAny_bind (wpAny_field e1 e3 (x:=.int k 0) rfl ?_);show wpAny _ _ (seqItems? (.ref t) >>= _) _ _ _;refine wpAny_bind (wpAny_seqItems f1 f2 ?_);simp only[Int.toNat_natCast,hy];refine wpAny_bind (wpAny_rule (wpAny_bind (wpAny_setField e1 e3 (by simp) ?_)));show wpAny _ _ (newExc (.type "StopIteration") [] >>= _) _ _ (_:Shared);refine wpAny_bind ?_;simp only[newExc,newTuple];refine wpAny_bind (wpAny_newObj_type ?_ (by size_fits)); refine wpAny_bind (m:=firstArgMember _ _) (wpAny_of_eq (a:=Value.none) (by first | rfl | (simp only[firstArgMember]; rfl)) ?_);refine wpAny_newObj_type ?_ (by size_fits); simp only[raiseNew];refine wpAny_bind (wpAny_handled ?_); first | rw[show A.in1.handled=none from hh] | rw[hh]
 refine wpAny_bind (wpAny_pure (wpAny_throw (hE _ _ (((Heap.SameBut.update ..).extBut.push _).push _) ⟨_,Heap.get?_push_size _ rfl,rfl⟩)))
theorem drawsT(hh:A.handled=none)(c t:Addr)(hne:t≠c)(vs:Array Value):
  Draws prog w A c [c,t] vs.size (fun i v=>vs[i]?=some v) (fun i h=>h.IsTupleIter c t i/\h.IsTuple t vs) where
 live:=fun _ _ st=>let ⟨o,ho,_⟩:=st.1; ⟨o,ho⟩
 frame:=fun _ _ _ st hk=>⟨let ⟨o,ho,r⟩:=st.1; ⟨o,hk c (by simp) o ho,r⟩,let ⟨o,ho,r⟩:=st.2; ⟨o,hk t (by simp) o ho,r⟩⟩
 item:=fun i s' Q' E' hi st hQ=>zjs st.1 st.2 (y:=vs[i]) (by simp[hi]) fun h' k1 k2=>hQ _ h' s'.toks (by simp[hi]) ⟨k1,st.2.extBut k2.extBut hne⟩ k2
 done:=fun s' Q' E' st hE=>zlm hh st.1 st.2 (by simp) hE
set_option maxHeartbeats 1000000 in
theorem zhw(t:Addr)(vs:Array Value)(n:Nat)(dct:Option Addr)(sl:Array (Option Value)):
  Meets (Builtin.«enumerate.__new__» ⟨[.type "enumerate",.ref t],[]⟩) (fun _ R s=>s.heap.get? t=some { cls:=.type "tuple",dict:=dct,data:=.seq vs n,slots:=sl } /\
   R (.ok (.ret (.ref (s.heap.push { cls:=.type "tuple_iterator",data:=.fields #[.ref t,.int 0 0] }).objs.size)))
    { s with heap:=(s.heap.push { cls:=.type "tuple_iterator",data:=.fields #[.ref t,.int 0 0] }).push { cls:=.type "enumerate",data:=.fields #[.none,.bool false,.ref s.heap.objs.size,rawInt 0,.none,.none] } }) :=
 .of_wp fun prog w A R s h=>by
  obtain⟨hp,g,d,tk,os⟩:=s; obtain⟨ht,h⟩:=h;have hsub:=sub_enumerate;have hT:Heap.IsTuple (Shared.heap ⟨hp,g,d,tk,os⟩) t vs:=⟨_,ht,rfl,n,rfl⟩
  wp_walk using AutoSeq1.wpAny_loadPart' ht
  refine wpAny_stack_any fun st=>wpAny_pure ?_
  split
  ·rename_i c _ _ _ _ _
   cases (c == Value.type "enumerate") <;> (wp_walk using AutoSeq1.wpAny_loadPart' ht,wpAny_pyIter_tuple hT; exact⟨_,rfl,h⟩)
  ·wp_walk using AutoSeq1.wpAny_loadPart' ht,wpAny_pyIter_tuple hT; exact⟨_,rfl,h⟩
theorem zk4 {t:Addr} {vs:Array Value} {Q:Value->Shared->Prop} (hT:s.heap.IsTuple t vs)
  (h:∀h',IsEnum h' (s.heap.objs.size+1) s.heap.objs.size 0 .none->h'.IsTupleIter s.heap.objs.size t 0->(∀b o,s.heap.get? b=some o->h'.get? b=some o)->Q (.ref (s.heap.objs.size+1)) { s with heap:=h' }) :
  wpAny (model prog w) A (call (.type "enumerate") [.ref t]) Q E s:=by
 obtain⟨⟨c,dct,dt,sl⟩,ht,hc,n,hd⟩:=hT;obtain rfl:c=.type "tuple":=hc;obtain rfl:dt=.seq vs n:=hd;refine callType_new PySem.F.called_enumerate (by decide) (PySem.F.typeCall_enumerate_1 _) (PySem.F.newCall_enumerate_1 _) (fun obj=>PySem.F.args_object_init_2 obj _) PySem.F.entry_enumerate_new (zhw t vs n dct sl) ⟨ht,?_⟩;have z:(s.heap.push { cls:=.type "tuple_iterator",data:=.fields #[.ref t,.int 0 0] }).objs.size=s.heap.objs.size+1:=Heap.size_push ..;show _/\_;rw[z];have he:IsEnum ((s.heap.push { cls:=.type "tuple_iterator",data:=.fields #[.ref t,.int 0 0] }).push { cls:=.type "enumerate",data:=.fields #[.none,.bool false,.ref s.heap.objs.size,rawInt 0,.none,.none] }) (s.heap.objs.size+1) s.heap.objs.size 0 .none:=by
  have q:=Heap.get?_push_size (s.heap.push { cls:=.type "tuple_iterator",data:=.fields #[.ref t,.int 0 0] }) (o:={ cls:=.type "enumerate",data:=.fields #[.none,.bool false,.ref s.heap.objs.size,rawInt 0,.none,.none] }) rfl;rw[z] at q;exact q
 exact⟨⟨_,he,rfl⟩,h _ he ⟨_,Heap.get?_push_of_some _ (Heap.get?_push_size _ rfl),rfl,rfl⟩ fun b o q=>Heap.get?_push_of_some _ (Heap.get?_push_of_some _ q)⟩
end
section
variable {X:Cx}
def Ite(a : Addr): It :=
  ⟨fun i H => ∃xs x, H a = some (.tup xs) /\ xs[i]? = some x,
   fun i H v H' => ∃p x, v = .ref p /\ H p = none /\ H' = upd H p (.tup [.int i, x]) /\ ∀xs, H a = some (.tup xs) → xs[i]? = some x,
   fun i H => ∃xs, H a = some (.tup xs) /\ xs.length = i⟩
theorem zkg{P:Program}{w:World}{K:PySem.W.Frag}{es:List PySem.Expr}{kk:Nat}{pos:Pos}{a e it:Addr}(hei:e≠it):
  Turn P w K (.Tuple es kk pos) (Ite a) [e,it] e (fun i h=>(∃old,IsEnum h e it ((i:Nat):Int) old)/\h.IsTupleIter it a i) where
 mem:=by simp
 obj:=fun i h st c hc=>by
  obtain⟨⟨old,h1⟩,o2,h2,_,d2⟩:=st;simp only[List.mem_cons,List.not_mem_nil,or_false] at hc;rcases hc with rfl | rfl
  ·exact⟨_,h1,fun v z=>by have z':Data.fields _=Data.cell v:=z; cases z'⟩
  ·exact⟨_,h2,fun v z=>by rw[d2] at z; cases z⟩
 keep:=fun i h h' st k=>by
  obtain⟨⟨old,h1⟩,o2,h2,r⟩:=st;exact⟨⟨old,k e (by simp) _ h1⟩,o2,k it (by simp) _ h2,r⟩
 item:=by
  intro X hP hw hK hc i pins s σ H E I hf st hg;subst hP hw hK;obtain⟨xs,x,qa,hx⟩:=hg;obtain⟨its,rv,pa,_⟩:=I.tuple (SqT.of (K:=X.K) qa);obtain⟨ux,hux,rx⟩:=rv.get hx;obtain⟨⟨old,h1⟩,h2⟩:=st;have nea:e≠a:=fun z=>by
   have:=(hf e (by simp)).1
   rw[z,qa] at this;cases this
  have nia:a≠it:=fun z=>by
   have:=(hf it (by simp)).1
   rw[<-z,qa] at this;cases this
  have hlt:i<its.toArray.size:=by
   rw[List.size_toArray];exact(List.getElem?_eq_some_iff.mp hux).1
  have D:Draws X.prog X.w X.A.in1 it [it,a] its.toArray.size (fun i v=>its.toArray[i]?=some v) (fun i h=>h.IsTupleIter it a i/\h.IsTuple a its.toArray):=drawsT (show X.A.in1.handled=none from I.ok.hd hc) it a nia its.toArray;refine wpAny_pyNext_enum_itemD D h1 ⟨h2,pa⟩ hlt hei (by simp[hei,nea]) fun y h' tk hy a1 a2 a3 a4 k=>?_
  have hyx:y=ux:=by
   have q1:its.toArray[i]?=some y:=hy;rw[List.getElem?_toArray,hux] at q1;exact(Option.some.inj q1).symm
  subst hyx;refine⟨_,rfl,wpAny_letOwnedTupleGo_enum a1 fun h'' b1 sb=>?_⟩;have sb:Heap.SameBut e h' h'':=sb;have hse:s.heap.objs.size≠e:=Nat.ne_of_gt (Heap.lt_size h1);have hsi:s.heap.objs.size≠it:=by
   obtain⟨o,g,_⟩:=id h2;exact Nat.ne_of_gt (Heap.lt_size g)
  have hn:H s.heap.objs.size=none:=I.hok.fresh (Nat.le_refl _);have kk':∀c o,c∉[e,it]->s.heap.get? c=some o->h''.get? c=some o:=fun c o hc q =>
   (sb.2 c fun z=>hc (by simp[z])).trans (k c o (fun z=>hc (by simp[z])) (fun z=>hc (by simp[z])) q)
  have tO:h''.get? s.heap.objs.size=some { cls:=.type "tuple",data:=.seq #[.int i tk,y] }:=(sb.2 _ hse).trans a3;have nt:∀c u,H c=some u->c∉[e,it]:=fun c u q hc=>by
   have:=(hf c hc).1
   rw[q] at this;cases this
  have tupOk:ObjOk X.prog X.w (upd H s.heap.objs.size (.tup [.int i,x])) h'' s.heap.objs.size (.tup [.int i,x]) :=
   ⟨by show 2<=sizeLine; decide,[.int i tk,y],.cons ⟨tk,rfl⟩ (.cons rx .nil),⟨_,tO,rfl,_,rfl⟩,_,tO,rfl⟩
  have I1:Inv X pins σ (upd H s.heap.objs.size (.tup [.int i,x])) { s with heap:=h'',toks:=tk+1 }:=by
   refine I.step (g':=s.gens) (d':=s.drawn) (t':=tk+1) (ch:=[e,it]) (fun c hc=>⟨(hf c hc).2.2.2.1,(hf c hc).2.1,(hf c hc).2.2.2.2.1,(hf c hc).2.2.2.2.2⟩) (fun c o _ _ hc q _=>kk' c o hc q) (fun c o _ _ hc q _=>⟨o.slots,kk' c o hc q⟩)
    (fun c o _ q n=>by rw[upd_ne (Nat.ne_of_lt (Heap.lt_size q))]; exact n) (fun c o hc q=>⟨o,kk' c o hc q⟩) (fun c vs q=>by rw[upd_ne (ne_of_none q hn)]; exact q) (fun c o vs q=>by rw[upd_ne (ne_of_none q hn)]; exact q)
    (fun c ps q=>⟨#[],by rw[upd_ne (ne_of_none q hn),q]; simp⟩) (fun m hm=>?_) (fun c o q=>?_) I.bare
   ·obtain⟨o,es',ep,ho,r⟩:=hm;exact⟨o,es',ep,kk' _ o (fun q=>(hf _ q).2.1 rfl) ho,r⟩
   ·by_cases hcs:c=s.heap.objs.size
    ·subst hcs;rw[za1] at q;cases q;exact tupOk
    ·rw[upd_ne hcs] at q;refine(I.hok c o q).stay (fun d v hd z=>kk' d v ?_ z) (fun d z=>by rw[upd_ne (ne_of_none z hn)]; exact z) fun d vs z=>by rw[upd_ne (ne_of_none z hn)]; exact z
     rcases hd with hd | hd
     ·rw[hd]; exact nt c o q
     ·exact nt d _ hd
  have g2:h''.IsTupleIter it a (i+1):=by
   obtain⟨⟨o,g,r⟩,_⟩:=a2;exact⟨o,(sb.2 _ (Ne.symm hei)).trans g,r⟩
  have g1:IsEnum h'' e it (((i+1:Nat)):Int) y:=by
   have:((i+1:Nat):Int)=(i:Int)+1:=by omega
   rw[this];exact b1
  exact⟨.ref s.heap.objs.size,_,I1,rfl,⟨_,x,rfl,hn,rfl,fun xs' q=>by rw[qa] at q; cases q; exact hx⟩,⟨⟨_,g1⟩,g2⟩,fun c hc=>by
   have:c≠s.heap.objs.size:=by
    simp only[List.mem_cons,List.not_mem_nil,or_false] at hc;rcases hc with rfl | rfl
    ·exact Ne.symm hse
    ·exact Ne.symm hsi
   rw[upd_ne this];exact(hf c hc).1⟩
 done:=by
  intro X hP hw hK hc i pins s σ H E I hf st hg;subst hP hw hK;obtain⟨xs,qa,hl⟩:=hg;obtain⟨its,rv,pa,_⟩:=I.tuple (SqT.of (K:=X.K) qa);obtain⟨⟨old,h1⟩,h2⟩:=st;have nia:a≠it:=fun z=>by
   have:=(hf it (by simp)).1
   rw[<-z,qa] at this;cases this
  have D:Draws X.prog X.w X.A.in1 it [it,a] its.toArray.size (fun i v=>its.toArray[i]?=some v) (fun i h=>h.IsTupleIter it a i/\h.IsTuple a its.toArray):=drawsT (show X.A.in1.handled=none from I.ok.hd hc) it a nia its.toArray;have hi:its.toArray.size=i:=by
   rw[List.size_toArray,<-rv.length];exact hl
  obtain⟨f0,f1,f2,f3,f4,f5⟩:=hf it (by simp);refine wpAny_pyNext_enum_endD D h1 (by rw[hi]; exact⟨h2,pa⟩) fun h' k=>⟨rfl,I.turned (t':=s.toks) (fun b o hb q=>k b o hb q) f0 f1 f3 f4 f5⟩
 self:=fun _ _ _ _ _ st h=>by
  obtain⟨⟨old,h1⟩,_⟩:=st;exact wpAny_pyIter_enum h1 h
def iEnum(ta:TA):TI:=fun σ H R=>ta σ H fun vs H1=>∃a xs,vs=[.ref a]/\H1 a=some (.tup xs)/\R (Ite a) H1
theorem zho{es:List PySem.Expr}{kk:Nat}{tpos:Pos}{a:PySem.Expr}{ta:TA}{p pos:Pos}(hg:Gl X "enumerate")(hm:X.mg "enumerate" = none)(ha:PA X [a] ta)(hs:starEach [a] X.env=[(false,eval a X.env)]:=by rfl):
  PI X (.Tuple es kk tpos) (.Call (.Name "enumerate" p) [a] [] pos) (iEnum ta):=by
 intro pins s σ H R I h;refine Call_ (ze7 I hg hm PyProof.Rows.boot_enumerate (PyProof.Rows.callWith_type1 (thn (ha pos pins s σ H _ I h) fun us s1 ⟨vs,H1,I1,r1,q1⟩=>?_) hs rfl));obtain⟨la,xs,e,qa,q⟩:=q1;subst e;obtain⟨u1,rfl,ra⟩:=vals1 r1;cases ra;obtain⟨its,rv,pa,_⟩:=I1.tuple (SqT.of (K:=X.K) qa);refine zk4 pa fun h' z1 z2 zk=>wpAny_pyIter_enum z1 ?_
 have I2:Inv X pins σ H1 { s1 with heap:=h' }:=I1.kept (t':=s1.toks) zk;refine⟨s1.heap.objs.size+1,_,_,_,H1,rfl,I2,zkg (Nat.succ_ne_self _),⟨⟨_,z1⟩,z2⟩,fun c hc=>?_,q⟩;have hge:s1.heap.objs.size<=c:=by
  simp only[List.mem_cons,List.not_mem_nil,or_false] at hc;rcases hc with rfl | rfl <;> omega
 exact I1.fpOk (H':=H1) hge (I1.hok.fresh hge)
theorem zg2 {a:Addr} {xs:List V} {g:TG} {tb:TS} {D:Ends} {σ:St} {H:Hp} (Pv:Nat->St->Hp->Prop) (h0:Pv 0 σ H) (hl:∀i σ H,i<=xs.length->Pv i σ H->H a=some (.tup xs))
  (hs:∀i x σ H p,xs[i]?=some x->Pv i σ H->H p=none->g (.ref p) σ (upd H p (.tup [.int i,x])) fun σ2 H2=>tb { D with nx:=Pv (i+1),ct:=Pv (i+1),bk:=D.nx } σ2 H2) (hd:∀σ H,Pv xs.length σ H->D.nx σ H) :
  ∃W:Nat->Nat->St->Hp->Prop,(∃m,W 0 m σ H)/\∀i m σ H,W i m σ H →
   ((Ite a).stop i H/\D.nx σ H)\/((Ite a).go i H/\∃N:St->Hp->Prop,(∀σ' H',N σ' H'->∃m',m' < m/\W (i+1) m' σ' H')/\∀x H',(Ite a).yld i H x H'->g x σ H' fun σ2 H2=>tb { D with nx:=N,ct:=N,bk:=D.nx } σ2 H2):=by
 refine⟨fun i m σ H=>m=xs.length-i/\i<=xs.length/\Pv i σ H,⟨xs.length,by simp,Nat.zero_le _,h0⟩,?_⟩;rintro i m σ H ⟨rfl,hi,p⟩;have qa:=hl i σ H hi p;rcases Nat.lt_or_ge i xs.length with hlt | hge
 ·refine .inr ⟨⟨xs,xs[i],qa,by simp[hlt]⟩,Pv (i+1),fun σ' H' p'=>⟨xs.length-(i+1),by omega,rfl,hlt,p'⟩,fun v H' yl=>?_⟩;obtain⟨pa,x,rfl,hp,rfl,hx⟩:=yl;exact hs i x σ H pa (hx xs qa) p hp
 ·obtain rfl:i=xs.length:=by omega
  exact .inl ⟨⟨xs,qa,rfl⟩,hd σ H p⟩
end
section
variable {X:Cx}
def ItEl(a : Addr): It :=
  ⟨fun i H => ∃xs x, H a = some (.lst xs) /\ xs[i]? = some x,
   fun i H v H' => ∃p x, v = .ref p /\ H p = none /\ H' = upd H p (.tup [.int i, x]) /\ ∀xs, H a = some (.lst xs) → xs[i]? = some x,
   fun i H => ∃xs, H a = some (.lst xs) /\ xs.length = i⟩
theorem zjk{P:Program}{w:World}{K:PySem.W.Frag}{es:List PySem.Expr}{kk:Nat}{pos:Pos}{a e it:Addr}(hei:e≠it):
  Turn P w K (.Tuple es kk pos) (ItEl a) [e,it] e (fun i h=>(∃old,IsEnum h e it ((i:Nat):Int) old)/\h.IsListIter it a i) where
 mem:=by simp
 obj:=fun i h st c hc=>by
  obtain⟨⟨old,h1⟩,o2,h2,_,d2⟩:=st;simp only[List.mem_cons,List.not_mem_nil,or_false] at hc;rcases hc with rfl | rfl
  ·exact⟨_,h1,fun v z=>by have z':Data.fields _=Data.cell v:=z; cases z'⟩
  ·exact⟨_,h2,fun v z=>by rw[d2] at z; cases z⟩
 keep:=fun i h h' st k=>by
  obtain⟨⟨old,h1⟩,o2,h2,r⟩:=st;exact⟨⟨old,k e (by simp) _ h1⟩,o2,k it (by simp) _ h2,r⟩
 item:=by
  intro X hP hw hK hc i pins s σ H E I hf st hg;subst hP hw hK;obtain⟨xs,x,qa,hx⟩:=hg;obtain⟨its,rv,pa,_⟩:=I.list (SqL.of (K:=X.K) qa);obtain⟨ux,hux,rx⟩:=rv.get hx;obtain⟨⟨old,h1⟩,h2⟩:=st;have nea:e≠a:=fun z=>by
   have:=(hf e (by simp)).1
   rw[z,qa] at this;cases this
  have nia:a≠it:=fun z=>by
   have:=(hf it (by simp)).1
   rw[<-z,qa] at this;cases this
  have hlt:i<its.toArray.size:=by
   rw[List.size_toArray];exact(List.getElem?_eq_some_iff.mp hux).1
  have D:Draws X.prog X.w X.A.in1 it [it,a] its.toArray.size (fun i v=>its.toArray[i]?=some v) (fun i h=>h.IsListIter it a i/\h.IsList a its.toArray):=Draws.list (show X.A.in1.handled=none from I.ok.hd hc) it a nia its.toArray;refine wpAny_pyNext_enum_itemD D h1 ⟨h2,pa.isList⟩ hlt hei (by simp[hei,nea]) fun y h' tk hy a1 a2 a3 a4 k=>?_
  have hyx:y=ux:=by
   have q1:its.toArray[i]?=some y:=hy;rw[List.getElem?_toArray,hux] at q1;exact(Option.some.inj q1).symm
  subst hyx;refine⟨_,rfl,wpAny_letOwnedTupleGo_enum a1 fun h'' b1 sb=>?_⟩;have sb:Heap.SameBut e h' h'':=sb;have hse:s.heap.objs.size≠e:=Nat.ne_of_gt (Heap.lt_size h1);have hsi:s.heap.objs.size≠it:=by
   obtain⟨o,g,_⟩:=id h2;exact Nat.ne_of_gt (Heap.lt_size g)
  have hn:H s.heap.objs.size=none:=I.hok.fresh (Nat.le_refl _);have kk':∀c o,c∉[e,it]->s.heap.get? c=some o->h''.get? c=some o:=fun c o hc q =>
   (sb.2 c fun z=>hc (by simp[z])).trans (k c o (fun z=>hc (by simp[z])) (fun z=>hc (by simp[z])) q)
  have tO:h''.get? s.heap.objs.size=some { cls:=.type "tuple",data:=.seq #[.int i tk,y] }:=(sb.2 _ hse).trans a3;have nt:∀c u,H c=some u->c∉[e,it]:=fun c u q hc=>by
   have:=(hf c hc).1
   rw[q] at this;cases this
  have tupOk:ObjOk X.prog X.w (upd H s.heap.objs.size (.tup [.int i,x])) h'' s.heap.objs.size (.tup [.int i,x]) :=
   ⟨by show 2<=sizeLine; decide,[.int i tk,y],.cons ⟨tk,rfl⟩ (.cons rx .nil),⟨_,tO,rfl,_,rfl⟩,_,tO,rfl⟩
  have I1:Inv X pins σ (upd H s.heap.objs.size (.tup [.int i,x])) { s with heap:=h'',toks:=tk+1 }:=by
   refine I.step (g':=s.gens) (d':=s.drawn) (t':=tk+1) (ch:=[e,it]) (fun c hc=>⟨(hf c hc).2.2.2.1,(hf c hc).2.1,(hf c hc).2.2.2.2.1,(hf c hc).2.2.2.2.2⟩) (fun c o _ _ hc q _=>kk' c o hc q) (fun c o _ _ hc q _=>⟨o.slots,kk' c o hc q⟩)
    (fun c o _ q n=>by rw[upd_ne (Nat.ne_of_lt (Heap.lt_size q))]; exact n) (fun c o hc q=>⟨o,kk' c o hc q⟩) (fun c vs q=>by rw[upd_ne (ne_of_none q hn)]; exact q) (fun c o vs q=>by rw[upd_ne (ne_of_none q hn)]; exact q)
    (fun c ps q=>⟨#[],by rw[upd_ne (ne_of_none q hn),q]; simp⟩) (fun m hm=>?_) (fun c o q=>?_) I.bare
   ·obtain⟨o,es',ep,ho,r⟩:=hm;exact⟨o,es',ep,kk' _ o (fun q=>(hf _ q).2.1 rfl) ho,r⟩
   ·by_cases hcs:c=s.heap.objs.size
    ·subst hcs;rw[za1] at q;cases q;exact tupOk
    ·rw[upd_ne hcs] at q;refine(I.hok c o q).stay (fun d v hd z=>kk' d v ?_ z) (fun d z=>by rw[upd_ne (ne_of_none z hn)]; exact z) fun d vs z=>by rw[upd_ne (ne_of_none z hn)]; exact z
     rcases hd with hd | hd
     ·rw[hd]; exact nt c o q
     ·exact nt d _ hd
  have g2:h''.IsListIter it a (i+1):=by
   obtain⟨⟨o,g,r⟩,_⟩:=a2;exact⟨o,(sb.2 _ (Ne.symm hei)).trans g,r⟩
  have g1:IsEnum h'' e it (((i+1:Nat)):Int) y:=by
   have:((i+1:Nat):Int)=(i:Int)+1:=by omega
   rw[this];exact b1
  exact⟨.ref s.heap.objs.size,_,I1,rfl,⟨_,x,rfl,hn,rfl,fun xs' q=>by rw[qa] at q; cases q; exact hx⟩,⟨⟨_,g1⟩,g2⟩,fun c hc=>by
   have:c≠s.heap.objs.size:=by
    simp only[List.mem_cons,List.not_mem_nil,or_false] at hc;rcases hc with rfl | rfl
    ·exact Ne.symm hse
    ·exact Ne.symm hsi
   rw[upd_ne this];exact(hf c hc).1⟩
 done:=by
  intro X hP hw hK hc i pins s σ H E I hf st hg;subst hP hw hK;obtain⟨xs,qa,hl⟩:=hg;obtain⟨its,rv,pa,_⟩:=I.list (SqL.of (K:=X.K) qa);obtain⟨⟨old,h1⟩,h2⟩:=st;have nia:a≠it:=fun z=>by
   have:=(hf it (by simp)).1
   rw[<-z,qa] at this;cases this
  have D:Draws X.prog X.w X.A.in1 it [it,a] its.toArray.size (fun i v=>its.toArray[i]?=some v) (fun i h=>h.IsListIter it a i/\h.IsList a its.toArray):=Draws.list (show X.A.in1.handled=none from I.ok.hd hc) it a nia its.toArray;have hi:its.toArray.size=i:=by
   rw[List.size_toArray,<-rv.length];exact hl
  obtain⟨f0,f1,f2,f3,f4,f5⟩:=hf it (by simp);refine wpAny_pyNext_enum_endD D h1 (by rw[hi]; exact⟨h2,pa.isList⟩) fun h' k=>⟨rfl,I.turned (t':=s.toks) (fun b o hb q=>k b o hb q) f0 f1 f3 f4 f5⟩
 self:=fun _ _ _ _ _ st h=>by
  obtain⟨⟨old,h1⟩,_⟩:=st;exact wpAny_pyIter_enum h1 h
def iEnumL(ta:TA):TI:=fun σ H R=>ta σ H fun vs H1=>∃a xs,vs=[.ref a]/\H1 a=some (.lst xs)/\R (ItEl a) H1
theorem zdo{es:List PySem.Expr}{kk:Nat}{tpos:Pos}{a:PySem.Expr}{ta:TA}{p pos:Pos}(hg:Gl X "enumerate")(hm:X.mg "enumerate" = none)(ha:PA X [a] ta)(hs:starEach [a] X.env=[(false,eval a X.env)]:=by rfl):
  PI X (.Tuple es kk tpos) (.Call (.Name "enumerate" p) [a] [] pos) (iEnumL ta):=by
 intro pins s σ H R I h;refine Call_ (ze7 I hg hm PyProof.Rows.boot_enumerate (PyProof.Rows.callWith_type1 (thn (ha pos pins s σ H _ I h) fun us s1 ⟨vs,H1,I1,r1,q1⟩=>?_) hs rfl));obtain⟨la,xs,e,qa,q⟩:=q1;subst e;obtain⟨u1,rfl,ra⟩:=vals1 r1;cases ra;obtain⟨its,rv,pa,_⟩:=I1.list (SqL.of (K:=X.K) qa);refine call_enumerate_list pa.isList fun h' z1 z2 _ zk=>wpAny_pyIter_enum z1 ?_
 have I2:Inv X pins σ H1 { s1 with heap:=h' }:=I1.kept (t':=s1.toks) zk;refine⟨s1.heap.objs.size+1,_,_,_,H1,rfl,I2,zjk (Nat.succ_ne_self _),⟨⟨_,z1⟩,z2⟩,fun c hc=>?_,q⟩;have hge:s1.heap.objs.size<=c:=by
  simp only[List.mem_cons,List.not_mem_nil,or_false] at hc;rcases hc with rfl | rfl <;> omega
 exact I1.fpOk (H':=H1) hge (I1.hok.fresh hge)
theorem zd4 {a:Addr} {xs:List V} {g:TG} {tb:TS} {D:Ends} {σ:St} {H:Hp} (Pv:Nat->St->Hp->Prop) (h0:Pv 0 σ H) (hl:∀i σ H,i<=xs.length->Pv i σ H->H a=some (.lst xs))
  (hs:∀i x σ H p,xs[i]?=some x->Pv i σ H->H p=none->g (.ref p) σ (upd H p (.tup [.int i,x])) fun σ2 H2=>tb { D with nx:=Pv (i+1),ct:=Pv (i+1),bk:=D.nx } σ2 H2) (hd:∀σ H,Pv xs.length σ H->D.nx σ H) :
  ∃W:Nat->Nat->St->Hp->Prop,(∃m,W 0 m σ H)/\∀i m σ H,W i m σ H →
   ((ItEl a).stop i H/\D.nx σ H)\/((ItEl a).go i H/\∃N:St->Hp->Prop,(∀σ' H',N σ' H'->∃m',m' < m/\W (i+1) m' σ' H')/\∀x H',(ItEl a).yld i H x H'->g x σ H' fun σ2 H2=>tb { D with nx:=N,ct:=N,bk:=D.nx } σ2 H2):=by
 refine⟨fun i m σ H=>m=xs.length-i/\i<=xs.length/\Pv i σ H,⟨xs.length,by simp,Nat.zero_le _,h0⟩,?_⟩;rintro i m σ H ⟨rfl,hi,p⟩;have qa:=hl i σ H hi p;rcases Nat.lt_or_ge i xs.length with hlt | hge
 ·refine .inr ⟨⟨xs,xs[i],qa,by simp[hlt]⟩,Pv (i+1),fun σ' H' p'=>⟨xs.length-(i+1),by omega,rfl,hlt,p'⟩,fun v H' yl=>?_⟩;obtain⟨pa,x,rfl,hp,rfl,hx⟩:=yl;exact hs i x σ H pa (hx xs qa) p hp
 ·obtain rfl:i=xs.length:=by omega
  exact .inl ⟨⟨xs,qa,rfl⟩,hd σ H p⟩
end
section
variable {a:Addr} {xs:List V} {g:TG} {tb:TS} {D:Ends} {σ:St} {H:Hp}
end
theorem zd2 {X:Cx} (K:PySem.W.Frag) {o e:PySem.Expr} {es:List PySem.Expr} {to:TE} {t:TA} {name:Str} {apos cpos:Pos} {T id:String} {r:V->List V->Hp->VK->Prop} (pa:PlainAttrs T) (slot:Slot T name id) (hty:typeOf (.builtin id)=pure (.type "method_descriptor")) (hm:MtR X id r) (ho:PE X o to) (ha:PA X (e :: es) t)
  (hbase:attributeBase o name X.env (eval o X.env)=eval o X.env:=by rfl)
  (hfew:((backTo cpos (starEach (e :: es) X.env)).all (fun x=>!x.1) && (backToKw cpos (keywordEach [] X.env)).all (fun x=>x.1.isSome) && decide ((e :: es).length+([]:List Keyword).length+(if ([]:List Keyword).isEmpty then 0 else 1)<30))=true:=by rfl)
  (hline:(apos.endLine == cpos.line)=true:=by rfl) (hs:starEach (e :: es) X.env=(false,eval e X.env) :: starEach es X.env:=by rfl) (hplain:(backTo cpos (starEach es X.env)).any (·.1)=false:=by rfl) (hK:X.K=K:=by rfl) :
  PE X (.Call (.Attribute o name apos) (e :: es) [] cpos) (tBM K T r to t):=by
 subst hK;exact pe_bm pa slot hty hm ho ha hbase hfew hline hs hplain
section
variable {X:Cx}
theorem zds:∀{ns:List Int} {us:List Value},Vals (ns.map V.int) us->IntsAre us ns
 | [],_,.nil=>.nil
 | n :: r,_,.cons (b:=u) h t=>by
  obtain⟨k,rfl⟩:=h;exact .cons n k (zds t)
theorem zfb(ns:List Int):SeqAt.shaped (.tuple (ns.map PyData.int))=true:=by
 simp[SeqAt.shaped,PyData.canLay0,PyData.depth,PySem.W.ke_canLayAll0,PySem.W.ke_depthAll]
theorem zo1(ns ms:List Int):PySem.Spec.same (.tuple (ns.map PyData.int)) (.tuple (ms.map PyData.int))=decide (ns=ms):=by
 simp only[PySem.Spec.same];exact PySem.W.ke_sameAll ns ms
theorem zes(hu:X.A.units+64<cLine):OpR X (compareOp .Eq) (fun x y H Q=>∃(p q:Addr) (ns ms:List Int),x=.ref p/\y=.ref q/\H p=some (.tup (ns.map V.int))/\H q=some (.tup (ms.map V.int))/\Q (.bl (decide (ns=ms))) H):=by
 intro pins s σ H x y v u Q I rx ry h;obtain⟨p,q,ns,ms,rfl,rfl,hp,hq,k⟩:=h;cases rx;cases ry;obtain⟨its,r1,t1,_⟩:=I.tuple (SqT.of (K:=X.K) hp);obtain⟨jts,r2,t2,_⟩:=I.tuple (SqT.of (K:=X.K) hq);refine eq_dataH_same (reads_tuple_ints t1 (zds r1)) (reads_tuple_ints t2 (zds r2)) (zfb ns) (zfb ms) hu (SeqAt.noMix_of_shape (.tuples .int) rfl _ _ (tuples_map_has fun _=>rfl) (tuples_map_has fun _=>rfl)) ?_;rw[zo1];exact⟨.bl _,H,I,rfl,k⟩
end
def ItK(t:Bool)(h:Heap)(c a:Addr)(k:Nat):Prop:=if t then h.IsTupleIter c a k else h.IsListIter c a k
def SqK(t:Bool)(h:Heap)(a:Addr)(vs:Array Value):Prop:=if t then h.IsTuple a vs else h.IsList a vs
theorem ItK.ext{t:Bool}{h h':Heap}{c b a:Addr}{k:Nat}(x:ItK t h c a k)(hs:Heap.ExtBut b h h')(n:c≠b):ItK t h' c a k:=by
 cases t
 ·exact Heap.IsListIter.extBut x hs n
 ·exact Heap.IsTupleIter.extBut x hs n
theorem ItK.at{t:Bool}{h h':Heap}{c a:Addr}{k:Nat}(x:ItK t h c a k)(e:∀o,h.get? c=some o->h'.get? c=some o):ItK t h' c a k:=by
 cases t
 ·exact Heap.IsListIter.at x e
 ·exact Heap.IsTupleIter.at x e
theorem ItK.obj{t:Bool}{h:Heap}{c a:Addr}{k:Nat}(x:ItK t h c a k):∃o,h.get? c=some o/\∀v,o.data≠.cell v:=by
 cases t
 ·obtain⟨o,e,_,d⟩:=x;exact⟨o,e,fun v z=>by rw[d] at z; cases z⟩
 ·obtain⟨o,e,_,d⟩:=x;exact⟨o,e,fun v z=>by rw[d] at z; cases z⟩
theorem SqK.ext{t:Bool}{h h':Heap}{b a:Addr}{vs:Array Value}(x:SqK t h a vs)(hs:Heap.ExtBut b h h')(n:a≠b):SqK t h' a vs:=by
 cases t
 ·exact Heap.IsList.extBut x hs n
 ·exact Heap.IsTuple.extBut x hs n
section
variable {prog:Program} {w:World} {A:Around} {E:Value->Shared->Prop} {s:Shared}
end
section
variable {X:Cx}
def SqS(t:Bool)(K:PySem.W.Frag)(H:Hp)(a:Addr)(xs:List V):Prop:=if t then SqT K H a xs else SqL K H a xs
theorem SqK.lt{t:Bool}{h:Heap}{a:Addr}{vs:Array Value}(x:SqK t h a vs):a<h.objs.size:=by
 cases t
 ·obtain⟨o,e,_⟩:=x;exact Heap.lt_size e
 ·obtain⟨o,e,_⟩:=x;exact Heap.lt_size e
theorem SqS.l{K:PySem.W.Frag}{H:Hp}{a:Addr}{xs:List V}(h:H a=some (.lst xs)):SqS false K H a xs:=SqL.of h
theorem SqS.t{K:PySem.W.Frag}{H:Hp}{a:Addr}{xs:List V}(h:H a=some (.tup xs)):SqS true K H a xs:=SqT.of h
end
section
variable {X:Cx}
end
end L2
namespace L2
open PySem PySem.Spec PyProof.Rows PySem.W
section
variable {prog:Program} {w:World} {A:Around} {E:Value->Shared->Prop} {K:Frag} {h:Heap} {g:Array GenState} {d:Drawn} {t:Nat} {os:OsState} {a C:Addr} {o:Obj}
structure XCls(K:Frag)(C:Addr):Prop where
 ga:findIn K (.ref C) "__getattribute__" = some (some (.builtin "BaseException.__getattribute__"))
 gt:findIn K (.ref C) "__getattr__" = some none
 cl:findIn K (.ref C) "__class__" = some (some (.builtin "object.__class__"))
 gg:specialIn K (.builtin "object.__class__") "__get__" = some (some (.builtin "getset_descriptor.__get__"))
 tk:takesIn K (.builtin "object.__class__")=some true
 mo:mroIn K C (.type "object")=some true
 mb:mroIn K C (.type "BaseException")=some true
 cd:(clsIn K C).isSome=true
theorem xc_get{R:Result->Shared->Prop}(T:XCls K C)(X:K.In h)(hx:h.get? a=some o)(hc:o.cls=.ref C)(hq:R (.ok (.ret (.ref C))) ⟨h,g,d,t,os⟩):
  codeAny (model prog w) A (.call (.builtin "getset_descriptor.__get__") ⟨[.builtin "object.__class__",.ref a,.ref C],[]⟩) R ⟨h,g,d,t,os⟩:=by
 have L0:Looks (model prog w) h (typeOf (.ref a)) (.ref C):=hc ▸ (Looks.ld hx).andThen .now;have L1:=looks_mroIn (M:=model prog w) X T.mo;refine codeAny_call_builtin KF.slot_gs.plain KF.entry_gs (KF.slot_gs.check _ _ _ _ _ _ _ _ KF.type_class (KF.args_gs _ _ _) ?_);unfold Builtin.«getset_descriptor.__get__» Builtin.Getset_descriptor.descrGet; rw[dga_obj];refine wpAny_bind (wpAny_pure ?_); unfold Builtin.Getset_descriptor.descrGetter Builtin.Getset_descriptor.descrCheckInstance Builtin.Getset_descriptor.descrNameAndClass isInstance;simp only[KF.owner_class]
 repeat lk
 refine⟨Code.quiet_builtin _ (by decide +kernel),codeAny_builtin KF.entry_class ?_⟩;unfold Builtin.«object.__class__» shownTypeOf; repeat lk
 exact hq
theorem znr{tk:Tok}{Q:Fin->Shared->Prop}(T:XCls K C)(X:K.In h)(hx:h.get? a=some o)(hc:o.cls=.ref C)(hq:Q (.done (.ret (.ref C))) ⟨h,g,d,t,os⟩):
  wpAny (model prog w) A (Builtin.«object.__getattribute__» ⟨[.ref a,.str "__class__" tk],[]⟩) Q E ⟨h,g,d,t,os⟩:=by
 have L1:=looks_findIn (M:=model prog w) X T.cl;have L2:=looks_specialIn (M:=model prog w) X T.gg;have L3:=looks_takesIn (M:=model prog w) X T.tk
 repeat (any_goals (first | assumption | (with_reducible refine wpAny_loadPart_at hx ?_; rw[hc]) | with_reducible refine L1.at ?_ | with_reducible refine L2.at ?_ | with_reducible refine L3.at ?_ | wp_step))
 refine xc_get T X hx hc ?_
 repeat (any_goals (first | assumption | wp_step))
theorem zi9{nameV:Value}{Q:Unit->Shared->Prop}(T:XCls K C)(X:K.In h)(hx:h.get? a=some o)(hc:o.cls=.ref C)(hq:Q () ⟨h,g,d,t,os⟩):wpAny (model prog w) A (checkBuiltinCall "BaseException.__getattribute__" ⟨[.ref a,nameV],[]⟩) Q E ⟨h,g,d,t,os⟩:=by
 have kd:builtinKind "BaseException.__getattribute__" = some .slot:=by decide +kernel
 have sp:splitId "BaseException.__getattribute__" = some ("BaseException","__getattribute__"):=by decide +kernel
 have L1:=looks_mroIn (M:=model prog w) X T.mb;have ar:=PySem.F.args_bexc_ga (.ref a) nameV;simp only[checkBuiltinCall,kd,sp];refine wpAny_bind ?_; unfold isInstance
 repeat (first | (with_reducible refine wpAny_loadPart_at hx ?_; rw[hc]) | with_reducible refine L1.at ?_ | wp_step)
 exact hq
theorem zpy{tk:Tok}{R:Result->Shared->Prop}(T:XCls K C)(X:K.In h)(hx:h.get? a=some o)(hc:o.cls=.ref C)(hq:R (.ok (.ret (.ref C))) ⟨h,g,d,t,os⟩):
  codeAny (model prog w) A (.call (.builtin "BaseException.__getattribute__") ⟨[.ref a,.str "__class__" tk],[]⟩) R ⟨h,g,d,t,os⟩ :=
 codeAny_call_builtin PySem.F.excAttr_ValueError.ga.plain PySem.F.entry_bexc_ga (zi9 T X hx hc (znr T X hx hc hq))
theorem xc_by{tk:Tok}{fill expr:Bool}{Q:Value->Shared->Prop}(T:XCls K C)(X:K.In h)(hx:h.get? a=some o)(hc:o.cls=.ref C)(hq:Q (.ref C) ⟨h,g,d,t,os⟩):
  wpAny (model prog w) A (getAttrBy (.ref a) (.str "__class__" tk) fill expr) Q E ⟨h,g,d,t,os⟩:=by
 have f3:=PySem.F.excAttr_ValueError.ga.bind (.ref a);have y0:(expr && onTheHeap (Value.builtin "BaseException.__getattribute__"))=false:=by cases expr <;> rfl
 have y2:(Value.builtin "BaseException.__getattribute__" == Value.builtin "object.__getattribute__")=false:=by decide +kernel
 have y1:(onTheHeap (Value.ref C) && Value.builtin "BaseException.__getattribute__" == Value.builtin "object.__getattribute__")=false:=by rw[y2]; rfl
 have L1:=looks_findIn (M:=model prog w) X T.ga;have L2:=looks_findIn (M:=model prog w) X T.gt
 repeat (any_goals (first | assumption | (with_reducible refine wpAny_loadPart_at hx ?_; rw[hc]) | with_reducible refine L1.at ?_ | with_reducible refine L2.at ?_ | wp_step))
 refine zpy T X hx hc ?_
 repeat (any_goals (first | assumption | wp_step))
theorem zpz{Q:Option Value->Shared->Prop}(T:XCls K C)(X:K.In h)(hx:h.get? a=some o)(hc:o.cls=.ref C)(hq:Q (some (.ref C)) ⟨h,g,d,t+1,os⟩):
  wpAny (model prog w) A (getAttr? (.ref a) "__class__") Q E ⟨h,g,d,t,os⟩:=by
 unfold getAttr? getAttrBy?;refine wpAny_bind (wpAny_mkText (wpAny_bind (wpAny_attempt (xc_by T X hx hc (wpAny_pure hq)))))
theorem zov(T:XCls K C):KitX K (.ref a) (.ref C) (fun h=>∃o,h.get? a=some o/\o.cls=.ref C) where
 ty:=fun M h _ ⟨o,h1,h2⟩=>h2 ▸ (Looks.ld h1).andThen .now
 it:=fun _ _ X _=>by
  obtain⟨cdD,hcD⟩:=Option.isSome_iff_exists.mp T.cd;unfold clsIn at hcD;split at hcD
  ·rename_i c' d' cd' sl' ho
   intro A' Q' E' s' k q;unfold isType loadHead;exact wpAny_bind (wpAny_loadPart (k _ _ (X _ _ ho)) (wpAny_pure q))
  ·cases hcD
 ne:=fun h tp dd its n sl X htp=>by
  obtain⟨cdD,hcD⟩:=Option.isSome_iff_exists.mp T.cd;refine Bool.eq_false_iff.mpr fun q=>?_
  obtain rfl:C=tp:=Value.ref.inj (beq_iff_eq.mp q);unfold clsIn at hcD;split at hcD
  ·rename_i c' d' cd' sl' ho
   cases (X _ _ ho).symm.trans htp
  ·cases hcD
 ca:=fun {_ _ _ _ _ s} X p k=>by
  obtain⟨hh,g,d,t,os⟩:=s;obtain⟨o,h1,h2⟩:=p;exact zpz T X h1 h2 k
end
section
variable {X:Cx}
def rIsiE(K:PySem.W.Frag)(c:V)(cv:Value):List V->Hp->VK->Prop:=fun xs H Q=>∃(a C:Addr) (od:Option Addr) (b:Bool),xs=[.ref a,c]/\H a=some (excO a (.ref C) od)/\XCls K C/\PySem.W.kitOne K (.ref C) cv=some b/\Q (.bl b) H
theorem zf3{c:V}{cv:Value}(hc:∀u,RelV c u->u=cv):CallR X (.builtin "isinstance") (rIsiE X.K c cv):=by
 intro pins s σ H xs us Q I r h;obtain⟨a,C,od,b,rfl,ha,T,e,q⟩:=h;obtain⟨u,w',rfl,r1,r2⟩:=vals2 r;cases hc w' r2;cases r1;obtain⟨⟨o,ho,hcl,_⟩,_,_⟩:=I.hok a _ ha;exact PySem.W.kia_one (zov T) I.kIn ⟨o,ho,hcl⟩ e (fun z=>nomatch z) fun tk=>⟨.bl b,H,I.tok _,rfl,q⟩
end
section
variable {prog:Program} {w:World} {A:Around} {E:Value->Shared->Prop} {K:Frag} {h:Heap} {g:Array GenState} {d:Drawn} {t:Nat} {os:OsState} {a C dx:Addr} {o:Obj} {f:Str} {v:Value} {vs:Array Value} {m:Str->Option Value}
structure XGet(K:Frag)(C:Addr)(f:Str):Prop where
 c:XCls K C
 no:findIn K (.ref C) f=some none
 di:((clsIn K C).any fun cd=>cd.hasDict)=true
theorem zpw{Q:Builtin.ObjectAttr.Found->Shared->Prop}(T:XGet K C f)(X:K.In h)(hx:h.get? a=some o)(hc:o.cls=.ref C)(hf:o.data=.fields vs)(hd:o.dict=some dx)(hN:h.Ns dx m)(hm:m f=some v)(hq:Q (.value v) ⟨h,g,d,t,os⟩):
  wpAny (model prog w) A (Builtin.ObjectAttr.find (.ref a) (.ref C) f) Q E ⟨h,g,d,t,os⟩:=by
 obtain⟨cd,hcd,hhd⟩:=any_some T.di;unfold Builtin.ObjectAttr.find;refine wpAny_bind ((looks_findIn X T.no).at (wpAny_bind (wpAny_pure (wpAny_bind (wpAny_pure ?_)))));unfold Builtin.ObjectAttr.ownThenClass Builtin.ObjectAttr.inOwnDict Builtin.ObjectAttr.ownDict Builtin.ObjectAttr.inDict;refine wpAny_bind (wpAny_bind (wpAny_bind ?_));unfold loadHead;refine wpAny_loadPart hx ?_;rw[hf];dsimp only;unfold instanceDict;refine wpAny_bind (wpAny_loadPart hx ?_);rw[hc,hd];dsimp only;refine wpAny_bind ((looks_clsIn X hcd).at ?_);rw[hhd];simp only[Bool.not_true,Bool.false_eq_true,if_false];refine wpAny_bind (wpAny_pure (wpAny_pure ?_));dsimp only;refine wpAny_nsGet hN ?_;rw[hm];exact wpAny_bind (wpAny_rule (wpAny_pure hq))
theorem znq{tk:Tok}{Q:Fin->Shared->Prop}(T:XGet K C f)(X:K.In h)(hx:h.get? a=some o)(hc:o.cls=.ref C)(hf:o.data=.fields vs)(hd:o.dict=some dx)(hN:h.Ns dx m)(hm:m f=some v)(hq:Q (.done (.ret v)) ⟨h,g,d,t,os⟩):
  wpAny (model prog w) A (Builtin.«object.__getattribute__» ⟨[.ref a,.str f tk],[]⟩) Q E ⟨h,g,d,t,os⟩:=by
 have L0:Looks (model prog w) h (typeOf (.ref a)) (.ref C):=hc ▸ (Looks.ld hx).andThen .now;unfold Builtin.«object.__getattribute__»;refine wpAny_bind (wpAny_pure ?_);dsimp only;refine wpAny_bind (wpAny_pure (wpAny_bind (L0.at (wpAny_bind (zpw T X hx hc hf hd hN hm ?_)))));exact wpAny_pure hq
theorem zpx{tk:Tok}{R:Result->Shared->Prop}(T:XGet K C f)(X:K.In h)(hx:h.get? a=some o)(hc:o.cls=.ref C)(hf:o.data=.fields vs)(hd:o.dict=some dx)(hN:h.Ns dx m)(hm:m f=some v)(hq:R (.ok (.ret v)) ⟨h,g,d,t,os⟩):
  codeAny (model prog w) A (.call (.builtin "BaseException.__getattribute__") ⟨[.ref a,.str f tk],[]⟩) R ⟨h,g,d,t,os⟩ :=
 codeAny_call_builtin PySem.F.excAttr_ValueError.ga.plain PySem.F.entry_bexc_ga (zi9 T.c X hx hc (znq T X hx hc hf hd hN hm hq))
theorem xf_by{tk:Tok}{fill expr:Bool}{Q:Value->Shared->Prop}(T:XGet K C f)(X:K.In h)(hx:h.get? a=some o)(hc:o.cls=.ref C)(hf:o.data=.fields vs)(hd:o.dict=some dx)(hN:h.Ns dx m)(hm:m f=some v)(hh:handedIn v=true)(hq:Q v ⟨h,g,d,t,os⟩):
  wpAny (model prog w) A (getAttrBy (.ref a) (.str f tk) fill expr) Q E ⟨h,g,d,t,os⟩:=by
 have f3:=PySem.F.excAttr_ValueError.ga.bind (.ref a);have y0:(expr && onTheHeap (Value.builtin "BaseException.__getattribute__"))=false:=by cases expr <;> rfl
 have y2:(Value.builtin "BaseException.__getattribute__" == Value.builtin "object.__getattribute__")=false:=by decide +kernel
 have y1:(onTheHeap (Value.ref C) && Value.builtin "BaseException.__getattribute__" == Value.builtin "object.__getattribute__")=false:=by rw[y2]; rfl
 have L1:=looks_findIn (M:=model prog w) X T.c.ga;have L2:=looks_findIn (M:=model prog w) X T.c.gt
 repeat (any_goals (first | assumption | (with_reducible refine wpAny_loadPart_at hx ?_; rw[hc]) | with_reducible refine L1.at ?_ | with_reducible refine L2.at ?_ | wp_step))
 refine zpx T X hx hc hf hd hN hm ?_
 repeat (any_goals (first | assumption | wp_step))
 have e:=handedOut_of hh;unfold handedOut at e;rw[e];exact wpAny_pure hq
end
section
variable {X:Cx} {e:PySem.Expr} {f:Str} {pos:Pos} {ta:TE}
def tFldX(K:PySem.W.Frag)(ta:TE)(f:Str):TE:=fun σ H Q=>ta σ H fun x H1=>∃a C dx fs v,x=.ref a/\H1 a=some (excO a (.ref C) (some dx))/\H1 dx=some (.xd fs)/\XGet K C f/\fs.lookup f=some v/\Q v H1
theorem zhq(he:PE X e ta)(hb:attributeBase e f X.env (eval e X.env)=eval e X.env):PE X (.Attribute e f pos) (tFldX X.K ta f):=by
 intro pins s σ H Q I h;refine zrl hb (thn (he pins s σ H _ I h) fun u s1 ⟨x,H1,I1,rx,a,C,dx,fs,v,ex,ea,ed,T,l,q⟩=>?_);subst ex;obtain rfl:u=Value.ref a:=rx;obtain⟨⟨o,ho,hcl,hd,vs,hf⟩,_,_⟩:=I1.hok a _ ea;obtain⟨m,hN,hm⟩:=I1.hok dx _ ed;obtain⟨u',hu,ru⟩:=RelO.some_of (v:=v) (o:=m f) (by rw[<-l]; exact hm f);obtain⟨hp,g,d,tk,os⟩:=s1;unfold getAttr;refine wpAny_bind (wpAny_mkText ?_);exact xf_by T I1.kIn ho hcl hf hd hN.ns hu (zmf ru) ⟨v,H1,I1.tok _,ru,q⟩
end
end L2
namespace My
open PySem L2
def del(H:Hp)(a:Addr):Hp:=fun b=>if b=a then none else H b
theorem zci(H:Hp)(a:Addr):del H a a=none:=if_pos rfl
theorem zdf{H:Hp}{a b:Addr}(h:b≠a):del H a b=H b:=if_neg h
theorem ze1(H:Hp)(a:Addr):Same (del H a) H:=fun b o e=>by
 by_cases h:b=a
 ·subst h; rw[zci] at e; cases e
 ·rw[zdf h] at e; exact e
theorem zdd{H H':Hp}(a:Addr)(s:Same H H'):Same (del H a) (del H' a):=fun b o e=>by
 by_cases h:b=a
 ·subst h; rw[zci] at e; cases e
 ·rw[zdf h] at e ⊢; exact s _ _ e
theorem del_up(H:Hp)(a:Addr)(o:HO):Same (del H a) (upd H a o):=fun b u e=>by
 by_cases h:b=a
 ·subst h; rw[zci] at e; cases e
 ·rw[zdf h] at e; rw[upd_ne h]; exact e
theorem zmp(H:Hp)(a:Addr)(o:HO):del (upd H a o) a=del H a:=by
 funext b
 by_cases h:b=a
 ·subst h; rw[zci,zci]
 ·rw[zdf h,zdf h,upd_ne h]
theorem zri{H:Hp}{a:Addr}(h:H a=none):del H a=H:=by
 funext b
 by_cases z:b=a
 ·subst z; rw[zci,h]
 ·exact zdf z
theorem zcr{H:Hp}{a b:Addr}{o:HO}(e:H b=some o)(h:b≠a):del H a b=some o:=by rw[zdf h]; exact e
section
variable {α:Type} {R:Hp->Addr->α->Prop}
def At(R:Hp->Addr->α->Prop)(H:Hp)(bs:List Addr)(xs:List α):Prop:=bs.length=xs.length/\∀(i:Nat) (b:Addr) (x:α),bs[i]?=some b->xs[i]?=some x->R H b x
def Mo(R:Hp->Addr->α->Prop):Prop:=∀{H H':Hp} {b:Addr} {x:α},Same H H'->R H b x->R H' b x
theorem At.nil{H:Hp}:At R H [] []:=⟨rfl,fun i b x e=>by simp at e⟩
theorem At.keep{H H':Hp}{bs:List Addr}{xs:List α}(h:At R H bs xs)(m:Mo R)(s:Same H H'):At R H' bs xs:=⟨h.1,fun i b x e1 e2=>m s (h.2 i b x e1 e2)⟩
theorem At.snoc{H:Hp}{bs:List Addr}{xs:List α}{b:Addr}{x:α}(h:At R H bs xs)(r:R H b x):At R H (bs++[b]) (xs++[x]):=by
 refine⟨by simp[h.1],fun i c y e1 e2=>?_⟩;have hl:=h.1;rcases Nat.lt_or_ge i bs.length with z | z
 ·rw[List.getElem?_append_left z] at e1;rw[List.getElem?_append_left (by omega)] at e2;exact h.2 i c y e1 e2
 ·rw[List.getElem?_append_right z] at e1;rw[List.getElem?_append_right (by omega)] at e2;rw[hl] at e1;cases hi:i-xs.length with
  | zero=>rw[hi] at e1 e2; cases e1; cases e2; exact r
  | succ k=>rw[hi] at e1; simp at e1
theorem At.app{H:Hp}{bs cs:List Addr}{xs ys:List α}(h:At R H bs xs)(g:At R H cs ys):At R H (bs++cs) (xs++ys):=by
 refine⟨by simp[h.1,g.1],fun i c y e1 e2=>?_⟩;have hl:=h.1;rcases Nat.lt_or_ge i bs.length with z | z
 ·rw[List.getElem?_append_left z] at e1;rw[List.getElem?_append_left (by omega)] at e2;exact h.2 i c y e1 e2
 ·rw[List.getElem?_append_right z] at e1;rw[List.getElem?_append_right (by omega)] at e2;rw[hl] at e1;exact g.2 _ c y e1 e2
theorem At.take{H:Hp}{bs:List Addr}{xs:List α}(h:At R H bs xs)(k:Nat):At R H (bs.take k) (xs.take k):=by
 refine⟨by simp[h.1],fun i c y e1 e2=>?_⟩;rw[List.getElem?_take] at e1 e2;split at e1
 ·rename_i hk; rw[if_pos hk] at e2; exact h.2 i c y e1 e2
 ·cases e1
theorem At.drop{H:Hp}{bs:List Addr}{xs:List α}(h:At R H bs xs)(k:Nat):At R H (bs.drop k) (xs.drop k):=by
 refine⟨by simp[h.1],fun i c y e1 e2=>?_⟩;rw[List.getElem?_drop] at e1 e2;exact h.2 _ c y e1 e2
theorem At.set{H:Hp}{bs:List Addr}{xs:List α}{b:Addr}{x:α}(h:At R H bs xs)(k:Nat)(r:R H b x):At R H (bs.set k b) (xs.set k x):=by
 refine⟨by simp[h.1],fun i c y e1 e2=>?_⟩;rw[List.getElem?_set] at e1 e2;by_cases hk:k=i
 ·subst hk;have hl:=h.1;by_cases hb:k<bs.length
  ·rw[if_pos rfl,if_pos hb] at e1;rw[if_pos rfl,if_pos (by omega)] at e2;cases e1; cases e2; exact r
  ·rw[if_pos rfl,if_neg hb] at e1; cases e1
 ·rw[if_neg hk] at e1 e2;exact h.2 _ c y e1 e2
theorem At.get{H:Hp}{bs:List Addr}{xs:List α}{i:Nat}{x:α}(h:At R H bs xs)(e:xs[i]?=some x):∃b,bs[i]?=some b/\R H b x:=by
 have hi:i<bs.length:=by rw[h.1]; exact(List.getElem?_eq_some_iff.mp e).1
 exact⟨bs[i],List.getElem?_eq_getElem hi,h.2 i _ x (List.getElem?_eq_getElem hi) e⟩
theorem At.ref{H:Hp}{bs:List Addr}{xs:List α}{i:Nat}{v:V}(h:At R H bs xs)(e:(bs.map V.ref)[i]?=some v):∃b x,v=.ref b/\bs[i]?=some b/\xs[i]?=some x/\R H b x:=by
 rw[List.getElem?_map] at e;cases q:bs[i]? with
 | none=>rw[q] at e; cases e
 | some b =>
  rw[q] at e;have hi:i<xs.length:=by rw[<-h.1]; exact(List.getElem?_eq_some_iff.mp q).1
  exact⟨b,xs[i],(Option.some.inj e).symm,rfl,List.getElem?_eq_getElem hi,h.2 i b _ q (List.getElem?_eq_getElem hi)⟩
theorem zeo{bs:List Addr}{i:Nat}{b:Addr}(h:bs[i]?=some b):(bs.map V.ref)[i]?=some (.ref b):=by rw[List.getElem?_map,h]; rfl
def TupR(R:Hp->Addr->α->Prop)(H:Hp)(b:Addr)(xs:List α):Prop:=∃bs:List Addr,H b=some (.tup (bs.map V.ref))/\At R H bs xs
def LstR(R:Hp->Addr->α->Prop)(H:Hp)(b:Addr)(xs:List α):Prop:=∃bs:List Addr,H b=some (.lst (bs.map V.ref))/\At R H bs xs
theorem zgm(m:Mo R):Mo (TupR R):=fun s ⟨bs,e,h⟩=>⟨bs,s _ _ e,h.keep m s⟩
theorem zgn(m:Mo R):Mo (LstR R):=fun s ⟨bs,e,h⟩=>⟨bs,s _ _ e,h.keep m s⟩
end
def FrR(H:Hp)(b:Addr)(q:Rat):Prop:=H b=some (.tup [.int q.num,.int q.den])
def IntsL(H:Hp)(b:Addr)(ns:List Int):Prop:=H b=some (.lst (ns.map V.int))
theorem zba:Mo FrR:=fun s h=>s _ _ h
theorem zht:Mo IntsL:=fun s h=>s _ _ h
theorem FrR.del{H:Hp}{a b:Addr}{q:Rat}{ys:List V}(h:FrR H b q)(e:H a=some (.lst ys)):FrR (del H a) b q:=zcr h fun z=>by rw[z] at h; unfold FrR at h; rw[e] at h; cases h
theorem zpu{H:Hp}{a:Addr}{ys:List V}(e:H a=some (.lst ys)){bs:List Addr}{qs:List Rat}(h:At FrR H bs qs):At FrR (del H a) bs qs:=⟨h.1,fun i b x e1 e2=>(h.2 i b x e1 e2).del e⟩
structure Run(J:It)(H1:Hp)(n:Nat)(f:Nat->Hp->V->Hp->Prop):Prop where
 go:∀i H2,i<n->Same H1 H2->J.go i H2
 yl:∀i H2 x H3,i<n->Same H1 H2->J.yld i H2 x H3->f i H2 x H3
 st:∀H2,Same H1 H2->J.stop n H2
section
variable {K:PySem.W.Frag}
theorem zcz{H:Hp}{a:Addr}{xs:List V}(h:H a=some (.tup xs)):Run (Itt K a) H xs.length (fun i H2 x H3=>H3=H2/\xs[i]?=some x) :=
 ⟨fun i H2 hi s=>⟨xs,xs[i],SqT.of (s _ _ h),List.getElem?_eq_getElem hi⟩,fun i H2 x H3 _ s y=>⟨y.1,y.2 _ (SqT.of (s _ _ h))⟩,fun H2 s=>⟨xs,SqT.of (s _ _ h),Nat.le_refl _⟩⟩
theorem zdl{H:Hp}{a:Addr}{xs:List V}(h:H a=some (.lst xs)):Run (Itl K a) H xs.length (fun i H2 x H3=>H3=H2/\xs[i]?=some x) :=
 ⟨fun i H2 hi s=>⟨xs,xs[i],SqL.of (s _ _ h),List.getElem?_eq_getElem hi⟩,fun i H2 x H3 _ s y=>⟨y.1,y.2 _ (SqL.of (s _ _ h))⟩,fun H2 s=>⟨xs,SqL.of (s _ _ h),Nat.le_refl _⟩⟩
theorem zgc{H:Hp}{lo:Int}{n:Nat}:Run (Itr lo n) H n (fun i H2 x H3=>H3=H2/\x=.int (lo+i)):=⟨fun _ _ hi _=>hi,fun _ _ _ _ _ _ y=>y,fun _ _=>Nat.le_refl _⟩
theorem zay {J:It} {n:Nat} {H1:Hp} {f:Nat->Hp->V->Hp->Prop} {acc:Addr} {σ0:St} {g:TG} {te:TE} {G:Hp->Prop} (r:Run J H1 n f) (hn:n<=1000) (hacc:H1 acc=none) (Iv:Nat->List V->St->Hp->Prop) (h0:Iv 0 [] σ0 H1)
  (hs:∀(i:Nat) (ys:List V) (σ:St) (H2:Hp) (x:V) (H3:Hp),i<n->Same H1 H2->H2 acc=some (.lst ys)->Iv i ys σ (del H2 acc)->f i H2 x H3->∀C:St->VK,(∀(σ4:St) (v:V) (H5:Hp),Same H2 H5->Iv (i+1) (ys++[v]) σ4 (del H5 acc)->C σ4 v H5) →
   g x σ H3 fun σ4 H4=>te σ4 H4 (C σ4))
  (fin:∀(ys:List V) (σ:St) (H2:Hp),Same H1 H2->H2 acc=some (.lst ys)->ys.length=n->Iv n ys σ (del H2 acc)->G H2) :
  ∃W:Nat->Nat->List V->St->Hp->Prop,(∃m,W 0 m [] σ0 (upd H1 acc (.lst [])))/\∀i m ys σc H2,W i m ys σc H2 →
   (J.stop i H2/\G H2)\/(J.go i H2/\∀x H3,J.yld i H2 x H3->g x σc H3 fun σ4 H4=>te σ4 H4 fun v H5=>H5 acc=some (.lst ys)/\ys.length<sizeLine/\∃m',m' < m/\W (i+1) m' (ys++[v]) σ4 (upd H5 acc (.lst (ys++[v])))):=by
 refine⟨fun i m ys σ H2=>m=n-i/\i<=n/\Same H1 H2/\H2 acc=some (.lst ys)/\ys.length=i/\Iv i ys σ (del H2 acc),⟨n,rfl,Nat.zero_le _,?_,za1,rfl,?_⟩,?_⟩
 ·intro b o e; rw[upd_ne (ne_of_none e hacc)]; exact e
 ·rw[zmp,zri hacc]; exact h0
 ·rintro i m ys σc H2 ⟨rfl,hi,sm,ha,hl,iv⟩;rcases Nat.lt_or_ge i n with hlt | hge
  ·refine .inr ⟨r.go i H2 hlt sm,fun x H3 yl=>?_⟩;refine hs i ys σc H2 x H3 hlt sm ha iv (r.yl i H2 x H3 hlt sm yl) (fun σ4 v H5=>H5 acc=some (.lst ys)/\ys.length<sizeLine/\∃m',m' < n-i/\(m'=n-(i+1)/\i+1<=n/\Same H1 (upd H5 acc (.lst (ys++[v])))/\(upd H5 acc (.lst (ys++[v]))) acc=some (.lst (ys++[v]))/\(ys++[v]).length=i+1/\Iv (i+1) (ys++[v]) σ4 (del (upd H5 acc (.lst (ys++[v]))) acc))) ?_;intro σ4 v H5 s5 iv5;refine⟨s5 _ _ ha,by rw[sizeLine_eq]; omega,n-(i+1),by omega,rfl,hlt,?_,za1,by simp[hl],?_⟩
   ·intro b o e; rw[upd_ne (ne_of_none e hacc)]; exact s5 _ _ (sm _ _ e)
   ·rw[zmp]; exact iv5
  ·obtain rfl:i=n:=by omega
   exact .inl ⟨r.st H2 sm,fin ys σc H2 sm ha hl iv⟩
end
end My
namespace L2
open PySem PySem.Spec PyProof.Rows PySem.W
section
variable {X:Cx} {pins:List (Addr×Obj)} {σ:St} {H:Hp} {s:Shared} {h':Heap}
theorem Inv.put{a:Addr}{o:HO}{t':Nat}(I:Inv X pins σ H s)(k:∀b u,s.heap.get? b=some u->h'.get? b=some u)(hn:s.heap.get? a=none)(new:ObjOk X.prog X.w (upd H a o) h' a o):Inv X pins σ (upd H a o) { s with heap:=h',toks:=t' }:=by
 have na:H a=none:=zch I.hok hn;have ne:∀{b:Addr} {u:Obj},s.heap.get? b=some u->b≠a:=fun e z=>by rw[z,hn] at e; cases e
 refine I.un ⟨fun b u q _ _ _=>k b u q,fun b u q _ _ _=>⟨u.slots,k b u q⟩,fun b u q n _=>by rw[upd_ne (ne q)]; exact n,fun b u q _=>⟨u,k b u q⟩,fun b xs q=>by rw[upd_ne (ne_of_none q na)]; exact q,fun b u xs q=>by rw[upd_ne (ne_of_none q na)]; exact q,fun b ps q=>⟨#[],by rw[upd_ne (ne_of_none q na),q]; simp⟩⟩ fun b u e=>?_
 by_cases hb:b=a
 ·subst hb; rw[za1] at e; cases e; exact new
 ·rw[upd_ne hb] at e;exact(I.hok b u e).stay (fun c v _ q=>k c v q) (fun c q=>by rw[upd_ne (ne_of_none q na)]; exact q) fun c xs q=>by rw[upd_ne (ne_of_none q na)]; exact q
theorem Inv.put2 {a d:Addr} {φ:Heap->Prop} {o1 o2:HO} {t':Nat} (I:Inv X pins σ H s) (ha:H a=some (.ext φ)) (k:∀b u,b≠a->s.heap.get? b=some u->h'.get? b=some u) (hex:∃u,h'.get? a=some u) (hn:s.heap.get? d=none)
  (new1:ObjOk X.prog X.w (upd (upd H a o1) d o2) h' a o1) (new2:ObjOk X.prog X.w (upd (upd H a o1) d o2) h' d o2):Inv X pins σ (upd (upd H a o1) d o2) { s with heap:=h',toks:=t' }:=by
 have nd:H d=none:=zch I.hok hn;have ad:a≠d:=ne_of_none ha nd;have ne:∀{b:Addr} {u:Obj},s.heap.get? b=some u->b≠d:=fun e z=>by rw[z,hn] at e; cases e
 have nh:∀{b:Addr},H b=none->b≠a:=fun e z=>by rw[z,ha] at e; cases e
 have old:∀{b:Addr} {o:HO},b≠a->H b=some o->upd (upd H a o1) d o2 b=some o:=fun n e=>by rw[upd_ne (ne_of_none e nd),upd_ne n]; exact e
 have na:∀{b:Addr} {o:HO},H b=some o->(∀ψ,o≠.ext ψ)->b≠a:=fun e n z=>by rw[z,ha] at e; exact n φ (Option.some.inj e).symm
 refine I.un ⟨fun b u q n _ _=>k b u (nh n) q,fun b u q n _ _=>⟨u.slots,k b u (nh n) q⟩,fun b u q n _=>by rw[upd_ne (ne q),upd_ne (nh n)]; exact n,fun b u q _=>?_,fun b xs q=>old (na q fun _ z=>by cases z) q,fun b u xs q=>old (na q fun _ z=>by cases z) q,fun b ps q=>⟨#[],by rw[old (na q fun _ z=>by cases z) q]; simp⟩⟩ fun b u e=>?_
 ·by_cases z:b=a
  ·rw[z]; exact hex
  ·exact⟨u,k b u z q⟩
 ·by_cases z1:b=d
  ·subst z1; rw[za1] at e; cases e; exact new2
  rw[upd_ne z1] at e;by_cases z2:b=a
  ·subst z2; rw[za1] at e; cases e; exact new1
  rw[upd_ne z2] at e;refine(I.hok b u e).stay (fun c v hc q=>k c v ?_ q) (fun c q=>old (na q fun _ z=>by cases z) q) fun c xs q=>old (na q fun _ z=>by cases z) q
  rcases hc with rfl | hc
  ·exact z2
  ·exact na hc fun _ z=>by cases z
end
def excN(a C t:Addr):HO:=.ext fun h=>h.get? a=some (excD C t none)
def excF(a C t d:Addr):HO:=.ext fun h=>h.get? a=some (excD C t (some d))
section
variable {P:Program} {w:World} {H:Hp} {h:Heap} {a C t d:Addr}
theorem zrf(e:h.get? a=some (excD C t none)):ObjOk P w H h a (excN a C t):=⟨e,⟨_,e⟩,fun _ _ p k=>k _ p⟩
theorem zrg(e:h.get? a=some (excD C t (some d))):ObjOk P w H h a (excF a C t d):=⟨e,⟨_,e⟩,fun _ _ p k=>k _ p⟩
theorem zp8(ok:HOk P w H h)(e:H a=some (excN a C t)):h.get? a=some (excD C t none):=(show ObjOk P w H h a (excN a C t) from ok _ _ e).1
theorem zj4(ok:HOk P w H h)(e:H a=some (excF a C t d)):h.get? a=some (excD C t (some d)):=(show ObjOk P w H h a (excF a C t d) from ok _ _ e).1
theorem xd_ok{f:Str}{y:V}{u:Value}(r:RelV y u)(n:h.Ns1 d (fun z=>if z=f then some u else none)):ObjOk P w H h d (.xd [(f,y)]):=by
 refine⟨_,n,fun g=>?_⟩;by_cases z:g=f
 ·subst z;simp only[List.lookup_cons,beq_self_eq_true,if_true];exact r
 ·have zb:(g == f)=false:=by simp[z]
  simp only[List.lookup_cons,zb,List.lookup_nil,if_neg z]
  first | exact trivial | rfl
end
def XStore(K:Frag)(C:Addr)(f:Str):Prop:=findIn K (.ref C) "__setattr__" = some (some (.builtin "object.__setattr__"))/\exIn K C=true/\findIn K (.ref C) f=some none
def sFldX(K:Frag)(ta tv:TE)(f:Str):TS:=fun D σ H=>tv σ H fun y H1=>ta σ H1 fun x H2=>∃a C t,x=.ref a/\H2 a=some (excN a C t)/\XStore K C f/\∀d,H2 d=none->D.nx σ (upd (upd H2 a (excF a C t d)) d (.xd [(f,y)]))
theorem zhm{X:Cx}{o value:PySem.Expr}{f:Str}{pos pos':Pos}{ta tv:TE}(ha:PE X o ta)(hv:PE X value tv)(hs:swapsWith value (some (.Attribute o f pos')) pos.line X.env=pure false):PS X (.Assign [.Attribute o f pos'] value pos) (sFldX X.K ta tv f):=by
 intro pins s σ H D I h;refine plainObj_wpAny_Assign_Attribute (thn (hv pins s σ H _ I h) fun u s1 ⟨y,H1,I1,ry,q⟩=>thn (ha pins s1 σ H1 _ I1 q) fun ov s2 ⟨x,H2,I2,rx,a,C,t,ex,ea,⟨x1,x2,x3⟩,q2⟩=>?_) hs;subst ex;obtain rfl:ov=Value.ref a:=rx;have ga:=zp8 I2.hok ea;refine xset I2.kIn ga rfl rfl rfl x1 x2 x3 fun h' d tk hd hx hn hk=>⟨σ,_,?_,q2 d (zch I2.hok hd)⟩
 exact I2.put2 (t':=tk) ea hk ⟨_,hx⟩ hd (zrg hx) (xd_ok ry hn)
section
variable {P:Program} {w:World} {K:PySem.W.Frag} {mg:Str->Option Value} {base:Heap} {N:List Str} {qual:Str} {scope:Scope} {f:Addr} {cd:Value} {A:Around} {outer:List Env} {s₀:Shared} {H₀:Hp} {E:XK}
def RaiseOutI(X:Cx)(E:XK):Prop:=∀(pins:List (Addr×Obj)) (σ:St) (H:Hp) (s:Shared) (e C t d:Addr),Inv X pins σ H s->H e=some (excF e C t d)->X.s₀.heap.get? e=none->E (.ref C) (some d) (My.del H e)->X.xe (.ref e) s
theorem zd9:RaiseOutI (cxOf (CXr P w) P w K mg base N qual scope f cd A outer s₀ H₀ E) E:=by
 intro pins σ H s e C t d I hH n0 hE;have ge:=zj4 I.hok hH;have nex:∀b:Addr,b∉([]:List Addr):=fun b z=>by simp at z
 have n0':s₀.heap.get? e=none:=n0;have ne0:∀{b:Addr} {o:Obj},s₀.heap.get? b=some o->b≠e:=fun q z=>by rw[z,n0'] at q; cases q
 have nfr:∀b o,H b=some o->b∉frs (envOfC qual scope s₀.heap.objs.size f cd :: outer):=fun b o q z=>by
  have:=I.stkFree b z
  rw[q] at this;cases this
 have noL:∀b o,s₀.heap.get? b=some o->b∉frs outer->b∉frs (envOfC qual scope s₀.heap.objs.size f cd :: outer):=fun b o q hb z=>by
  rcases List.mem_cons.mp (I.stkSub b z) with z | z
  ·exact absurd (Heap.lt_size q) (by rw[z]; exact Nat.lt_irrefl _)
  ·exact hb z
 obtain⟨Bh,eB⟩:∃Bh,Bh=PySem.W.hideAll s.heap (e :: frs (envOfC qual scope s₀.heap.objs.size f cd :: outer)):=⟨_,rfl⟩;have gB:∀b o,s.heap.get? b=some o->b≠e->b∉frs (envOfC qual scope s₀.heap.objs.size f cd :: outer)->Bh.get? b=some o:=fun b o q n1 n2=>by
  rw[eB];exact PySem.W.hideAll_get _ q fun z=>(List.mem_cons.mp z).elim n1 n2
 have eN:Bh.get? e=none:=by rw[eB]; exact PySem.W.hideAll_none _ (.head _)
 have stB:Bh.StaysIn s.heap:=fun b o q=>by rw[eB] at q; exact PySem.W.of_hideAll _ q
 have flB:s.heap.FunFrames Bh (envOfC qual scope s₀.heap.objs.size f cd :: outer):=by
  rw[eB];exact PySem.W.funFrames_hide I.stack fun env he b hb=>List.mem_cons_of_mem _ (List.mem_filterMap.mpr ⟨env,he,hb⟩)
 clear eB;have nx:∀{b:Addr} {o:HO},H b=some o->(∀ψ,o≠.ext ψ)->b≠e:=fun q n z=>by rw[z,hH] at q; exact n _ (Option.some.inj q).symm
 have hokB:HOk P w (My.del H e) Bh:=fun b o q=>by
  have nb:b≠e:=fun z=>by rw[z,My.zci] at q; cases q
  rw[My.zdf nb] at q;refine(I.hok b o q).stay (fun c v hc z=>gB c v z ?_ ?_) (fun c z=>My.zcr z (nx z fun _ y=>by cases y)) fun c xs z=>My.zcr z (nx z fun _ y=>by cases y)
  ·rcases hc with hc | hc
   ·rw[hc]; exact nb
   ·exact nx hc fun _ y=>by cases y
  ·rcases hc with hc | hc
   ·rw[hc]; exact nfr b o q
   ·exact nfr c _ hc
 have kB:∀b o,s₀.heap.get? b=some o->H₀ b=none->b∉frs outer->Bh.get? b=some o:=fun b o q n hb=>gB b o (I.base.keep b o q n hb (nex b)) (ne0 q) (noL b o q hb)
 have tB:∀b o,s₀.heap.get? b=some o->b∉frs outer->∃o',Bh.get? b=some o':=fun b o q hb=>by
  obtain⟨o1,q1⟩:=I.base.there b o q (nex b);exact⟨o1,gB b o1 q1 (ne0 q) (noL b o q hb)⟩
 refine zgx (zeu _ _) (Q':=fun _ s2=>∃h'',s2={ s with heap:=h'' }/\Heap.LeftW Bh (envOfC qual scope s₀.heap.objs.size f cd :: outer) e (.ref C) (.ref t) s.heap h'') (wpAny_leaving_firstW (a0:=.ref t) I.ok.frames flB rfl ge stB eN rfl rfl rfl fun h'' hL=>⟨h'',rfl,hL⟩) ?_;rintro _ s2 ⟨h'',rfl,hL⟩ dk;obtain⟨j1,⟨_,_,j2⟩,j3,j4⟩:=hL;have fl:Heap.FlyingW Bh outer e (.ref C) (.ref t) h'':=⟨j1,eN,j2,j3⟩;refine⟨e,t,.ref C,some d,Bh,My.del H e,rfl,I.os,I.bare,?_,kB,tB,hokB,⟨fl,dk.dict ⟨_,ge,rfl⟩⟩,n0',My.zci _ _,hE⟩;have slot':∀b o,s₀.heap.get? b=some o->H₀ b=none->b∈frs outer->∃sl,h''.get? b=some { o with slots:=sl }:=fun b o q n hb=>by
  obtain⟨sl,q1⟩:=I.base.slot b o q n hb (nex b);obtain⟨_,o2,q3,nf⟩:=I.funs.mem hb;rw[q1] at q3;cases q3;obtain⟨sl2,q4⟩:=j4 b _ q1 nf;exact⟨sl2,q4⟩
 refine⟨fun b o q n hb _=>fl.1 b o (kB b o q n hb),fun b o q n hb _=>slot' b o q n hb,fun b o q n _=>by rw[My.zdf (ne0 q)]; exact I.base.free b o q n (nex b),fun b o q _=>?_,fun b xs q=>?_,fun b o u q=>?_,fun b ps q=>?_⟩
 ·by_cases hb:b∈frs outer
  ·obtain⟨sl,q1⟩:=slot' b o q (I.ok.frf b hb) hb;exact⟨_,q1⟩
  ·obtain⟨o1,q1⟩:=tB b o q hb;exact⟨o1,fl.1 b o1 q1⟩
 ·have:=I.base.tups b xs q
  exact My.zcr this (nx this fun _ y=>by cases y)
 ·have:=I.base.frzs b o u q
  exact My.zcr this (nx this fun _ y=>by cases y)
 ·obtain⟨more,this⟩:=I.base.tbls b ps q;exact⟨more,My.zcr this (nx this fun _ y=>by cases y)⟩
end
def excI(K:Frag)(C:Addr)(bmB:List Value)(newId:String)(fI:Addr):Bool:=match K.lookup C with
 | some ⟨.type "type",_,.cls cd,sl⟩=>(match cd.mro,sl.toList with
  | .ref D :: tl,[_,_,_,_,some (.builtin n),_]=>D == C && n == newId && !cd.hasDel && tailIn K bmB tl && nsOkIn K cd.ns && nsIn K cd.ns "__init__" == some (some (.ref fI))
  | _,_=>false)
 | _=>false
theorem zjr{K:Frag}{h:Heap}{N:Addr}{m:Str->Option Value}{n:Str}{v:Value}(X:K.In h)(G:h.Ns N m)(e:nsIn K N n=some (some v)):m n=some v:=by
 obtain⟨o,es,ep,ho,hd,_,hf⟩:=G;unfold nsIn at e;split at e
 ·rename_i _ _ _ _ _ q
  have hq:=X _ _ q;rw[ho] at hq;cases hq;cases hd;split at e
  ·rename_i _ he
   cases e;rw[<-hf];show(nsFind _ _)=_;unfold nsFind findBy;rw[<-Array.find?_toList,he] <;> rfl
  ·split at e <;> cases e
 ·cases e
theorem zp7{K:Frag}{h:Heap}{C fI:Addr}{bm:List Value}{newId:String}(X:K.In h)(q:excI K C bm newId fI=true):
  ∃tl N nm qn bs hdct sn sub ab col dd k0 k1 k2 k3 k5 mN,h.get? C=some (ClsE nm qn C N bs tl hdct sn sub ab col dd k0 k1 k2 k3 k5 newId)/\h.Ns N mN/\mN "__init__" = some (.ref fI)/\OwnTail h bm tl:=by
 unfold excI at q;split at q
 case h_2=>cases q
 case h_1 dd cd sl ho =>
  split at q
  case h_2=>cases q
  case h_1 D tl k0 k1 k2 k3 n k5 hm hs =>
   simp only[Bool.and_eq_true,beq_iff_eq,Bool.not_eq_true'] at q;obtain⟨⟨⟨⟨⟨e1,e2⟩,hdel⟩,ht⟩,hok⟩,hni⟩:=q;subst e1;subst e2;obtain⟨nm,bs,mro,ns,qn,hd,sn,sub,ab,col,del⟩:=cd;obtain⟨sl⟩:=sl;dsimp only at hm hdel hok hni hs;subst hm;subst hdel;subst hs;have hN:=Heap.Ns.of_isNs (PySem.W.isNs_of_in X hok);exact⟨tl,ns,nm,qn,bs,hd,sn,sub,ab,col,dd,k0,k1,k2,k3,k5,_,X _ _ ho,hN,zjr X hN hni,PySem.W.tail_of_in X ht⟩
def tRaiseI(C:Addr)(sp:Sp)(E:XK)(ta:TA):TS:=fun _ σ H=>ta σ H fun vs H1=>vs.length<=sizeLine/\∀e t,H1 e=none->sp (.ref e :: vs) (upd H1 e (excN e C t)) (fun v H2=>v=.non/\∃d,H2 e=some (excF e C t d)/\E (.ref C) (some d) (My.del H2 e)) E0
theorem zdm {X:Cx} {x:Str} {C fI:Addr} {fd:FuncData} {ps:List Str} {sp:Sp} {k:Nat} {e0:PySem.Expr} {rest:List PySem.Expr} {ta:TA} {B newId initId:String} {bm:List Value} {E:XK} {np cpos pos:Pos} (hg:Gl X x) (hm:X.mg x=some (.ref C)) (q:excI X.K C bm newId fI=true)
  (FB:ExcBaseFacts B newId initId bm) (hc:X.calm=true) (ho:RaiseOutI X E) (F:FnOk X.prog X.w X.K X.mg X.base CX0 k fI fd ps sp) (hr:Room (k+1) X.A) (hb:Binds X.K fd ps []) (hfn:isFn X.K (.ref fI)=true) (ha:PA X (e0 :: rest) ta) (hdb:(x == ("__debug__":Str))=false:=by decide)
  (he:starEach (e0 :: rest) X.env=(false,eval e0 X.env) :: starEach rest X.env:=by rfl) (hpl:(backTo cpos (starEach rest X.env)).any (·.1)=false:=by rfl) (hex:X.ex=[]:=by rfl) :
  PS X (.Raise (some (.Call (.Name x np) (e0 :: rest) [] cpos)) none pos) (tRaiseI C sp E ta):=by
 intro pins s σ H D I h;obtain⟨tl,N,nm,qn,bs,hdct,sn,sub,ab,col,dd,k0,k1,k2,k3,k5,mN,hC,hN,hni,TL⟩:=zp7 I.ok.mod.kin q;obtain⟨oI,hoI,hcI⟩:∃oI,X.base.get? fI=some oI/\oI.cls=.type "function":=by
  obtain⟨o,ho,hc⟩:=Option.map_eq_some_iff.mp (show(X.K.lookup fI).map (·.cls)=some (.type "function") from beq_iff_eq.mp hfn);exact⟨o,I.ok.mod.kin _ _ ho,hc⟩
 refine zhj (C:=C) (nm:=nm) (qn:=qn) (N:=N) (bs:=bs) (tl:=tl) (hdct:=hdct) (sn:=sn) (sub:=sub) (ab:=ab) (col:=col) (dd:=dd) (k0:=k0) (k1:=k1) (k2:=k2) (k3:=k3) (k5:=k5) (oI:=oI)
  FB (mN:=mN) (TL.hasType FB.hasBase) (I.ok.hd hc) ?_ hni hcI (zdj I hg hm ⟨rfl,?_⟩ hdb)
 ·rw[he];show(false || (backTo cpos (starEach rest X.env)).any (·.1))=false;rw[hpl];rfl
 ·have hargs:=ha cpos pins s σ H _ I h;rw[he] at hargs ⊢;refine Calls.evalArgs_plain (thn hargs fun us s1 ⟨vs,H1,I1,r,z,q1⟩=>⟨rfl,?_,I1.bk _ _ hC,hN.keeps I1.bk,TL.keeps I1.bk,I1.bk _ _ hoI,fun h' e t hx ht=>?_⟩)
  ·rw[<-r.length];exact z
  have n1:H1 e=none:=zch I1.hok hx.new;have I2:Inv X pins σ (upd H1 e (excN e C t)) { s1 with heap:=h' }:=I1.put (t':=s1.toks) hx.keeps hx.new (zrf ht);have n0:X.s₀.heap.get? e=none:=by
   cases y:X.s₀.heap.get? e with
   | none=>rfl
   | some o =>
    obtain⟨o1,y1⟩:=I1.base.there e o y (by rw[hex]; simp);rw[hx.new] at y1;cases y1
  have q2:=q1 e t n1;have rv:Vals (.ref e :: vs) (.ref e :: us):=.cons rfl r;have hl:(Value.ref e :: us).length=ps.length:=by rw[<-rv.length]; exact F.len _ _ _ _ q2
  refine wpAny_call (codeAny_mono (F.run _ X.stack _ _ ⟨.ref e :: us,[]⟩ (.ref e :: us) (.ref e :: vs) _ E0 (hr.make C us []) (I2.env0.make C us []) (by have:=hb { s1 with heap:=h' } (.ref e :: us) I2.kIn (by simpa using hl); simpa using this) rv q2) fun r' s' hq=>?_);cases r' with
  | error e=>exact False.elim hq
  | ok fl =>
   cases fl with
   | next=>exact False.elim hq
   | brk=>exact False.elim hq
   | cont=>exact False.elim hq
   | ret u =>
    obtain⟨v,H3,I3,rv3,e3,d,hd3,hE3⟩:=I2.after hq;subst e3;obtain rfl:u=Value.none:=rv3;exact⟨rfl,⟨some d,zj4 I3.hok hd3⟩,I3.bk _ _ hC,ho pins σ H3 s' e C t d I3 hd3 n0 hE3⟩
section
variable {prog:Program} {w:World} {A:Around} {E:Value->Shared->Prop} {s:Shared} {K:Frag} {x C d:Addr} {ox:Obj} {name:Str} {v:Value} {m:Str->Option Value} {ns:List Str}
end
section
variable {X:Cx} {pins:List (Addr×Obj)} {σ:St} {H:Hp} {s:Shared} {h':Heap}
end
end L2
namespace My
open PySem L2 PySem.Spec PyProof.Rows
section
variable {X:Cx} {pins:List (Addr×Obj)} {σ:L2.St} {H:Hp} {s:Shared}
end
end My
namespace L2
open PySem PySem.Spec PyProof.Rows
section
variable {X:Cx}
def rIndex:V->List V->Hp->VK->Prop:=fun x vs H Q=>∃(l:Addr) (ns:List Int) (k:Int),x=.ref l/\vs=[.int k]/\H l=some (.lst (ns.map V.int))/\k∈ns/\ns.length<=1000000/\Q (.int ((ns.idxOf k:Nat):Int)) H
theorem zdp:MtM X "list.index" rIndex:=by
 intro pins s σ H x vs v us Q I rx rv h;obtain⟨l,ns,k,rfl,rfl,hH,hk,hz,q⟩:=h;cases rx;obtain⟨u,rfl,ru⟩:=rv.one;obtain⟨t,rfl⟩:=ru;obtain⟨z,its,n,r,hl,e⟩:=I.lstM hH;have hi:=ze0 r;have hlen:=hi.length;have hj:ns.idxOf k<ns.length:=List.idxOf_lt_length_iff.mpr hk;refine call_meets PySem.F.slot_list_index ⟨_,e,rfl⟩ PySem.F.entry_list_index (PySem.F.args_list_index_2 _ _)
  (MeetsSeq.list_index l its.toArray n (.int k t) (isInt k) (fun y hy=>eq_isInt k t hi y (by simpa using hy)) (ns.idxOf k) (by simpa [hlen] using hj) (by omega) ?_ ?_) ⟨e,⟨.int ((ns.idxOf k:Nat):Int),H,I.tok _,⟨_,rfl⟩,q⟩⟩
 ·show isInt k its[ns.idxOf k]=true;rw[isInt_at k hi _ (by omega) hj];simpa using List.getElem_idxOf hj
 ·intro j hjs hlt;show isInt k its[j]=false;rw[isInt_at k hi j (by simpa using hjs) (by omega)];exact ne_of_lt_idxOf hlt _
end
section
variable {X:Cx} {K:PySem.W.Frag}
theorem ixT(h:X.K=K:=by rfl):IxR X (rIxT K):=h ▸ zcf
theorem ixL(h:X.K=K:=by rfl):IxR X (rIxL K):=h ▸ zi2
theorem slT(h:X.K=K:=by rfl):SlR X (rSlT K):=h ▸ zph
theorem slL(h:X.K=K:=by rfl):SlR X (rSlL K):=h ▸ zq5
theorem callLen(h:X.K=K:=by rfl):CallR X (.builtin "len") (LenR K):=h ▸ zh3
theorem callTup(h:X.K=K:=by rfl):CallR X (.type "tuple") (fun xs H Q=>∃p ys,xs=[.ref p]/\((SqL K H p ys/\∀l,H l=none->Q (.ref l) (upd H l (.tup ys)))\/(SqT K H p ys/\Q (.ref p) H))):=h ▸ zcs
theorem pgTup {es:List PySem.Expr} {k:Nat} {t:TGs} {n:Nat} {pos:Pos} (hc:X.calm=true) (g:PGs X es t) (h:X.K=K:=by rfl)
  (hn:(assignEach es X.env).length=n:=by rfl) (hst:(assignEach es X.env).findIdx? (·.1)=none:=by rfl):PG X (.Tuple es k pos) (gTup K n t):=h ▸ pg_tup hc g hn hst
theorem piTup{tg l:PySem.Expr}{tl:TE}(hl:PE X l tl)(h:X.K=K:=by rfl):PI X tg l (iTup K tl):=h ▸ zgh hl
theorem piLst{tg l:PySem.Expr}{tl:TE}(hl:PE X l tl)(h:X.K=K:=by rfl):PI X tg l (iList K tl):=h ▸ zhn hl
end
section
variable {prog:Program} {w:World} {A:Around} {E:Value->Shared->Prop} {s:Shared}
end
section
variable {X:Cx}
theorem zq1{ns:List Int}:∀{us:List Value},IntsAre us ns->Vals (ns.map V.int) us:=by
 induction ns with
 | nil=>intro us r; cases r; exact .nil
 | cons n ns ih =>
  intro us r;cases r with
  | cons=>exact .cons ⟨_,rfl⟩ (ih (by assumption))
end
end L2
namespace L2
open PySem PySem.Spec PyProof.Rows PySem.SeqAt
section
variable {prog:Program} {w:World} {A:Around} {E:Value->Shared->Prop}
abbrev srch(items:Array Value)(x:Value):Nat->Option PySem.Fin×PUnit->Sem (ForInStep (Option PySem.Fin×PUnit)):=fun i _=>match items[i]? with
 | some y=>do let b <-eqBool y x; if b=true then (do let r <-retInt (i:Int); pure (ForInStep.done (some r,()))) else pure (ForInStep.yield (none,()))
 | _=>pure (ForInStep.yield (none,()))
end
section
variable {X:Cx}
def rIndexT:V->List V->Hp->VK->Prop:=fun x vs H Q=>∃(l:Addr) (ns:List Int) (k:Int),x=.ref l/\vs=[.int k]/\H l=some (.tup (ns.map V.int))/\k∈ns/\Q (.int ((ns.idxOf k:Nat):Int)) H
end
end L2
namespace HT
open PySem PySem.Spec PyProof.Rows L2
section
variable {prog:Program} {w:World} {A:Around} {E:Value->Shared->Prop} {s:Shared}
end
end HT
namespace L2
open PySem PySem.Spec PyProof.Rows
section
variable {X:Cx} {K:PySem.W.Frag}
end
section
variable {X:Cx}
end
section
variable {X:Cx}
variable {o e:Expr} {es:List Expr} {to:TE} {t:TA} {name:Str} {apos cpos:Pos} {id:String} {r:V->List V->Hp->VK->Prop}
end
inductive RdD(H:Hp):V->PyData->Prop
 | int (i:Int):RdD H (.int i) (.int i)
 | bl (b:Bool):RdD H (.bl b) (.bool b)
 | str (z:Str):RdD H (.str z) (.str z)
 | non:RdD H .non .none
 | tup {p:Addr} {xs:List V} {ds:List PyData} (h:H p=some (.tup xs)) (hl:xs.length=ds.length) (hd:∀(i:Nat) (x:V) (d:PyData),xs[i]?=some x->ds[i]?=some d->RdD H x d):RdD H (.ref p) (.tuple ds)
theorem RdD.keep{H H':Hp}(s:Same H H'){v:V}{d:PyData}(h:RdD H v d):RdD H' v d:=by
 induction h with
 | int i=>exact .int i
 | bl b=>exact .bl b
 | str z=>exact .str z
 | non=>exact .non
 | tup h hl hd ih=>exact .tup (s _ _ h) hl ih
section
variable {X:Cx} {pins:List (Addr×Obj)} {σ:L2.St} {H:Hp} {s:Shared}
theorem zge(h:Heap):∀{xs:List V} {its:List Value} {ds:List PyData},Vals xs its->xs.length=ds.length->(∀(i:Nat) (x:V) (d:PyData),xs[i]?=some x->ds[i]?=some d->∀u,RelV x u->Reads h u d [])->ReadsAll h its ds []
 | [],_,ds,.nil,hl,_=>by
  have:ds=[]:=List.length_eq_zero_iff.mp hl.symm
  subst this;exact .nil
 | x :: xs,_,[],_,hl,_=>by simp at hl
 | x :: xs,_,d :: ds,.cons r rs,hl,hd =>
  .cons (as:=[]) (bs:=[]) (hd 0 x d rfl rfl _ r) (zge h rs (by simpa using hl) fun i x' d' e1 e2=>hd (i+1) x' d' (by simpa using e1) (by simpa using e2))
theorem zii(I:Inv X pins σ H s){v:V}{d:PyData}(h:RdD H v d):∀u,RelV v u->Reads s.heap u d []:=by
 induction h with
 | int i =>
  intro u r;obtain⟨t,rfl⟩:=r;exact .int _ _
 | bl b =>
  intro u r;cases r;exact .bool _
 | str z =>
  intro u r;obtain⟨t,rfl⟩:=r;exact .str _ _
 | non =>
  intro u r;cases r;exact .none
 | tup h hl hd ih =>
  intro u r;cases r;obtain⟨its,rv,tp,_⟩:=I.tuple (SqT.of (K:=X.K) h);obtain⟨o,ho,hc,n,hd'⟩:=tp;exact .tuple ho hc hd' (by simpa using zge s.heap rv hl ih)
inductive Shp:Nat->PyData->Prop
 | int {n:Nat} (i:Int):Shp n (.int i)
 | bl {n:Nat} (b:Bool):Shp n (.bool b)
 | tup {n:Nat} {ds:List PyData} (h:∀d∈ds,Shp n d):Shp (n+1) (.tuple ds)
theorem zbz:∀{ds:List PyData},(∀d∈ds,d.canLay0=true)->PyData.canLayAll0 ds=true
 | [],_=>rfl
 | d :: ds,h=>by
  simp only[PyData.canLayAll0,Bool.and_eq_true];exact⟨h d (by simp),zbz fun x hx=>h x (by simp[hx])⟩
theorem zbq{n:Nat}:∀{ds:List PyData},(∀d∈ds,d.depth<=n)->PyData.depthAll ds<=n
 | [],_=>Nat.zero_le _
 | d :: ds,h=>by
  have:=zbq (ds:=ds) fun x hx=>h x (by simp[hx])
  have:=h d (by simp)
  simp only[PyData.depthAll];omega
theorem Shp.ok{n:Nat}{d:PyData}(h:Shp n d):d.canLay0=true/\d.depth<=n+1:=by
 induction h with
 | int i=>exact⟨rfl,by simp[PyData.depth]⟩
 | bl b=>exact⟨rfl,by simp[PyData.depth]⟩
 | @tup n ds h ih =>
  refine⟨by simp only[PyData.canLay0]; exact zbz fun d hd=>(ih d hd).1,?_⟩
  have:=zbq fun d hd=>(ih d hd).2
  simp only[PyData.depth];omega
theorem Shp.shaped{n:Nat}{d:PyData}(h:Shp n d)(hn:n<=60):SeqAt.shaped d=true:=by
 unfold SeqAt.shaped;rw[Bool.and_eq_true];exact⟨h.ok.1,decide_eq_true (by have:=h.ok.2; omega)⟩
end
section
variable {X:Cx}
def rEqG:R2:=fun x y H Q=>∃(d e:PyData),RdD H x d/\RdD H y e/\(d.canLay0=true/\d.depth<=64)/\(e.canLay0=true/\e.depth<=64)/\Q (.bl (PyData.eqv d e)) H
def rNeG:R2:=fun x y H Q=>∃(d e:PyData),RdD H x d/\RdD H y e/\(d.canLay0=true/\d.depth<=64)/\(e.canLay0=true/\e.depth<=64)/\Q (.bl (!PyData.eqv d e)) H
theorem shp{d:PyData}(h:d.canLay0=true/\d.depth<=64):SeqAt.shaped d=true:=by
 unfold SeqAt.shaped;rw[Bool.and_eq_true];exact⟨h.1,decide_eq_true h.2⟩
theorem zil(hu:X.A.units+64<cLine):OpR X (compareOp .Eq) rEqG:=by
 intro pins s σ H x y v u Q I rx ry h;obtain⟨d,e,hx,hy,sd,se,k⟩:=h;exact eq_dataH (zii I hx v rx) (zii I hy u ry) (shp sd) (shp se) hu ⟨.bl _,H,I,rfl,k⟩
theorem zpl(hu:X.A.units+64<cLine):OpR X (compareOp .NotEq) rNeG:=by
 intro pins s σ H x y v u Q I rx ry h;obtain⟨d,e,hx,hy,sd,se,k⟩:=h;exact ne_dataH (zii I hx v rx) (zii I hy u ry) (shp sd) (shp se) hu ⟨.bl _,H,I,rfl,k⟩
end
section
variable {X:Cx}
end
section
variable {prog:Program} {w:World} {A:Around} {E:Value->Shared->Prop} {s:Shared}
end
section
variable {X:Cx}
end
theorem bt_list:bootBuiltins "list" = some (.type "list"):=by decide +kernel
section
variable {X:Cx}
end
section
variable {X:Cx}
end
section
variable {X:Cx}
theorem zh0(hc:X.calm=true):CallR X (.builtin "max") (fun xs H Q=>∃(p:Addr) (ns:List Int),xs=[.ref p]/\H p=some (.lst (ns.map V.int))/\0<ns.length/\∀m,m∈ns->(∀a∈ns,a<=m)->Q (.int m) H):=by
 intro pins s σ H xs us Q I r h;obtain⟨p,ns,rfl,hp,hne,q⟩:=h;obtain⟨u,rfl,r1⟩:=vals1 r;cases r1;obtain⟨_,its,n,rv,_,e⟩:=I.lstM hp;have pa:s.heap.IsList p its.toArray:=⟨_,e,rfl,n,rfl⟩;have hlen:its.length=ns.length:=by rw[<-rv.length,List.length_map]
 have hlt:p<s.heap.objs.size:=Heap.lt_size e;have num:∀i v,its.toArray[i]?=some v->∃t,v=.int (ns.getD i 0) t/\i<ns.length:=fun i v hv=>by
  rw[List.getElem?_toArray] at hv;have hi:i<its.length:=(List.getElem?_eq_some_iff.mp hv).1;have hi2:i<ns.length:=by omega
  have hx:(ns.map V.int)[i]?=some (.int ns[i]):=by rw[List.getElem?_map,List.getElem?_eq_getElem hi2]; rfl
  obtain⟨u,hu,ru⟩:=rv.get hx;rw[hu] at hv;obtain rfl:u=v:=Option.some.inj hv;obtain⟨t,rfl⟩:=ru;exact⟨t,by rw[List.getD_eq_getElem?_getD,List.getElem?_eq_getElem hi2]; rfl,hi2⟩
 refine call_max_walk (wpAny_pyIter_list pa ?_);refine⟨s.heap.objs.size,_,_,_,_,_,fun i j=>decide (-(ns.getD i 0) < -(ns.getD j 0)),rfl,Walks.list (show X.A.in1.handled=none from I.ok.hd hc) _ p (Nat.ne_of_lt hlt) its.toArray,⟨⟨_,Heap.get?_push_size _ rfl,rfl,rfl⟩,pa.push _⟩,fun b hb=>?_,by rw[List.size_toArray]; omega,fun i j vi vj s' Q' E' hi hj hQ'=>?_,fun v h' tk hv k=>?_⟩
 ·simp only[List.mem_cons,List.not_mem_nil,or_false] at hb;rw[Heap.size_push];rcases hb with rfl | rfl
  ·exact Nat.lt_succ_self _
  ·exact Nat.lt_succ_of_lt hlt
 ·obtain⟨t1,rfl,_⟩:=num i vi hi;obtain⟨t2,rfl,_⟩:=num j vj hj;refine gt_int ?_;have e:decide (ns.getD j 0<ns.getD i 0)=decide (-(ns.getD i 0) < -(ns.getD j 0)):=by
   rw[Bool.eq_iff_iff,decide_eq_true_eq,decide_eq_true_eq];omega
  first
   | (rw[e]; exact hQ')
   | (rw[show decide (ns.getD i 0 > ns.getD j 0)=decide (-(ns.getD i 0) < -(ns.getD j 0)) from e]; exact hQ')
 ·obtain⟨t,rfl,hb⟩:=num _ v hv;obtain⟨h1,h2⟩:=argBest_lt (fun i=>-(ns.getD i 0)) (its.toArray.size-1);refine⟨.int _,H,I.kept fun b o eb=>?_,⟨t,rfl⟩,q _ (getD_mem hb) fun a ha=>?_⟩
  ·exact k b o (fun z=>by
    have:b=s.heap.objs.size:=by simpa using z
    exact absurd (Heap.lt_size eb) (by rw[this]; exact Nat.lt_irrefl _)) (Heap.get?_push_of_some _ eb)
  ·obtain⟨j,hj,rfl⟩:=mem_getD ha
   have:=h2 j (by rw[List.size_toArray]; omega)
   have h3:-(ns.getD (argBest (fun i j=>decide (-(ns.getD i 0) < -(ns.getD j 0))) (its.toArray.size-1)) 0)<=-(ns.getD j 0):=this;omega
end
section
variable {X:Cx}
def rAny(K:PySem.W.Frag):List V->Hp->VK->Prop:=fun xs H Q=>∃(p:Addr) (bs:List Bool),xs=[.ref p]/\SqL K H p (bs.map V.bl)/\Q (.bl (bs.any id)) H
theorem znl(bs:List Bool):((List.range bs.length).any fun i=>(bs[i]?).getD true)=bs.any id:=by
 rw[Bool.eq_iff_iff,List.any_eq_true,List.any_eq_true];constructor
 ·rintro⟨i,hi,h⟩;have hl:=List.mem_range.mp hi;rw[List.getElem?_eq_getElem hl] at h;exact⟨_,List.getElem_mem hl,h⟩
 ·rintro⟨b,hb,h⟩;obtain⟨i,hi,rfl⟩:=List.mem_iff_getElem.mp hb;exact⟨i,List.mem_range.mpr hi,by rw[List.getElem?_eq_getElem hi]; exact h⟩
theorem bt_any:bootBuiltins "any" = some (.builtin "any"):=by decide +kernel
theorem zn7(hc:X.calm=true):CallR X (.builtin "any") (rAny X.K):=by
 intro pins s σ H xs us Q I r h;obtain⟨p,bs,rfl,hq,q⟩:=h;obtain⟨u,rfl,r1⟩:=vals1 r;cases r1;obtain⟨its,rv,pl,hz⟩:=I.list hq;have e:=zhd rv;subst e;have hlt:p<s.heap.objs.size:=by
  obtain⟨o,_,ho,_⟩:=pl;exact Heap.lt_size ho
 refine call_any_walk (wpAny_pyIter_list pl.isList ?_);refine⟨s.heap.objs.size,_,_,_,_,_,fun i=>(bs[i]?).getD true,rfl,Walks.list (show X.A.in1.handled=none from I.ok.hd hc) _ p (Nat.ne_of_lt hlt) (bs.map Value.bool).toArray,⟨⟨_,Heap.get?_push_size _ rfl,rfl,rfl⟩,pl.isList.push _⟩,fun i v s' Q' E' hP hQ'=>?_,fun h' tk k=>?_⟩
 ·have hP:(bs.map Value.bool).toArray[i]?=some v:=hP;have hQ':Q' ((bs[i]?).getD true) s':=hQ';rw[List.getElem?_toArray,List.getElem?_map] at hP;cases e:bs[i]? with
  | none=>rw[e] at hP; cases hP
  | some b =>
   rw[e] at hP;obtain rfl:Value.bool b=v:=Option.some.inj hP;have hQ2:Q' b s':=by
    rw[e] at hQ';exact hQ'
   exact wpAny_pure hQ2
 ·refine⟨.bl (bs.any id),H,I.kept fun b o eb=>?_,?_,q⟩
  ·exact k b o (fun z=>by
    have:b=s.heap.objs.size:=by simpa using z
    exact absurd (Heap.lt_size eb) (by rw[this]; exact Nat.lt_irrefl _)) (Heap.get?_push_of_some _ eb)
  ·show Value.bool _=Value.bool _;rw[List.size_toArray,List.length_map,znl]
end
theorem zpf{xs:Array Nat}{j:Nat}(hs:xs.toList.Pairwise (· < ·)):∀(fuel lo hi:Nat),lo<=hi->hi<=xs.size->hi-lo<=fuel->(∀(i x:Nat),i<lo->xs[i]?=some x->x<j)->(∀(i x:Nat),hi<=i->xs[i]?=some x->j<=x) →
  SetTable.below.go xs j fuel lo hi<=xs.size/\(∀(i x:Nat),i<SetTable.below.go xs j fuel lo hi->xs[i]?=some x->x<j)/\(∀(i x:Nat),SetTable.below.go xs j fuel lo hi<=i->xs[i]?=some x->j<=x):=by
 have mono:∀(a b x y:Nat),a<b->xs[a]?=some x->xs[b]?=some y->x<y:=fun a b x y hab ha hb=>by
  rw[<-Array.getElem?_toList] at ha hb;obtain⟨h1,rfl⟩:=List.getElem?_eq_some_iff.mp ha;obtain⟨h2,rfl⟩:=List.getElem?_eq_some_iff.mp hb;exact List.pairwise_iff_getElem.mp hs a b h1 h2 hab
 intro fuel
 induction fuel with
 | zero =>
  intro lo hi h1 h2 h3 h4 h5;obtain rfl:lo=hi:=by omega
  exact⟨h2,h4,h5⟩
 | succ f ih =>
  intro lo hi h1 h2 h3 h4 h5;unfold SetTable.below.go;by_cases c:lo<hi
  ·rw[if_pos c];have hm:(lo+hi) / 2<xs.size:=by omega
   have em:xs[(lo+hi) / 2]?=some xs[(lo+hi) / 2]:=Array.getElem?_eq_getElem hm;have eg:xs.getD ((lo+hi) / 2) j=xs[(lo+hi) / 2]:=by rw[Array.getD_eq_getD_getElem?,em]; rfl
   dsimp only;rw[eg];by_cases d:xs[(lo+hi) / 2]<j
   ·rw[if_pos d];refine ih _ _ (by omega) h2 (by omega) (fun i x hi' e=>?_) h5;rcases Nat.lt_or_ge i ((lo+hi) / 2) with z | z
    ·exact Nat.lt_trans (mono i _ x _ z e em) d
    ·obtain rfl:i=(lo+hi) / 2:=by omega
     rw[em] at e; cases e; exact d
   ·rw[if_neg d];refine ih _ _ (by omega) (by omega) (by omega) h4 (fun i x hi' e=>?_);rcases Nat.lt_or_ge ((lo+hi) / 2) i with z | z
    ·have:=mono _ i _ x z em e; omega
    ·obtain rfl:i=(lo+hi) / 2:=by omega
     rw[em] at e; cases e; omega
  ·rw[if_neg c];obtain rfl:lo=hi:=by omega
   exact⟨h2,h4,h5⟩
theorem zjd{xs:Array Nat}(hs:xs.toList.Pairwise (· < ·))(j:Nat):SetTable.below xs j<=xs.size/\(∀(i x:Nat),i<SetTable.below xs j->xs[i]?=some x->x<j)/\(∀(i x:Nat),SetTable.below xs j<=i->xs[i]?=some x->j<=x):=by
 unfold SetTable.below;exact zpf hs _ 0 xs.size (Nat.zero_le _) (Nat.le_refl _) (by omega) (fun i _ h=>by omega) fun i x h e=>by
  rw[Array.getElem?_eq_none h] at e; cases e
theorem zjy{xs:Array Nat}(hs:xs.toList.Pairwise (· < ·)){j:Nat}(hn:xs[SetTable.below xs j]?≠some j):(SetTable.insertAt xs (SetTable.below xs j) j).toList.Pairwise (· < ·):=by
 obtain⟨b1,b2,b3⟩:=zjd hs j;rw[SetTable.toList_insertAt,List.pairwise_append];have hd:∀y∈xs.toList.drop (SetTable.below xs j),j<y:=fun y hy=>by
  obtain⟨k,hk,rfl⟩:=List.getElem_of_mem hy;rw[List.getElem_drop];have hl:SetTable.below xs j+k<xs.toList.length:=by rw[List.length_drop] at hk; omega
  have e:xs[SetTable.below xs j+k]?=some xs.toList[SetTable.below xs j+k]:=by rw[<-Array.getElem?_toList]; exact List.getElem?_eq_getElem hl
  have:=b3 _ _ (Nat.le_add_right _ _) e
  rcases Nat.lt_or_ge j xs.toList[SetTable.below xs j+k] with z | z
  ·exact z
  ·have ej:xs.toList[SetTable.below xs j+k]=j:=by omega
   cases k with
   | zero=>rw[ej] at e; exact absurd e hn
   | succ k =>
    have hl0:SetTable.below xs j<xs.toList.length:=by omega
    have e0:xs[SetTable.below xs j]?=some xs.toList[SetTable.below xs j]:=by rw[<-Array.getElem?_toList]; exact List.getElem?_eq_getElem hl0
    have g0:=b3 _ _ (Nat.le_refl _) e0
    have:=List.pairwise_iff_getElem.mp hs (SetTable.below xs j) (SetTable.below xs j+(k+1)) hl0 hl (by omega)
    omega
 refine⟨hs.sublist (List.take_sublist _ _),List.pairwise_cons.mpr ⟨hd,hs.sublist (List.drop_sublist _ _)⟩,fun a ha b hb=>?_⟩;have haj:a<j:=by
  obtain⟨k,hk,rfl⟩:=List.getElem_of_mem ha;rw[List.getElem_take];rw[List.length_take] at hk;have hl:k<xs.toList.length:=by omega
  exact b2 k _ (by omega) (by rw[<-Array.getElem?_toList]; exact List.getElem?_eq_getElem hl)
 rcases List.mem_cons.mp hb with z | z
 ·rw[z]; exact haj
 ·exact Nat.lt_trans haj (hd b z)
structure TabI(b:Bool)(t:SetTable):Prop where
 led:t.led=b
 dum:t.dummies = #[]
 ord:t.plain=true->t.place.toList.Pairwise (· < ·)
theorem TabI.stand{b:Bool}{t:SetTable}(x:TabI b t)(n:Nat):TabI b (t.standIn n):=⟨x.led,rfl,fun z=>by cases z⟩
theorem zjp{t:SetTable}(hd:t.dummies = #[]){h:Int}:∀(fuel:Nat) (p:SetTable.Probe) (j:Nat) (d:Option Nat),p.dummy=none->SetTable.probe.go t (fun _=>h+1) h fuel p=some (.empty j d)->d=none/\t.slot j=.empty:=by
 intro fuel
 induction fuel with
 | zero=>intro p j d _ e; cases e
 | succ f ih =>
  intro p j d hp e;have ad:∀q:SetTable.Probe,q.dummy=none->(t.advance q).dummy=none:=fun q hq=>by
   unfold SetTable.advance;split
   ·exact hq
   ·exact hq
  unfold SetTable.probe.go at e;split at e
  ·rename_i hs
   simp only[Option.some.injEq,SetTable.Met.empty.injEq] at e;exact⟨by rw[<-e.2]; exact hp,by rw[<-e.1]; exact hs⟩
  ·rename_i hs
   unfold SetTable.slot at hs;dsimp only at hs;split at hs
   ·cases hs
   ·rw[hd] at hs
    have:SetTable.has #[] p.j=false:=by unfold SetTable.has; simp
    rw[this] at hs;cases hs
  ·rename_i i hs
   have ne:((h+1:Int) == h)=false:=by rw[beq_eq_false_iff_ne]; omega
   rw[ne] at e;exact ih _ j d (ad p hp) e
theorem TabI.lay{b:Bool}{t:SetTable}(x:TabI b t)(es:Array (Int×Value))(h:Int)(v:Value):TabI b (layNew t es h v).2.1:=by
 unfold layNew;cases e:t.freeSlot h with
 | none=>exact x.stand _
 | some q =>
  obtain⟨slot,wd⟩:=q;have hs:t.place[SetTable.below t.place slot]?≠some slot:=by
   unfold SetTable.freeSlot at e;split at e
   ·rename_i j d hp
    obtain⟨rfl,hsl⟩:=zjp x.dum _ _ j d rfl hp;simp only[Option.getD_none,Option.some.injEq,Prod.mk.injEq] at e;rw[<-e.1];intro z;unfold SetTable.slot at hsl;dsimp only at hsl;rw[z] at hsl;simp at hsl
   ·cases e
  have put:TabI b (t.put slot).1:=by
   refine⟨x.led,?_,fun z=>zjy (x.ord z) hs⟩;show(if _ then _ else t.dummies) = #[];rw[x.dum]
   have:SetTable.has #[] slot=false:=by unfold SetTable.has; simp
   rw[this]; rfl
  show TabI b ((t.put slot).1.orStandIn _);unfold SetTable.orStandIn;split
  ·exact put
  ·exact put.stand _
theorem zhx(owner:Array (Option Nat))(n:Nat):(((List.range n).filterMap fun j=>(owner.getD j none).map (j,·)).map (·.1)).Pairwise (· < ·):=by
 have e:∀l:List Nat,((l.filterMap fun j=>(owner.getD j none).map (j,·)).map (·.1))=l.filter fun j=>(owner.getD j none).isSome:=by
  intro l
  induction l with
  | nil=>rfl
  | cons j l ih =>
   rw[List.filterMap_cons,List.filter_cons];cases h:owner.getD j none with
   | none=>simpa using ih
   | some q=>simpa using ih
 rw[e];exact List.pairwise_lt_range.sublist List.filter_sublist
theorem TabI.relay{b:Bool}{t:SetTable}(x:TabI b t)(es:Array (Int×Value))(n:Nat):TabI b (relayAll t es n).2.1:=by
 unfold relayAll;cases e:t.relaid (es.map (·.1)) n with
 | none=>exact x.stand _
 | some q =>
  obtain⟨t',order⟩:=q;dsimp only;split
  ·unfold SetTable.relaid SetTable.laid at e;cases o:SetTable.layClean (SetTable.sizeAbove n-1) (es.map (·.1)) with
   | none=>rw[o] at e; cases e
   | some owner =>
    rw[o] at e;simp only[Option.bind_eq_bind,Option.bind_some,Option.pure_def,Option.some.injEq,Prod.mk.injEq] at e;rw[<-e.1];exact⟨x.led,rfl,fun _=>by simpa using zhx owner _⟩
  ·exact x.stand _
def keyI(e:Int×Value):Int:=match e.2 with
 | .int k _=>k
 | _=>0
def EI(prog:Program)(w:World)(l:List (Int×Value)):Prop:=∀e∈l,∃k t,e=((intKind prog w).hash k,.int k t)
def SetX(prog:Program)(w:World)(b:Bool)(h:Heap)(a:Addr)(ks:List Int):Prop :=
 ∃o es ep t,h.get? a=some o/\o.ExactSet/\o.data=.set es ep t/\EI prog w es.toList/\(es.toList.map keyI).Perm ks/\es.size<scanBound/\t.fits es.size=true/\TabI b t
section
variable {prog:Program} {w:World}
theorem EI.el{l:List (Int×Value)}(h:EI prog w l):ElemsOf (intKind prog w) l:=fun e he=>by
 obtain⟨k,t,rfl⟩:=h e he;exact⟨⟨k,intKind_is prog w k t,rfl⟩,rfl⟩
theorem EI.perm{l m:List (Int×Value)}(h:EI prog w l)(p:List.Perm m l):EI prog w m:=fun e he=>h e (p.mem_iff.mp he)
theorem isI_eq(k k':Int)(t:Tok):(intKind prog w).is k (.int k' t)=decide (k=k'):=KeyKind.is_eq_decide (intKind_is prog w k' t) k
theorem zfc{h:Heap}{a:Addr}{o:Obj}{es:Array (Int×Value)}{ep:Nat}{t:SetTable}(ho:h.get? a=some o)(hd:o.data=.set es ep t)(es':Array (Int×Value))(t':SetTable):
  (h.update a (Obj.putSet es' t')).get? a=some { o with data:=.set es' (ep+1) t' }:=by
 have g:=Heap.get?_update_self (Obj.putSet es' t') ho (by rw[putSet_of es' t' hd]; rfl)
 rwa [putSet_of es' t' hd] at g
variable {A:Around} {E:Value->Shared->Prop} {s:Shared}
theorem zka{b:Bool}{s₁:Shared}{Q:Unit->Shared->Prop}(h:Q () s₁):wpAny (model prog w) A (match b with | true=>rule "set.scan.the-table-gave-way" | false=>pure ()) Q E s₁:=by
 cases b
 ·exact wpAny_pure h
 ·exact wpAny_rule h
theorem zq6 {b:Bool} {a:Addr} {ks:List Int} {k:Int} {tk:Tok} {Q:Bool->Shared->Prop} (hS:SetX prog w b s.heap a ks) (hr:ks.length+1<scanBound)
  (h:∀h',Heap.SameBut a s.heap h'->SetX prog w b h' a (if k∈ks then ks else ks++[k])->Q (!decide (k∈ks)) { s with heap:=h' }) :
  wpAny (model prog w) A (setAddHashed a (.int k tk) ((intKind prog w).hash k)) Q E s:=by
 obtain⟨o,es,ep,t,ho,hex,hd,hel,hp,hb,hf,ti⟩:=hS;have isk:=intKind_is prog w k tk; have scn:(Value.int k tk).scannable=true:=rfl;have sz:es.size=ks.length:=by rw[<-Array.length_toList,<-hp.length_eq,List.length_map]
 have mem:k∈ks↔∃e∈es.toList,(intKind prog w).is k e.2=true:=by
  rw[<-hp.mem_iff,List.mem_map];constructor
  ·rintro⟨e,he,rfl⟩;obtain⟨k',t',rfl⟩:=hel e he;exact⟨_,he,intKind_is prog w k' t'⟩
  ·rintro⟨e,he,q⟩;obtain⟨k',t',rfl⟩:=hel e he;rw[isI_eq,decide_eq_true_eq] at q;exact⟨_,he,q.symm⟩
 unfold setAddHashed setAddHashedIn; refine wpAny_holding ?_;refine wpAny_bind (wpAny_setState_of ho hd hf ?_); dsimp only; rw[byScan_of scn hb hel.el];simp only[↓reduceIte]; unfold setAddByScan;refine wpAny_bind (wpAny_bind (wpAny_rule (wpAny_bind (wpAny_setScan_of isk ho hd hf hel.el ?_))));cases fi:List.findIdx? (fun e=>(intKind prog w).is k e.2) es.toList with
 | some j =>
  obtain⟨hj,hpj,_⟩:=List.findIdx?_eq_some_iff_getElem.mp fi;have hk:k∈ks:=mem.mpr ⟨_,List.getElem_mem hj,hpj⟩;have fin:=h s.heap (Heap.SameBut.refl a s.heap) (by rw[if_pos hk]; exact⟨o,es,ep,t,ho,hex,hd,hel,hp,hb,hf,ti⟩);rw[decide_eq_true hk] at fin;exact wpAny_pure (wpAny_pure fin)
 | none =>
  have hk:¬k∈ks:=fun z=>by
   obtain⟨e,he,q⟩:=mem.mp z;rw[List.findIdx?_eq_none_iff.mp fi e he] at q; cases q
  rw[if_neg hk,decide_eq_false hk] at h;have lp:=layNew_perm t es ((intKind prog w).hash k) (.int k tk); have lf:=layNew_fits t es ((intKind prog w).hash k) (.int k tk); have lt:=ti.lay es ((intKind prog w).hash k) (.int k tk);generalize layNew t es ((intKind prog w).hash k) (.int k tk)=L at lp lf lt ⊢;obtain⟨e1,t1,wd,gv⟩:=L;dsimp only at lp lf lt ⊢;rw[Array.toList_push] at lp;have el1:EI prog w e1.toList:=EI.perm (fun e he=>by
   rcases List.mem_append.mp he with z | z
   ·exact hel e z
   ·exact⟨k,tk,List.mem_singleton.mp z⟩) lp
  have pk1:(e1.toList.map keyI).Perm (ks++[k]):=by
   refine(lp.map keyI).trans ?_;rw[List.map_append];exact hp.append_right _
  have sz1:e1.size=ks.length+1:=by rw[<-Array.length_toList,lp.length_eq,List.length_append,Array.length_toList,sz]; rfl
  have tail:∀t2:SetTable,t2.fits e1.size=true->TabI b t2->wpAny (model prog w) A (do
    storeSet a e1 t2
    if (!wd && t2.tooFull)=true then do
      (match (relayAll t2 e1 (SetTable.grown e1.size)).2.2 with | true=>rule "set.scan.the-table-gave-way" | false=>pure ())
      storeSet a (relayAll t2 e1 (SetTable.grown e1.size)).1 (relayAll t2 e1 (SetTable.grown e1.size)).2.1
      pure (some true)
     else pure (some true)) (fun r s'=>r=some true/\∃h',s'={ s with heap:=h' }/\Heap.SameBut a s.heap h'/\SetX prog w b h' a (ks++[k])) E s:=fun t2 f2 i2=>by
   have b1:e1.size<scanBound:=by omega
   refine wpAny_bind (wpAny_storeSet_of ho hd ?_ (fits_of_scanBound b1));have g1:=zfc ho hd e1 t2; have sb:=Heap.SameBut.update s.heap a (Obj.putSet e1 t2);split
   ·have rp:=relayAll_perm t2 e1 (SetTable.grown e1.size); have rf:=relayAll_fits t2 e1 (SetTable.grown e1.size); have ri:=i2.relay e1 (SetTable.grown e1.size);generalize relayAll t2 e1 (SetTable.grown e1.size)=R at rp rf ri ⊢;obtain⟨e2,t3,gv2⟩:=R;dsimp only at rp rf ri ⊢;have sz2:e2.size=e1.size:=by rw[<-Array.length_toList,rp.length_eq,Array.length_toList]
    refine wpAny_bind (zka (wpAny_bind (wpAny_storeSet_of g1 rfl ?_ (fits_of_scanBound (by omega)))));have g2:=zfc g1 rfl e2 t3;exact wpAny_pure ⟨rfl,_,rfl,sb.trans (Heap.SameBut.update _ a _),_,e2,_,t3,g2,hex,rfl,el1.perm rp,(rp.map keyI).trans pk1,by omega,rf,ri⟩
   ·exact wpAny_pure ⟨rfl,_,rfl,sb,_,e1,_,t2,g1,hex,rfl,el1,pk1,b1,f2,i2⟩
  refine wpAny_bind (zka ?_);split
  ·refine wpAny_bind ?_;rw[hashByValue_scannable 8 scn];refine wpAny_pure (wpAny_mono (tail _ lf lt) (fun r s' x=>?_) fun _ _ z=>z);obtain⟨rfl,h',rfl,x1,x2⟩:=x;exact wpAny_pure (h h' x1 x2)
  ·refine wpAny_bind (wpAny_pure ?_);simp only[↓reduceIte];refine wpAny_mono (tail _ lf lt) (fun r s' x=>?_) fun _ _ z=>z
   obtain⟨rfl,h',rfl,x1,x2⟩:=x;exact wpAny_pure (h h' x1 x2)
end
def addK(acc:List Int)(k:Int):List Int:=if k∈acc then acc else acc++[k]
def addsK(ns:List Int):List Int:=ns.foldl addK []
theorem zk8(ns:List Int)(k:Int):addsK (ns++[k])=addK (addsK ns) k:=by unfold addsK; rw[List.foldl_append]; rfl
theorem zhc(ns:List Int):(addsK ns).length<=ns.length:=by
 have go:∀(l acc:List Int),(l.foldl addK acc).length<=acc.length+l.length:=by
  intro l
  induction l with
  | nil=>intro acc; exact Nat.le_refl _
  | cons k l ih =>
   intro acc;rw[List.foldl_cons];refine Nat.le_trans (ih _) ?_;unfold addK;split
   ·rw[List.length_cons]; omega
   ·rw[List.length_append,List.length_cons,List.length_cons,List.length_nil]; omega
 have:=go ns []
 rw[List.length_nil] at this;unfold addsK; omega
theorem zno(ns:List Int)(k:Int):k∈addsK ns↔k∈ns:=by
 have go:∀(l acc:List Int),k∈l.foldl addK acc↔k∈acc\/k∈l:=by
  intro l
  induction l with
  | nil=>intro acc; simp
  | cons x l ih =>
   intro acc;rw[List.foldl_cons,ih,List.mem_cons];unfold addK;split
   ·rename_i h
    constructor
    ·rintro(z | z)
     ·exact .inl z
     ·exact .inr (.inr z)
    ·rintro(z | rfl | z)
     ·exact .inl z
     ·exact .inl h
     ·exact .inr z
   ·rw[List.mem_append,List.mem_singleton];constructor
    ·rintro((z | z) | z)
     ·exact .inl z
     ·exact .inr (.inl z)
     ·exact .inr (.inr z)
    ·rintro(z | z | z)
     ·exact .inl (.inl z)
     ·exact .inl (.inr z)
     ·exact .inr z
 have:=go ns []
 unfold addsK;simpa using this
theorem zi8(ns:List Int):(addsK ns).Nodup:=by
 have go:∀(l acc:List Int),acc.Nodup->(l.foldl addK acc).Nodup:=by
  intro l
  induction l with
  | nil=>intro acc h; exact h
  | cons x l ih =>
   intro acc h;rw[List.foldl_cons];refine ih _ ?_;unfold addK;split
   ·exact h
   ·rename_i hx
    rw[List.nodup_append];exact⟨h,by simp,fun a ha b hb=>by rw[List.mem_singleton.mp hb]; exact fun z=>hx (z ▸ ha)⟩
 exact go ns [] List.nodup_nil
section
variable {prog:Program} {w:World} {A:Around} {E:Value->Shared->Prop} {s:Shared}
abbrev ledW(w:World):Bool:=!w.params.followText "set-order"
theorem znw{R:Result->Shared->Prop}{St:Nat->Heap->Prop}{I ax S:Addr}{items:Array Value}{ns:List Int}(W:Walks prog w A.in1 I [I,ax] [I] items.size (fun i v=>items[i]?=some v) St)(hSI:S≠I)(hSa:S≠ax)(hv:IntsAre items.toList ns)(hb:items.size+1<scanBound){b:Bool}:
  ∀(k i:Nat) (s:Shared),items.size-i=k->i<=items.size->St i s.heap->SetX prog w b s.heap S (addsK (ns.take i)) →
   (∀h' tk,(∀c o,c≠S->c≠I->s.heap.get? c=some o->h'.get? c=some o)->SetX prog w b h' S (addsK ns)->R (.ok (.ret .none)) { s with heap:=h',toks:=tk }) →
   codeAny (model prog w) A (.builtin "set.update.loop" ⟨[.ref S,.ref I],[]⟩) R s:=by
 have ln:ns.length=items.size:=by rw[<-Array.length_toList]; exact hv.length.symm
 have keepX:∀{h h':Heap} {ks:List Int},SetX prog w b h S ks->(∀o,h.get? S=some o->h'.get? S=some o)->SetX prog w b h' S ks:=fun x k=>by
  obtain⟨o,es,ep,t,ho,rest⟩:=x;exact⟨o,es,ep,t,k o ho,rest⟩
 intro k
 induction k with
 | zero =>
  intro i s hk hi hst hS hR; obtain rfl:i=items.size:=by omega
  refine codeAny_builtin F.entry_set_update_loop ?_; rw[Around.under_plainId F.plain_set_update_loop _]; show wpAny _ A.in1 (pyNext (.ref I) >>= _) _ _ s;refine wpAny_bind (W.done s _ _ hst fun h' tk hk'=>wpAny_pure (hR h' tk (fun c o _ c2 e=>hk' c o (by simpa using c2) e) ?_));rw[List.take_of_length_le (by omega)] at hS;exact keepX hS fun o e=>hk' S o (by simpa using hSI) e
 | succ k ih =>
  intro i s hk hi hst hS hR; have hlt:i<items.size:=by omega
  refine codeAny_builtin F.entry_set_update_loop ?_; rw[Around.under_plainId F.plain_set_update_loop _]; show wpAny _ A.in1 (pyNext (.ref I) >>= _) _ _ s;refine wpAny_bind (W.item i s _ _ hlt hst fun v h' tk hP hst' hk'=>?_);obtain⟨t,rfl⟩:=IntsAre.int_at hv i v (by rw[Array.getElem?_toList]; exact hP);have hS':SetX prog w b h' S (addsK (ns.take i)):=keepX hS fun o e=>hk' S o (by simpa using hSI) e
  show wpAny _ A.in1 (holding [Value.int (ns.getD i 0) t] (setAdd S (.int (ns.getD i 0) t)) >>= _) _ _ _;refine wpAny_bind (wpAny_holding ?_); unfold setAdd; refine wpAny_holding (wpAny_bind ((intKind prog w).pyHash (intKind_is prog w (ns.getD i 0) t) ?_));have room:(addsK (ns.take i)).length+1<scanBound:=by
   have:=zhc (ns.take i)
   rw[List.length_take] at this; omega
  refine zq6 (s:={ s with heap:=h',toks:=tk+1 }) hS' room fun h2 sb x2=>?_
  have eN:addsK (ns.take (i+1))=if ns.getD i 0∈addsK (ns.take i) then addsK (ns.take i) else addsK (ns.take i)++[ns.getD i 0]:=by
   have e:ns[i]?=some (ns.getD i 0):=by rw[List.getD_eq_getElem?_getD,List.getElem?_eq_getElem (by omega)]; rfl
   rw[List.take_add_one,e];exact zk8 _ _
  rw[<-eN] at x2;have fr:∀c o,c≠S->h'.get? c=some o->h2.get? c=some o:=fun c o hc e=>by rw[sb.2 c hc]; exact e
  refine wpAny_pure ⟨plainId_quiet F.plain_set_update_loop _,ih (i+1) _ (by omega) hlt (W.frame _ _ _ hst' fun c hc o e=>fr c o (fun z=>?_) e) x2 fun h3 tk3 k3 x3=>?_⟩
  ·rcases List.mem_cons.mp hc with y | y
   ·exact hSI (z.symm.trans y)
   ·exact hSa (z.symm.trans (List.mem_singleton.mp y))
  ·exact hR h3 tk3 (fun c o c1 c2 e=>k3 c o c1 c2 (fr c o c1 (hk' c o (by simpa using c2) e))) x3
theorem znv(a:Value){Q₁:Value->Shared->Prop}(h:Q₁ (.ref s.heap.objs.size) { s with heap:=s.heap.push { cls:=.type "set",dict:=none,data:=.set #[] 0 (.fresh 0 0 (ledW w)) } }):
  codeAny (model prog w) A (.call (.builtin "set.__new__") ⟨[.type "set",a],[]⟩) (wants Q₁ E) s:=by
 refine codeAny_of_tree ?_; show wpAny _ A.in1 (do checkBuiltinCall "set.__new__" ⟨[.type "set",a],[]⟩; again (.builtin "set.__new__" ⟨[.type "set",a],[]⟩)) _ _ s;refine wpAny_bind (wpAny_of_eq (PySem.F.newCall_set_1 a) (wpAny_pure ⟨plainId_quiet PySem.F.plain_set_new _,codeAny_builtin PySem.F.entry_set_new ?_⟩)); rw[Around.under_plainId PySem.F.plain_set_new _];unfold Builtin.«set.__new__» Builtin.Frozenset.newClass; have hsub:=sub_set_self; obtain⟨hp,g,d,tk,os⟩:=s; dsimp only
 wp_walk
 refine wpAny_askSetting (wpAny_pure ?_); dsimp only; simp only[newObj];refine wpAny_bind (wpAny_alloc (wpAny_pure ?_)); exact wpAny_pure h
end
section
variable {prog:Program} {w:World} {A:Around} {E:Value->Shared->Prop} {s:Shared}
abbrev setO(w:World):Obj:={ cls:=.type "set",dict:=none,data:=.set #[] 0 (.fresh 0 0 (ledW w)) }
theorem znz(h:Heap):SetX prog w (ledW w) (h.push (setO w)) h.objs.size [] :=
 ⟨setO w,#[],0,_,Heap.get?_push_size h rfl,⟨rfl,rfl,rfl⟩,rfl,fun e he=>by simp at he,List.Perm.refl _,by decide,rfl,⟨rfl,rfl,fun _=>List.Pairwise.nil⟩⟩
set_option maxRecDepth 100000 in
set_option maxHeartbeats 3200000 in
theorem zn5 {l:Addr} {items:Array Value} {ns:List Int} {Q:Value->Shared->Prop} (hh:A.handled=none) (hl:s.heap.IsList l items) (hv:IntsAre items.toList ns) (hb:items.size+1<scanBound)
  (h:∀(h':Heap) (tk:Nat),SetX prog w (ledW w) h' s.heap.objs.size (addsK ns)->(∀b o,s.heap.get? b=some o->h'.get? b=some o)->Q (.ref s.heap.objs.size) { s with heap:=h',toks:=tk }) :
  wpAny (model prog w) A (call (.type "set") [.ref l]) Q E s:=by
 obtain⟨c,tl,hmro⟩:=PySem.F.called_set.mro; have hmade:=PySem.F.called_set.made; have hsub:=PySem.F.called_set.sub;refine wpAny_call (codeAny_of_tree ?_); show wpAny _ _ (callAny (.type "set") _) _ _ _;refine wpAny_pure ⟨Code.quiet_builtin _ (by decide +kernel),codeAny_builtin PySem.F.entry_type_call ?_⟩; rw[Around.under_plain (weight_type_call_type "set" [.ref l] []) rfl];have h1:=PySem.F.called_set.notType; have h2:=PySem.F.called_set.canCreate; have hct:=PySem.F.typeCall_set_1 (.ref l)
 repeat (any_goals (first | assumption | wp_step))
 refine codeAny_mono (znv (.ref l) (E:=E) (Q₁:=fun ob s₁=>ob=.ref s.heap.objs.size/\s₁={ s with heap:=s.heap.push (setO w) }) ⟨rfl,rfl⟩) fun r s₁ hr=>?_
 cases r with
 | error e=>exact hr
 | ok fl =>
  cases fl with
  | ret ob =>
   obtain⟨rfl,rfl⟩:=hr;have oS:(s.heap.push (setO w)).get? s.heap.objs.size=some (setO w):=Heap.get?_push_size _ rfl;have hT:Shared.TypeIs { s with heap:=s.heap.push (setO w) } (.ref s.heap.objs.size) "set":=⟨_,oS,rfl⟩;have hli:=PySem.F.called_set.init.lookup; have hbi:=PySem.F.called_set.init.bind (.ref s.heap.objs.size)
   repeat (any_goals (first | assumption | wp_step))
   refine codeAny_mono (codeAny_call_builtin (R:=wants (fun r s₂=>r=.none/\∃h' tk,s₂={ s with heap:=h',toks:=tk }/\SetX prog w (ledW w) h' s.heap.objs.size (addsK ns)/\(∀b o,s.heap.get? b=some o->h'.get? b=some o)) E)
    PySem.F.called_set.init.plain PySem.F.entry_set_init (check_set_init_1 hT ?_)) fun r₂ s₂ hr₂=>?_
   ·obtain⟨ol,hol,hcl,nl,hdl⟩:=hl; obtain⟨oc,od,oda,osl⟩:=ol; simp only at hcl hdl;subst hcl; subst hdl;have hol':(s.heap.push (setO w)).get? l=some { cls:=.type "list",dict:=od,data:=.seq items nl,slots:=osl }:=Heap.get?_push_of_some _ hol;have hsls:=PySem.F.sub_list_set; have hslf:=PySem.F.sub_list_frozenset; have hne:(Value.type "list" == Value.type "dict")=false:=by decide
    have hl1:(s.heap.push (setO w)).IsList l items:=⟨_,hol',rfl,nl,rfl⟩;unfold Builtin.«set.__init__» noKeywords Builtin.Frozenset.updateFrom; generalize hPI:pyIter=PI
    wp_walk
    subst hPI;refine wpAny_pyIter_list hl1 (wpAny_bind (wpAny_runValue ?_));have hlS:l<s.heap.objs.size:=Heap.lt_size hol; have hh3:A.in1.in1.in1.handled=none:=by simp[hh]
    have lI:l≠(s.heap.push (setO w)).objs.size:=by rw[Heap.size_push]; exact Nat.ne_of_lt (Nat.lt_succ_of_lt hlS)
    have sI:s.heap.objs.size≠(s.heap.push (setO w)).objs.size:=by rw[Heap.size_push]; exact Nat.ne_of_lt (Nat.lt_succ_self _)
    refine znw (Walks.list hh3 _ l lI items) sI (Nat.ne_of_gt hlS) hv hb (b:=ledW w) (items.size-0) 0 _ (by omega) (Nat.zero_le _) ⟨⟨_,Heap.get?_push_size _ rfl,rfl,rfl⟩,hl1.push _⟩ ?s0 ?fin
    case s0 =>
     obtain⟨o,es,ep,t,ho,rest⟩:=znz (prog:=prog) (w:=w) s.heap;exact⟨o,es,ep,t,Heap.get?_push_of_some _ ho,rest⟩
    case fin =>
     intro h' tk k3 x3;show wpAny _ _ _ _ _ _;refine wpAny_pure ?_;show wpAny _ _ (ret Value.none) _ _ _;refine wpAny_pure ⟨rfl,h',tk,rfl,x3,fun b o e=>?_⟩;have lb:=Heap.lt_size e;exact k3 b o (Nat.ne_of_lt lb) (by rw[Heap.size_push]; exact Nat.ne_of_lt (Nat.lt_succ_of_lt lb)) (Heap.get?_push_of_some _ (Heap.get?_push_of_some _ e))
   ·cases r₂ with
    | error e=>exact hr₂
    | ok fl₂ =>
     cases fl₂ with
     | ret r =>
      obtain⟨rfl,h',tk,rfl,x3,k3⟩:=hr₂
      repeat (any_goals (first | assumption | wp_step))
      exact h _ _ x3 k3
     | _=>exact hr₂.elim
  | _=>exact hr.elim
end
theorem zgj:Manifest.owners.lookup (String.ofList ['r','o','t','a','r','e','t','i','_','t','e','s'].reverse)=some Manifest.sig_set_iterator:=by kernel_rfl
theorem slot_setit_next:Slot "set_iterator" "__next__" "set_iterator.__next__":=.of (owner:="set_iterator") (n:="__next__") (by rw[typeLookup_type,builtinLookup_eq_fast]; kernel_rfl) (by decide +kernel) (by decide +kernel) (by decide +kernel)
 (by first | exact .inl (by decide +kernel) | exact .inr (by decide +kernel)) (by rw[isSubtype_type]; kernel_rfl)
theorem ze9:entryFor table "set_iterator.__next__" = some Builtin.«set_iterator.__next__»:=entryFor_of_tree (by kernel_rfl)
theorem zf4(a:Value):argsOk "set_iterator.__next__" ⟨[a],[]⟩:=by
 unfold argsOk; rw[signature?_of (id:="set_iterator.__next__") (n:=['_','_','t','x','e','n','_','_']) (o:=['r','o','t','a','r','e','t','i','_','t','e','s']) (by kernel_rfl) zgj]; kernel_rfl
theorem zcy:Slot "set_iterator" "__iter__" "set_iterator.__iter__":=.of (owner:="set_iterator") (n:="__iter__") (by rw[typeLookup_type,builtinLookup_eq_fast]; kernel_rfl) (by decide +kernel) (by decide +kernel) (by decide +kernel)
 (by first | exact .inl (by decide +kernel) | exact .inr (by decide +kernel)) (by rw[isSubtype_type]; kernel_rfl)
theorem zea:entryFor table "set_iterator.__iter__" = some Builtin.«dict_keyiterator.__iter__»:=entryFor_alias (id':="dict_keyiterator.__iter__") (by kernel_rfl) rfl (by decide +kernel) (by kernel_rfl)
theorem zf5(a:Value):argsOk "set_iterator.__iter__" ⟨[a],[]⟩:=by
 unfold argsOk; rw[signature?_of (id:="set_iterator.__iter__") (n:=['_','_','r','e','t','i','_','_']) (o:=['r','o','t','a','r','e','t','i','_','t','e','s']) (by kernel_rfl) zgj]; kernel_rfl
theorem zex:entryFor table "set.__iter__" = some Builtin.«frozenset.__iter__»:=entryFor_alias (id':="frozenset.__iter__") (by kernel_rfl) rfl (by decide +kernel) (by kernel_rfl)
section
variable {prog:Program} {w:World} {A:Around} {E:Value->Shared->Prop} {s:Shared}
theorem zfm{α:Type}{l:List α}{i:Nat}(h:i<l.length):(l[i] :: l.eraseIdx i).Perm l:=by
 rw[List.eraseIdx_eq_take_drop_succ];have e:l=l.take i++l[i] :: l.drop (i+1):=by rw[List.getElem_cons_drop,List.take_append_drop]
 conv=>rhs; rw[e]
 exact List.perm_middle.symm
theorem zk6{src:Source}{n:Nat}{Q:Nat->Shared->Prop}(hn:n≠0)(h:Q (w.draws src (s.drawn.get src) % n) { s with drawn:=s.drawn.bump src }):wpAny (model prog w) A (choose src n) Q E s:=fun _ _ _=>⟨hn,h⟩
theorem zl2{α:Type}(next:Nat->Nat)(xs:Array α):(pickOrder next xs).toList.Perm xs.toList:=by
 have go:∀(fuel k:Nat) (left:List α) (out:Array α),left.length<=fuel->(pickOrder.go next fuel k left out).toList.Perm (out.toList++left):=by
  intro fuel
  induction fuel with
  | zero =>
   intro k left out hl;obtain rfl:left=[]:=List.length_eq_zero_iff.mp (by omega);unfold pickOrder.go;simp
  | succ f ih =>
   intro k left out hl;unfold pickOrder.go;cases e:left[next k % left.length]? with
   | none =>
    dsimp only
    have:left=[]:=by
     cases left with
     | nil=>rfl
     | cons x l =>
      have:=Nat.mod_lt (next k) (show 0<(x :: l).length by simp)
      rw[List.getElem?_eq_getElem this] at e; cases e
    rw[this]; simp
   | some x =>
    dsimp only;obtain⟨hk,ex⟩:=List.getElem?_eq_some_iff.mp e;refine(ih _ _ _ (by rw[List.length_eraseIdx_of_lt hk]; omega)).trans ?_;rw[Array.toList_push,List.append_assoc];refine List.Perm.append_left _ ?_;rw[<-ex];exact zfm hk
 have:=go xs.size 0 xs.toList #[] (by simp)
 simpa [pickOrder] using this
theorem zj5{α:Type}{R:List α->Shared->Prop}:∀(n:Nat) (xs:List α) (s:Shared),n=xs.length->(∀ys d',ys.Perm xs->R ys { s with drawn:=d' })->wpAny (model prog w) A (drawOrder n xs) R E s
 | 0,xs,s,hn,h=>by
  obtain rfl:xs=[]:=List.length_eq_zero_iff.mp hn.symm;unfold drawOrder;exact wpAny_pure (h [] s.drawn (List.Perm.refl _))
 | n+1,[],s,hn,h=>by cases hn
 | n+1,x :: xs,s,hn,h=>by
  unfold drawOrder;refine wpAny_bind (zk6 (by simp) ?_);have hk:=Nat.mod_lt (w.draws .order (s.drawn.get .order)) (show 0<(x :: xs).length by simp);generalize w.draws .order (s.drawn.get .order) % (x :: xs).length=i at hk ⊢;rw[List.getElem?_eq_getElem hk];dsimp only;refine wpAny_bind (zj5 n ((x :: xs).eraseIdx i) _ (by rw[List.length_eraseIdx_of_lt hk]; simp at hn ⊢; omega) fun ys d' p=>wpAny_pure (h _ d' ?_));exact(List.Perm.cons _ p).trans (zfm hk)
end
section
variable {prog:Program} {w:World} {A:Around} {E:Value->Shared->Prop} {s:Shared}
abbrev sitO(first:Value)(i:Nat)(a:Addr)(n ep:Nat):Obj:={ cls:=.type "set_iterator",data:=.fields #[first,.int i 0,.ref a,.int n 0,.int ep 0] }
theorem zdk {I:Addr} {first:Value} {i:Nat} {a:Addr} {n ep:Nat} {Q:Option Value->Shared->Prop} (hI:s.heap.get? I=some (sitO first i a n ep))
  (hc:wpAny (model prog w) A.in1 (Builtin.«set_iterator.__next__» ⟨[.ref I],[]⟩) (fun fin s'=>∃r,fin=.done (.ret r)/\Q (some r) s') (fun e s'=>∃ob o,s'.heap.get? ob=some o/\o.cls=.type "StopIteration"/\e=.ref ob/\Q none s') s) :
  wpAny (model prog w) A (pyNext (.ref I)) Q E s:=by
 have hT:s.TypeIs (.ref I) "set_iterator":=⟨_,hI,rfl⟩;unfold pyNext;refine wpAny_bind (wpAny_attempt (wpAny_callSpecial?_slot (name:=Str.ofString "__next__") hT slot_setit_next (wpAny_call_entry slot_setit_next hT ze9 ?_ (zf4 _))));refine wpAny_mono hc (fun fin s' x=>?_) (fun e s' x=>?_)
 ·obtain⟨r,rfl,q⟩:=x;exact⟨r,rfl,wpAny_pure q⟩
 ·obtain⟨ob,o,ho,hcl,rfl,q⟩:=x;refine wpAny_bind (wpAny_isInstance (T:="StopIteration") (b:=true) ⟨_,ho,hcl⟩ isSubtype_stop ?_);exact wpAny_pure q
theorem set_field{h:Heap}{I:Addr}{f0 f1 f2 f3 f4:Value}{cl:Value}(hI:h.get? I=some { cls:=cl,data:=.fields #[f0,f1,f2,f3,f4] })(k:Nat)(v:Value):
  (h.update I (Obj.mapFields (·.setIfInBounds k v))).get? I=some { cls:=cl,data:=.fields (#[f0,f1,f2,f3,f4].setIfInBounds k v) }:=Heap.get?_update_self _ hI rfl
theorem zie {h:Heap} {I:Addr} {R:Fin->Shared->Prop} {X:Value->Shared->Prop} (hh:A.handled=none) (s₁:Shared) (he:Heap.ExtBut I h s₁.heap)
  (hX:∀ob o h',h'.get? ob=some o->o.cls=.type "StopIteration"->Heap.ExtBut I h h'->X (.ref ob) { s₁ with heap:=h' }):wpAny (model prog w) A (newExc (.type "StopIteration") [] >>= fun e=>raiseNew e) R X s₁:=by
 refine wpAny_bind ?_; simp only[newExc,newTuple];refine wpAny_bind (wpAny_newObj_type ?_ (by size_fits)); refine wpAny_bind (m:=firstArgMember _ _) (wpAny_of_eq (a:=Value.none) (by first | rfl | (simp only[firstArgMember]; rfl)) ?_);refine wpAny_newObj_type ?_ (by size_fits); simp only[raiseNew];refine wpAny_bind (wpAny_handled ?_); rw[hh];refine wpAny_bind (wpAny_pure (wpAny_throw ?_));exact hX _ _ _ (Heap.get?_push_size _ rfl) rfl ((he.push _).push _)
section
variable {I a:Addr} {o:Obj} {es:Array (Int×Value)} {i n ep sl:Nat} {t:SetTable} {Q:Option Value->Shared->Prop}
theorem zr3 {v:Value} {nx:Nat} (hI:s.heap.get? I=some (sitO (.int sl 0) i a n ep)) (ho:s.heap.get? a=some o) (hd:o.data=.set es ep t) (hf:t.fits es.size=true) (hn:es.size=n)
  (hN:∀(A':Around) (E':Value->Shared->Prop) (Q':Option (Value×Nat)->Shared->Prop),Q' (some (v,nx)) s->wpAny (model prog w) A' (setNext a sl i ep) Q' E' s)
  (hQ:∀h',h'.get? I=some (sitO (.int nx 0) (i+1) a n ep)->Heap.SameBut I s.heap h'->Q (some v) { s with heap:=h' }):wpAny (model prog w) A (pyNext (.ref I)) Q E s:=by
 refine zdk hI ?_;unfold Builtin.«set_iterator.__next__»;refine wpAny_bind (wpAny_pure ?_);refine wpAny_bind (wpAny_fieldsOf hI rfl ?_);show wpAny _ _ (setEntries a >>= _) _ _ s;refine wpAny_bind (wpAny_setEntries_of ho hd hf ?_);rw[if_neg (by simp[hn])];show wpAny _ _ (setNext a ((sl:Int).toNat) ((i:Int).toNat) ((ep:Int).toNat) >>= _) _ _ s;simp only[Int.toNat_natCast];refine wpAny_bind (hN _ _ _ ?_);show wpAny _ _ (setField (.ref I) 0 (rawInt nx) >>= _) _ _ s;refine wpAny_bind (wpAny_setField hI rfl (by simp) ?_);have g1:=set_field hI 0 (rawInt nx);show wpAny _ _ (setField (.ref I) 1 (rawInt ((i:Int)+1)) >>= _) _ _ _;refine wpAny_bind (wpAny_setField g1 rfl (by simp) (wpAny_pure ⟨v,rfl,hQ _ ?_ ?_⟩))
 ·have g2:=set_field (f0:=rawInt nx) (by simpa using g1) 1 (rawInt ((i:Int)+1));rw[g2]; simp[rawInt]
 ·exact(Heap.SameBut.update ..).trans (Heap.SameBut.update ..)
theorem it_end (hh:A.handled=none) (hI:s.heap.get? I=some (sitO (.int sl 0) i a n ep)) (ho:s.heap.get? a=some o) (hd:o.data=.set es ep t) (hf:t.fits es.size=true) (hn:es.size=n)
  (hN:∀(A':Around) (E':Value->Shared->Prop) (Q':Option (Value×Nat)->Shared->Prop),Q' none s->wpAny (model prog w) A' (setNext a sl i ep) Q' E' s)
  (hQ:∀h',Heap.ExtBut I s.heap h'->Q none { s with heap:=h' }):wpAny (model prog w) A (pyNext (.ref I)) Q E s:=by
 refine zdk hI ?_;unfold Builtin.«set_iterator.__next__»;refine wpAny_bind (wpAny_pure ?_);refine wpAny_bind (wpAny_fieldsOf hI rfl ?_);show wpAny _ _ (setEntries a >>= _) _ _ s;refine wpAny_bind (wpAny_setEntries_of ho hd hf ?_);rw[if_neg (by simp[hn])];show wpAny _ _ (setNext a ((sl:Int).toNat) ((i:Int).toNat) ((ep:Int).toNat) >>= _) _ _ s;simp only[Int.toNat_natCast];refine wpAny_bind (hN _ _ _ ?_);show wpAny _ _ (setField (.ref I) 2 .none >>= _) _ _ s;refine wpAny_bind (wpAny_setField hI rfl (by simp) ?_);exact zie (A:=A.in1) (h:=s.heap) (I:=I) hh { s with heap:=s.heap.update I (Obj.mapFields (·.setIfInBounds 2 Value.none)) } (Heap.SameBut.update ..).extBut (fun ob o' h' e1 e2 e3=>⟨ob,o',e1,e2,rfl,hQ h' e3⟩)
end
end
section
variable {prog:Program} {w:World} {A:Around} {E:Value->Shared->Prop} {s:Shared} {a I:Addr} {o:Obj} {es:Array (Int×Value)} {i n ep:Nat} {t:SetTable}
theorem zg5{Q:Bool->Shared->Prop}(h:Q (w.params.followText "set-order") s):wpAny (model prog w) A setsByText Q E s:=by
 unfold setsByText; exact wpAny_bind (wpAny_askSetting (wpAny_pure h))
def slP(t:SetTable):Nat->Nat
 | 0=>0
 | i+1=>t.place.getD i 0+1
theorem znh{t:SetTable}(hs:t.place.toList.Pairwise (· < ·)):∀i,i<=t.place.size->SetTable.below t.place (slP t i)=i:=by
 have mono:∀(a b x y:Nat),a<b->t.place[a]?=some x->t.place[b]?=some y->x<y:=fun a b x y hab ha hb=>by
  rw[<-Array.getElem?_toList] at ha hb;obtain⟨h1,rfl⟩:=List.getElem?_eq_some_iff.mp ha;obtain⟨h2,rfl⟩:=List.getElem?_eq_some_iff.mp hb;exact List.pairwise_iff_getElem.mp hs a b h1 h2 hab
 intro i hi;obtain⟨b1,b2,b3⟩:=zjd hs (slP t i);rcases Nat.lt_trichotomy (SetTable.below t.place (slP t i)) i with z | z | z
 ·have e:t.place[SetTable.below t.place (slP t i)]?=some t.place[SetTable.below t.place (slP t i)]:=Array.getElem?_eq_getElem (by omega);have g:=b3 _ _ (Nat.le_refl _) e;generalize t.place[SetTable.below t.place (slP t i)]=x at e g;cases i with
  | zero=>omega
  | succ i =>
   have ei:t.place[i]?=some t.place[i]:=Array.getElem?_eq_getElem (by omega);have gi:slP t (i+1)=t.place[i]+1:=by show t.place.getD i 0+1=_; rw[Array.getD_eq_getD_getElem?,ei]; rfl
   rcases Nat.lt_or_ge (SetTable.below t.place (slP t (i+1))) i with y | y
   ·have:=mono _ _ _ _ y e ei; omega
   ·have eb:SetTable.below t.place (slP t (i+1))=i:=by omega
    rw[eb,ei] at e;cases e; omega
 ·exact z
 ·have ei:t.place[i]?=some t.place[i]:=Array.getElem?_eq_getElem (by omega);have g:=b2 i _ z ei;generalize t.place[i]=x at ei g;cases i with
  | zero=>simp[slP] at g
  | succ i =>
   have e0:t.place[i]?=some t.place[i]:=Array.getElem?_eq_getElem (by omega);have gi:slP t (i+1)=t.place[i]+1:=by show t.place.getD i 0+1=_; rw[Array.getD_eq_getD_getElem?,e0]; rfl
   have:=mono i (i+1) _ _ (by omega) e0 ei
   omega
theorem zol (hb:w.params.followText "set-order" = false) (ho:s.heap.get? a=some o) (hd:o.data=.set es ep t) (hf:t.fits es.size=true) (ti:TabI true t) (hp:(!t.plain && decide (es.size > 1))=false) (hi:i<=es.size)
  {Q:Option (Value×Nat)->Shared->Prop} (h:Q (if i<es.size then some ((es.getD i (0,.none)).2,slP t (i+1)) else none) s):wpAny (model prog w) A (setNext a (slP t i) i ep) Q E s:=by
 have sz:t.place.size=es.size:=by
  unfold SetTable.fits at hf;simp only[Bool.and_eq_true,beq_iff_eq] at hf;exact hf.1
 have ord:t.place.toList.Pairwise (· < ·):=by
  cases hpl:t.plain with
  | true=>exact ti.ord hpl
  | false =>
   rw[hpl] at hp
   have:t.place.toList.length<=1:=by simp at hp; rw[Array.length_toList]; omega
   match hl:t.place.toList,this with
   | [],_=>exact List.Pairwise.nil
   | [x],_=>exact List.pairwise_singleton _ _
 unfold setNext;refine wpAny_bind (wpAny_setState_of ho hd hf ?_);refine wpAny_bind (zg5 ?_);rw[hb];refine wpAny_ite_split (fun z=>by cases z) (fun _=>?_);refine wpAny_ite_split (fun z=>absurd z (show ¬((!t.plain && decide (es.size > 1))=true) by rw[hp]; decide)) (fun _=>?_);refine wpAny_bind ?_;refine wpAny_ite_split (fun z=>absurd z (show ¬((!t.led && !es.isEmpty)=true) by rw[ti.led]; simp)) (fun _=>wpAny_pure ?_);rw[znh ord i (by omega)];refine wpAny_pure ?_;rcases Nat.lt_or_ge i es.size with z | z
 ·rw[if_pos z] at h;have e1:es[i]?=some (es.getD i (0,.none)):=by rw[Array.getD_eq_getD_getElem?,Array.getElem?_eq_getElem z]; rfl
  have e2:t.place[i]?=some (t.place.getD i 0):=by rw[Array.getD_eq_getD_getElem?,Array.getElem?_eq_getElem (by omega)]; rfl
  rw[e1,e2];exact h
 ·rw[if_neg (by omega)] at h;rw[Array.getElem?_eq_none z];exact h
theorem zll (hb:w.params.followText "set-order" = true) (ho:s.heap.get? a=some o) (hd:o.data=.set es ep t) (hf:t.fits es.size=true)
  {Q:Option (Value×Nat)->Shared->Prop} (h:Q ((pickOrder (w.params.setOrder a ep) es)[i]?.map fun e=>(e.2,0)) s):wpAny (model prog w) A (setNext a 0 i ep) Q E s:=by
 unfold setNext;refine wpAny_bind (wpAny_setState_of ho hd hf ?_);refine wpAny_bind (zg5 ?_);rw[hb];refine wpAny_ite_split (fun _=>?_) (fun z=>absurd rfl z);dsimp only;refine wpAny_ite_split (fun z=>absurd z (by simp)) (fun _=>?_);unfold setWalk;refine wpAny_bind (wpAny_bind (wpAny_setState_of ho hd hf ?_));refine wpAny_bind (zg5 ?_);rw[hb];refine wpAny_ite_split (fun _=>?_) (fun z=>absurd rfl z);refine wpAny_bind (wpAny_askSetting (wpAny_pure ?_));exact wpAny_pure h
end
section
variable {prog:Program} {w:World} {A:Around} {E:Value->Shared->Prop} {s:Shared} {a I:Addr} {o:Obj} {es:Array (Int×Value)} {i n ep:Nat} {t:SetTable}
theorem zp1{Q:Bool->Shared->Prop}(hT:s.TypeIs (.ref a) "set")(h:Q false s):wpAny (model prog w) A (Builtin.List.listLengthHint (.ref a)) Q E s:=by
 unfold Builtin.List.listLengthHint; refine wpAny_bind (wpAny_specialOf hT PySem.F.slot_set_len.lookup ?_);generalize hid:("set.__len__":String)=id0
 wp_delta
 rw[show splitId id0=some ("set","__len__") from by subst hid; decide +kernel]; subst hid;refine wpAny_bind (wpAny_isInstance (T:="set") (b:=true) hT (by rw[isSubtype_type]; kernel_rfl) ?_);refine wpAny_ite_split (fun z=>absurd z (by decide)) (fun _=>wpAny_ite_split (fun _=>?_) (fun z=>absurd (by decide +kernel) z));exact wpAny_bind (wpAny_typeOf hT (wpAny_pure h))
abbrev tupO(ys:List Nat):Obj:={ cls:=.type "tuple",data:=.seq (ys.map fun y:Nat=>rawInt (y:Int)).toArray }
theorem zny {Q:Value->Shared->Prop} (ho:s.heap.get? a=some o) (hx:o.ExactSet) (hd:o.data=.set es ep t) (hf:t.fits es.size=true) (hz:es.size<=sizeLine)
  (h1:(!w.params.followText "set-order" && (!t.plain && decide (es.size > 1)))=false->Q (.ref s.heap.objs.size) { s with heap:=s.heap.push (sitO (.int 0 0) 0 a es.size ep) })
  (h2:(!w.params.followText "set-order" && (!t.plain && decide (es.size > 1)))=true->∀ys d',ys.Perm (List.range es.size)->Q (.ref (s.heap.objs.size+1)) { s with heap:=(s.heap.push (tupO ys)).push (sitO (.ref s.heap.objs.size) 0 a es.size ep),drawn:=d' }) :
  wpAny (model prog w) A (pyIter (.ref a)) Q E s:=by
 have hT:s.TypeIs (.ref a) "set":=⟨o,ho,hx.1⟩;refine wpAny_pyIter_slot hT PySem.F.slot_set_iter (wpAny_call_entry PySem.F.slot_set_iter hT zex ?_ (PySem.F.args_set_iter_1 _));unfold Builtin.«frozenset.__iter__»;refine wpAny_bind (wpAny_pure ?_);unfold Builtin.Frozenset.sizeOf;refine wpAny_bind (wpAny_bind (wpAny_setEntries_of ho hd hf (wpAny_pure ?_)));unfold setDrawn;refine wpAny_bind (wpAny_bind (wpAny_setState_of ho hd hf (wpAny_bind (zg5 (wpAny_pure ?_)))));refine wpAny_ite_split (fun z=>?_) (fun z=>?_)
 ·have z':(!w.params.followText "set-order" && (!t.plain && decide (es.size > 1)))=true:=z;refine wpAny_bind (zj5 es.size (List.range es.size) s (by simp) fun ys d' p=>?_);have ly:ys.length=es.size:=by rw[p.length_eq,List.length_range]
  unfold newTuple;refine wpAny_bind (wpAny_newObj_type ?_ (by simp only[sizeOk,List.size_toArray,List.length_map,ly]; exact hz));have ho':=Heap.get?_push_of_some (tupO ys) ho;refine wpAny_bind (wpAny_setEpoch_of (s:={ s with heap:=s.heap.push (tupO ys),drawn:=d' }) ho' hd hf ?_);unfold newFields;refine wpAny_bind (wpAny_newObj_type (wpAny_pure ⟨_,rfl,"set_iterator",_,⟨_,Heap.get?_push_size _ rfl,rfl⟩,slot_setit_next.lookup,?_⟩));have fin:=h2 z' ys d' p;have e:(s.heap.push (tupO ys)).objs.size=s.heap.objs.size+1:=Heap.size_push ..;simp only[e];exact fin
 ·refine wpAny_bind (wpAny_pure ?_);refine wpAny_bind (wpAny_setEpoch_of ho hd hf ?_);unfold newFields;refine wpAny_bind (wpAny_newObj_type (wpAny_pure ⟨_,rfl,"set_iterator",_,⟨_,Heap.get?_push_size _ rfl,rfl⟩,slot_setit_next.lookup,?_⟩));have z':(!w.params.followText "set-order" && (!t.plain && decide (es.size > 1)))=false:=by
   have:¬(!w.params.followText "set-order" && (!t.plain && decide (es.size > 1)))=true:=z
   rwa [Bool.not_eq_true] at this
  exact h1 z'
end
section
variable {prog:Program} {w:World} {A:Around} {E:Value->Shared->Prop} {s:Shared} {a I tp:Addr} {o:Obj} {es:Array (Int×Value)} {i n ep:Nat} {t:SetTable} {Q:Option Value->Shared->Prop}
theorem zk1 {ys:List Nat} {y:Nat} {e:Int×Value} (hI:s.heap.get? I=some (sitO (.ref tp) i a n ep)) (hT:s.heap.get? tp=some (tupO ys)) (ho:s.heap.get? a=some o) (hd:o.data=.set es ep t) (hf:t.fits es.size=true) (hn:es.size=n) (hy:ys[i]?=some y) (he:es[y]?=some e)
  (hQ:∀h',h'.get? I=some (sitO (.ref tp) (i+1) a n ep)->Heap.SameBut I s.heap h'->Q (some e.2) { s with heap:=h' }):wpAny (model prog w) A (pyNext (.ref I)) Q E s:=by
 refine zdk hI ?_;unfold Builtin.«set_iterator.__next__»;refine wpAny_bind (wpAny_pure (wpAny_bind (wpAny_fieldsOf hI rfl ?_)));show wpAny _ _ (setEntries a >>= _) _ _ s;refine wpAny_bind (wpAny_setEntries_of ho hd hf ?_); rw[if_neg (by simp[hn])];show wpAny _ _ (seqItems? (.ref tp) >>= _) _ _ s;refine wpAny_bind (wpAny_seqItems hT rfl ?_);have e1:(ys.map fun y:Nat=>rawInt (y:Int)).toArray[((i:Int)).toNat]?=some (rawInt (y:Int)):=by
  rw[Int.toNat_natCast,List.getElem?_toArray,List.getElem?_map,hy]; rfl
 dsimp only;rw[e1];show wpAny _ _ (setNextDrawn a ((y:Int).toNat) ((ep:Int).toNat) >>= _) _ _ s;rw[Int.toNat_natCast,Int.toNat_natCast];unfold setNextDrawn;refine wpAny_bind (wpAny_bind (wpAny_setState_of ho hd hf ?_));refine wpAny_ite_split (fun z=>absurd z (by simp)) (fun _=>?_);rw[he];refine wpAny_pure ?_;show wpAny _ _ (setField (.ref I) 1 (rawInt ((i:Int)+1)) >>= _) _ _ s;refine wpAny_bind (wpAny_setField hI rfl (by simp) (wpAny_pure ⟨e.2,rfl,hQ _ ?_ (Heap.SameBut.update ..)⟩));rw[set_field hI 1 (rawInt ((i:Int)+1))]; simp[rawInt]
theorem zmn {ys:List Nat} (hh:A.handled=none) (hI:s.heap.get? I=some (sitO (.ref tp) i a n ep)) (hT:s.heap.get? tp=some (tupO ys)) (ho:s.heap.get? a=some o) (hd:o.data=.set es ep t) (hf:t.fits es.size=true) (hn:es.size=n) (hy:ys[i]?=none)
  (hQ:∀h',Heap.ExtBut I s.heap h'->Q none { s with heap:=h' }):wpAny (model prog w) A (pyNext (.ref I)) Q E s:=by
 refine zdk hI ?_;unfold Builtin.«set_iterator.__next__»;refine wpAny_bind (wpAny_pure (wpAny_bind (wpAny_fieldsOf hI rfl ?_)));show wpAny _ _ (setEntries a >>= _) _ _ s;refine wpAny_bind (wpAny_setEntries_of ho hd hf ?_); rw[if_neg (by simp[hn])];show wpAny _ _ (seqItems? (.ref tp) >>= _) _ _ s;refine wpAny_bind (wpAny_seqItems hT rfl ?_);have e1:(ys.map fun y:Nat=>rawInt (y:Int)).toArray[((i:Int)).toNat]?=none:=by
  rw[Int.toNat_natCast,List.getElem?_toArray,List.getElem?_map,hy]; rfl
 dsimp only;rw[e1];show wpAny _ _ (setField (.ref I) 0 (rawInt 0) >>= _) _ _ s;refine wpAny_bind (wpAny_setField hI rfl (by simp) ?_);have g1:=set_field hI 0 (rawInt 0);show wpAny _ _ (setField (.ref I) 2 .none >>= _) _ _ _;refine wpAny_bind (wpAny_setField g1 rfl (by simp) ?_);exact zie (A:=A.in1) (h:=s.heap) (I:=I) hh { s with heap:=(s.heap.update I (Obj.mapFields (·.setIfInBounds 0 (rawInt 0)))).update I (Obj.mapFields (·.setIfInBounds 2 Value.none)) } ((Heap.SameBut.update ..).trans (Heap.SameBut.update ..)).extBut (fun ob o' h' e1 e2 e3=>⟨ob,o',e1,e2,rfl,hQ h' e3⟩)
theorem zgr{first:Value}{Q:Value->Shared->Prop}(hI:s.heap.get? I=some (sitO first i a n ep))(h:Q (.ref I) s):wpAny (model prog w) A (pyIter (.ref I)) Q E s:=by
 have hT:s.TypeIs (.ref I) "set_iterator":=⟨_,hI,rfl⟩;refine wpAny_pyIter_slot hT zcy (wpAny_call_entry zcy hT zea ?_ (zf5 _));show wpAny _ _ (ret (.ref I)) _ _ s;exact wpAny_pure ⟨_,rfl,"set_iterator",_,hT,slot_setit_next.lookup,h⟩
theorem zia (hh:A.handled=none) (hne:a≠I) (hd:o.data=.set es ep t) (hf:t.fits es.size=true) (hn:es.size=n) (sl:Nat->Nat) (val:Nat->Value)
  (hN:∀(s:Shared),s.heap.get? a=some o->∀i,i<=n->∀(A':Around) (E':Value->Shared->Prop) (Q':Option (Value×Nat)->Shared->Prop),Q' (if i<n then some (val i,sl (i+1)) else none) s->wpAny (model prog w) A' (setNext a (sl i) i ep) Q' E' s) :
  Walks prog w A I [I,a] [I] n (fun i v=>v=val i) (fun i h=>h.get? I=some (sitO (.int (sl i) 0) i a n ep)/\h.get? a=some o) where
 sub:=fun b hb=>by simp at hb; simp[hb]
 frame:=fun i h h' st hk=>⟨hk I (by simp) _ st.1,hk a (by simp) _ st.2⟩
 item:=fun i s Q E hi st hQ=>by
  refine zr3 (v:=val i) (nx:=sl (i+1)) st.1 st.2 hd hf hn (fun A' E' Q' q=>hN s st.2 i (by omega) A' E' Q' (by rw[if_pos hi]; exact q)) fun h' e1 e2=>?_
  exact hQ _ h' s.toks rfl ⟨e1,by rw[e2.2 a hne]; exact st.2⟩ fun b ob hb e=>by rw[e2.2 b (by simpa using hb)]; exact e
 done:=fun s Q E st hQ=>by
  refine it_end hh st.1 st.2 hd hf hn (fun A' E' Q' q=>hN s st.2 n (Nat.le_refl _) A' E' Q' (by rw[if_neg (Nat.lt_irrefl _)]; exact q)) fun h' e1=>?_
  exact hQ h' s.toks fun b ob hb e=>e1 b ob (by simpa using hb) e
 self:=fun i s Q E st hQ=>zgr st.1 hQ
theorem zjg(hh:A.handled=none)(hne:a≠I)(hnt:tp≠I)(hd:o.data=.set es ep t)(hf:t.fits es.size=true)(hn:es.size=n){ys:List Nat}(hp:ys.Perm (List.range n)):
  Walks prog w A I [I,a,tp] [I] n (fun i v=>∃y e,ys[i]?=some y/\es[y]?=some e/\v=e.2) (fun i h=>h.get? I=some (sitO (.ref tp) i a n ep)/\h.get? a=some o/\h.get? tp=some (tupO ys)) where
 sub:=fun b hb=>by simp at hb; simp[hb]
 frame:=fun i h h' st hk=>⟨hk I (by simp) _ st.1,hk a (by simp) _ st.2.1,hk tp (by simp) _ st.2.2⟩
 item:=fun i s Q E hi st hQ=>by
  have ly:ys.length=n:=by rw[hp.length_eq,List.length_range]
  have ey:ys[i]?=some ys[i]:=List.getElem?_eq_getElem (by omega);have hy:ys[i]<es.size:=by rw[hn]; exact List.mem_range.mp (hp.mem_iff.mp (List.getElem_mem _))
  have ee:es[ys[i]]?=some es[ys[i]]:=Array.getElem?_eq_getElem hy;refine zk1 st.1 st.2.2 st.2.1 hd hf hn ey ee fun h' e1 e2=>?_
  exact hQ _ h' s.toks ⟨_,_,ey,ee,rfl⟩ ⟨e1,by rw[e2.2 a hne]; exact st.2.1,by rw[e2.2 tp hnt]; exact st.2.2⟩ fun b ob hb e=>by rw[e2.2 b (by simpa using hb)]; exact e
 done:=fun s Q E st hQ=>by
  have ly:ys.length=n:=by rw[hp.length_eq,List.length_range]
  refine zmn hh st.1 st.2.2 st.2.1 hd hf hn (List.getElem?_eq_none (by omega)) fun h' e1=>?_
  exact hQ h' s.toks fun b ob hb e=>e1 b ob (by simpa using hb) e
 self:=fun i s Q E st hQ=>zgr st.1 hQ
end
end L2
namespace L2
open PySem PySem.Spec PyProof.Rows PySem.W
section
variable {prog:Program} {w:World} {A:Around} {E:Value->Shared->Prop} {s:Shared} {a S:Addr} {n:Nat}
theorem zrd {R:Result->Shared->Prop} {Good:List Value->Prop} {res:Value} {c₀:Nat} (hT:s.TypeIs (.ref a) "set") (hSa:S≠a) (hS:s.heap.get? S=some { cls:=.type "list",data:=.seq #[] c₀ }) (hn:n<=sizeLine)
  (hit:∀E':Value->Shared->Prop,wpAny (model prog w) A.in1 (pyIter (.ref a)) (fun it s1=>∃(I:Addr) (h1:Heap) (d1:Drawn) (fp:List Addr) (P:Nat->Value->Prop) (St:Nat->Heap->Prop),it=.ref I/\s1={ s with heap:=h1,drawn:=d1 }/\Walks prog w A.in1 I fp [I] n P St/\S∉fp/\St 0 h1/\(∀b o,s.heap.get? b=some o->h1.get? b=some o)/\s.heap.get? I=none/\∀acc,ItemsOf P acc n->Good acc.toList) E' s)
  (hR:∀h' tk d' acc c,(∀b o,b≠S->s.heap.get? b=some o->h'.get? b=some o)->h'.get? S=some { cls:=.type "list",dict:=none,data:=.seq acc c,slots:=#[] }->Good acc.toList->R (.ok (.ret res)) { s with heap:=h',toks:=tk,drawn:=d' }) :
  wpAny (model prog w) A.in1 (Builtin.List.listExtendWith (.ref S) (.ref a) res) (fun fin s'=>match fin with | .done f=>R (.ok f) s' | .again c'=>c'.quiet=true/\codeAny (model prog w) A c' R s') (fun e s'=>R (.error e) s') s:=by
 unfold Builtin.List.listExtendWith; refine wpAny_bind (wpAny_typeOf (T:="set") hT ?_);have r1:Builtin.List.listSameRef (.ref S) (.ref a)=false:=by simp[Builtin.List.listSameRef,hSa]
 have r2:(Value.type "set" == Value.type "list")=false:=by decide
 have r3:(Value.type "set" == Value.type "tuple")=false:=by decide
 simp only[r1,r2,r3,Bool.or_false,Bool.false_eq_true,if_false];refine wpAny_bind (wpAny_mono (hit _) (fun it s1 x=>?_) fun _ _ z=>z);obtain⟨I,h1,d1,fp,P,St,rfl,rfl,W,hSf,st,k1,nI,good⟩:=x;have S1:=k1 _ _ hS;have key:∀(h:Heap) (c₁ tk:Nat),St 0 h->(∀b o,b≠S->s.heap.get? b=some o->h.get? b=some o)->h.get? S=some { cls:=.type "list",data:=.seq #[] c₁ }->codeAny (model prog w) A (.builtin "list.extend.loop" ⟨[.ref S,.ref I,res],[]⟩) R { s with heap:=h,toks:=tk,drawn:=d1 }:=fun h c₁ tk hst hk hS₁=>by
  refine codeAny_extend_loopS W.toS hn S hSf res n 0 _ #[] c₁ rfl (Nat.zero_le _) hst hS₁ (ItemsOf.nil _) fun s' acc' c' hm hS' hacc=>?_
  have es:=Moved.eq_with hm;rw[es];refine hR s'.heap s'.toks d1 acc' c' (fun b o hb e=>hm.heap b o (fun hmem=>?_) (hk b o hb e)) hS' (good _ hacc);rcases List.mem_cons.mp hmem with z | z
  ·exact hb z
  ·rw[List.mem_singleton.mp z,nI] at e; cases e
 have hT1:Shared.TypeIs { s with heap:=h1,drawn:=d1 } (.ref a) "set":=by
  obtain⟨oT,e1,e2⟩:=hT;exact⟨oT,k1 _ _ e1,e2⟩
 refine wpAny_bind (wpAny_holding (zp1 hT1 ?_));refine wpAny_ite_split (fun _=>?_) (fun _=>wpAny_pure ⟨plainId_quiet PySem.F.plain_extend_loop _,key _ c₀ _ st (fun b o _ e=>k1 b o e) S1⟩);refine wpAny_bind (wpAny_rule (wpAny_bind ?_));show wpAny _ _ (updateSeq S (·.push .none) >>= fun _=>updateSeq S (·.pop)) _ _ _;refine wpAny_bind (wpAny_updateSeq S1 rfl ?_);have S2:=Heap.get?_update_self (Obj.mapSeq (·.push Value.none)) S1 rfl;refine wpAny_updateSeq (hz:=by seq_fits) S2 rfl ?_;have S3:=Heap.get?_update_self (Obj.mapSeq (·.pop)) S2 rfl;refine wpAny_pure ⟨plainId_quiet PySem.F.plain_extend_loop _,key _ _ _ ?_ (fun b o hb e=>?_) S3⟩
 ·refine W.frame 0 _ _ st fun b hb o e=>?_
  have hbS:b≠S:=fun z=>hSf (z ▸ hb)
  rw[Heap.get?_update_other _ _ (Ne.symm hbS),Heap.get?_update_other _ _ (Ne.symm hbS)]; exact e
 ·rw[Heap.get?_update_other _ _ (Ne.symm hb),Heap.get?_update_other _ _ (Ne.symm hb)]; exact k1 b o e
theorem zmc:∀{l:List (Int×Value)},EI prog w l->IntsAre (l.map (·.2)) (l.map keyI)
 | [],_=>.nil
 | e :: l,h=>by
  obtain⟨k,t,rfl⟩:=h e (by simp);exact .cons k t (zmc fun x hx=>h x (by simp[hx]))
def GoodS(ks:List Int)(vs:List Value):Prop:=∃ms,IntsAre vs ms/\ms.Perm ks
theorem zi4{l m:List (Int×Value)}{ks:List Int}(h:EI prog w l)(p:m.Perm l)(q:(l.map keyI).Perm ks):GoodS ks (m.map (·.2)):=⟨m.map keyI,zmc (h.perm p),(p.map keyI).trans q⟩
theorem zev{P:Nat->Value->Prop}{acc:Array Value}{vs:List Value}(h:ItemsOf P acc vs.length)(hv:∀i v,i<vs.length->P i v->vs[i]?=some v):acc.toList=vs:=by
 refine List.ext_getElem? fun i=>?_
 rcases Nat.lt_or_ge i vs.length with z | z
 ·have hi:i<acc.size:=by rw[h.1]; exact z
  rw[Array.getElem?_toList,Array.getElem?_eq_getElem hi];exact(hv i _ z (h.2 i _ (Array.getElem?_eq_getElem hi))).symm
 ·rw[List.getElem?_eq_none z,List.getElem?_eq_none (by rw[Array.length_toList,h.1]; exact z)]
theorem zma{ks:List Int}(hh:A.handled=none)(x:SetX prog w (ledW w) s.heap a ks)(hSs:S<s.heap.objs.size)(hSa:S≠a):
  wpAny (model prog w) A (pyIter (.ref a)) (fun it s1=>∃(I:Addr) (h1:Heap) (d1:Drawn) (fp:List Addr) (P:Nat->Value->Prop) (St:Nat->Heap->Prop),it=.ref I/\s1={ s with heap:=h1,drawn:=d1 }/\Walks prog w A I fp [I] ks.length P St/\S∉fp/\St 0 h1/\(∀b o,s.heap.get? b=some o->h1.get? b=some o)/\s.heap.get? I=none/\∀acc,ItemsOf P acc ks.length->GoodS ks acc.toList) E s:=by
 obtain⟨o,es,ep,t,ho,hex,hd,hel,hp,hb,hf,ti⟩:=x;have sz:es.size=ks.length:=by rw[<-Array.length_toList,<-hp.length_eq,List.length_map]
 have la:=Heap.lt_size ho;refine zny ho hex hd hf (fits_of_scanBound hb) (fun z=>?_) (fun z ys d' yp=>?_)
 ·have aI:a≠s.heap.objs.size:=Nat.ne_of_lt la;have hSf:S∉[s.heap.objs.size,a]:=by simp only[List.mem_cons,List.not_mem_nil,or_false,not_or]; exact⟨Nat.ne_of_lt hSs,hSa⟩
  have gI:(s.heap.push (sitO (.int 0 0) 0 a es.size ep)).get? s.heap.objs.size=some (sitO (.int 0 0) 0 a es.size ep):=Heap.get?_push_size _ rfl;have ga:=Heap.get?_push_of_some (sitO (.int 0 0) 0 a es.size ep) ho;cases hbt:w.params.followText "set-order" with
  | true =>
   have pp:=zl2 (w.params.setOrder a ep) es;have ps:(pickOrder (w.params.setOrder a ep) es).size=es.size:=by rw[<-Array.length_toList,pp.length_eq,Array.length_toList]
   refine⟨_,_,s.drawn,_,_,_,rfl,rfl,zia hh aI hd hf sz (fun _=>0) (fun i=>((pickOrder (w.params.setOrder a ep) es).getD i (0,.none)).2) (fun s' ho' i hi A' E' Q' q=>zll hbt ho' hd hf ?_),hSf,⟨by rw[<-sz]; exact gI,ga⟩,fun b ob e=>Heap.get?_push_of_some _ e,Heap.get?_none_of_le (Nat.le_refl _),fun acc ha=>?_⟩
   ·rcases Nat.lt_or_ge i ks.length with y | y
    ·rw[if_pos y] at q;have e1:(pickOrder (w.params.setOrder a ep) es)[i]?=some ((pickOrder (w.params.setOrder a ep) es).getD i (0,.none)):=by rw[Array.getD_eq_getD_getElem?,Array.getElem?_eq_getElem (by omega)]; rfl
     rw[e1]; exact q
    ·rw[if_neg (by omega)] at q;rw[Array.getElem?_eq_none (by omega)]; exact q
   ·have lv:((pickOrder (w.params.setOrder a ep) es).toList.map (·.2)).length=ks.length:=by rw[List.length_map,Array.length_toList,ps,sz]
    rw[zev (vs:=(pickOrder (w.params.setOrder a ep) es).toList.map (·.2)) (by rw[lv]; exact ha) (fun i v hi e=>by
     rw[lv] at hi;rw[e,List.getElem?_map,Array.getElem?_toList,Array.getD_eq_getD_getElem?,Array.getElem?_eq_getElem (by omega)]; rfl)]
    exact zi4 hel pp hp
  | false =>
   rw[hbt] at z;have z':(!t.plain && decide (es.size > 1))=false:=by simpa using z
   have ti':TabI true t:=⟨by rw[ti.led]; show(!w.params.followText "set-order")=true; rw[hbt]; rfl,ti.dum,ti.ord⟩;refine⟨_,_,s.drawn,_,_,_,rfl,rfl,zia hh aI hd hf sz (slP t) (fun i=>(es.getD i (0,.none)).2) (fun s' ho' i hi A' E' Q' q=>zol hbt ho' hd hf ti' z' (by omega) (by rw[sz]; exact q)),hSf,⟨by rw[<-sz]; exact gI,ga⟩,fun b ob e=>Heap.get?_push_of_some _ e,Heap.get?_none_of_le (Nat.le_refl _),fun acc ha=>?_⟩;have lv:(es.toList.map (·.2)).length=ks.length:=by rw[List.length_map,Array.length_toList,sz]
   rw[zev (vs:=es.toList.map (·.2)) (by rw[lv]; exact ha) (fun i v hi e=>by
    rw[lv] at hi;rw[e,List.getElem?_map,Array.getElem?_toList,Array.getD_eq_getD_getElem?,Array.getElem?_eq_getElem (by omega)]; rfl)]
   exact zi4 hel (List.Perm.refl _) hp
 ·have e1:(s.heap.push (tupO ys)).objs.size=s.heap.objs.size+1:=Heap.size_push ..;have aI:a≠s.heap.objs.size+1:=Nat.ne_of_lt (Nat.lt_succ_of_lt la);have tI:s.heap.objs.size≠s.heap.objs.size+1:=Nat.ne_of_lt (Nat.lt_succ_self _);have hSf:S∉[s.heap.objs.size+1,a,s.heap.objs.size]:=by simp only[List.mem_cons,List.not_mem_nil,or_false,not_or]; exact⟨Nat.ne_of_lt (Nat.lt_succ_of_lt hSs),hSa,Nat.ne_of_lt hSs⟩
  have yp':ys.Perm (List.range ks.length):=by rw[<-sz]; exact yp
  have gI:((s.heap.push (tupO ys)).push (sitO (.ref s.heap.objs.size) 0 a es.size ep)).get? (s.heap.objs.size+1)=some (sitO (.ref s.heap.objs.size) 0 a es.size ep):=by rw[<-e1]; exact Heap.get?_push_size _ rfl
  refine⟨_,_,d',_,_,_,rfl,rfl,zjg (tp:=s.heap.objs.size) hh aI tI hd hf sz yp',hSf,⟨by rw[<-sz]; exact gI,Heap.get?_push_of_some _ (Heap.get?_push_of_some _ ho),Heap.get?_push_of_some _ (Heap.get?_push_size _ rfl)⟩,fun b ob e=>Heap.get?_push_of_some _ (Heap.get?_push_of_some _ e),Heap.get?_none_of_le (Nat.le_succ _),fun acc ha=>?_⟩;have ly:ys.length=ks.length:=by rw[yp'.length_eq,List.length_range]
  have pm:(ys.filterMap fun y=>es[y]?).Perm es.toList:=(yp.filterMap _).trans (by rw[filterMap_getElem?_range]);have em:∀l:List Nat,(∀y∈l,y<es.size)->l.filterMap (fun y=>es[y]?)=l.map fun y=>es.getD y (0,.none):=by
   intro l
   induction l with
   | nil=>intro _; rfl
   | cons y l ih =>
    intro hl;have e0:es[y]?=some (es.getD y (0,.none)):=by rw[Array.getD_eq_getD_getElem?,Array.getElem?_eq_getElem (hl y (by simp))]; rfl
    rw[List.filterMap_cons,e0,List.map_cons];exact congrArg _ (ih fun x hx=>hl x (by simp[hx]))
  rw[em ys fun y hy=>List.mem_range.mp (yp.mem_iff.mp hy)] at pm;have lv:((ys.map fun y=>es.getD y (0,.none)).map (·.2)).length=ks.length:=by rw[List.length_map,List.length_map,ly]
  rw[zev (vs:=(ys.map fun y=>es.getD y (0,.none)).map (·.2)) (by rw[lv]; exact ha) (fun i v hi e=>by
   obtain⟨y,q,e1,e2,rfl⟩:=e;rw[List.getElem?_map,List.getElem?_map,e1];show some (es.getD y (0,.none)).2=_;rw[Array.getD_eq_getD_getElem?,e2]; rfl)]
  exact zi4 hel pm hp
end
section
variable {prog:Program} {w:World} {A:Around} {E:Value->Shared->Prop} {s:Shared} {a:Addr}
theorem SetX.keep{b:Bool}{h h':Heap}{ks:List Int}(x:SetX prog w b h a ks)(k:∀o,h.get? a=some o->h'.get? a=some o):SetX prog w b h' a ks:=by
 obtain⟨o,es,ep,t,ho,rest⟩:=x;exact⟨o,es,ep,t,k o ho,rest⟩
theorem SetX.type{b:Bool}{ks:List Int}(x:SetX prog w b s.heap a ks):s.TypeIs (.ref a) "set":=by
 obtain⟨o,es,ep,t,ho,hex,_⟩:=x;exact⟨o,ho,hex.1⟩
theorem zi6 {R:List Value->Shared->Prop} {ks:List Int} (hh:A.handled=none) (x:SetX prog w (ledW w) s.heap a ks) (hn:ks.length<=sizeLine)
  (h:∀(h':Heap) (tk:Nat) (d':Drawn) (vs:List Value),(∀b o,s.heap.get? b=some o->h'.get? b=some o)->s.heap.objs.size<h'.objs.size->GoodS ks vs->R vs { s with heap:=h',toks:=tk,drawn:=d' }):wpAny (model prog w) A (collect (.ref a)) R E s:=by
 have la:a<s.heap.objs.size:=by
  obtain⟨o,_,_,_,ho,_⟩:=x;exact Heap.lt_size ho
 unfold collect; refine wpAny_bind (wpAny_runValue (codeAny_builtin entry_proto_collect' ?_)); rw[Around.under_plainId PySem.F.plain_proto_collect _];show wpAny _ A.in1 (newList [] >>= fun l=>again (.builtin "list.__iadd__" ⟨[l,.ref a],[]⟩)) _ _ s;refine wpAny_bind (wpAny_newObj_type (wpAny_pure ⟨plainId_quiet PySem.F.plain_list_iadd _,codeAny_builtin entry_list_iadd' ?_⟩)); rw[Around.under_plainId PySem.F.plain_list_iadd _];have gS:(s.heap.push { cls:=.type "list",data:=.seq ([]:List Value).toArray }).get? s.heap.objs.size=some { cls:=.type "list",data:=.seq #[] }:=Heap.get?_push_size _ rfl;show wpAny _ A.in1 (Builtin.List.listExtendWith (.ref s.heap.objs.size) (.ref a) (.ref s.heap.objs.size)) _ _ _;have x1:SetX prog w (ledW w) (s.heap.push { cls:=.type "list",data:=.seq ([]:List Value).toArray }) a ks:=x.keep fun o e=>Heap.get?_push_of_some _ e
 have ls:s.heap.objs.size<(s.heap.push { cls:=.type "list",data:=.seq ([]:List Value).toArray }).objs.size:=by rw[Heap.size_push]; exact Nat.lt_succ_self _
 have go:=zrd (A:=A) (s:={ s with heap:=s.heap.push { cls:=.type "list",data:=.seq ([]:List Value).toArray } }) (a:=a) (S:=s.heap.objs.size) (n:=ks.length) (Good:=GoodS ks) (res:=.ref s.heap.objs.size) (c₀:=0)
  (R:=fun (q:Result) (s':Shared)=>∃(h':Heap) (tk:Nat) (d':Drawn) (acc:Array Value) (c:Nat),q=.ok (.ret (.ref s.heap.objs.size))/\s'={ s with heap:=h',toks:=tk,drawn:=d' }/\(∀b o,s.heap.get? b=some o->h'.get? b=some o)/\h'.get? s.heap.objs.size=some { cls:=.type "list",dict:=none,data:=.seq acc c,slots:=#[] }/\GoodS ks acc.toList)
  (SetX.type (s:={ s with heap:=s.heap.push { cls:=.type "list",data:=.seq ([]:List Value).toArray } }) x1) (Nat.ne_of_gt la) gS hn (fun E'=>zma (A:=A.in1) (s:={ s with heap:=s.heap.push { cls:=.type "list",data:=.seq ([]:List Value).toArray } }) hh x1 ls (Nat.ne_of_gt la))
  (fun h' tk d' acc c k1 k2 k3=>⟨h',tk,d',acc,c,rfl,rfl,fun b o e=>k1 b o (Nat.ne_of_lt (Heap.lt_size e)) (Heap.get?_push_of_some _ e),k2,k3⟩)
 refine wpAny_mono go (fun fin s' y=>?_) fun e s' y=>?_
 ·cases fin with
  | done f =>
   obtain⟨h',tk,d',acc,c,e,rfl,k1,k2,k3⟩:=y;cases e;show wpAny _ A (load s.heap.objs.size >>= _) _ _ _;exact wpAny_bind (wpAny_load k2 (wpAny_pure (h h' tk d' acc.toList k1 (Heap.lt_size k2) k3)))
  | again c₁ =>
   refine⟨y.1,codeAny_mono y.2 fun q s₂ y=>?_⟩;obtain⟨h',tk,d',acc,c,rfl,rfl,k1,k2,k3⟩:=y;show wpAny _ A (load s.heap.objs.size >>= _) _ _ _;exact wpAny_bind (wpAny_load k2 (wpAny_pure (h h' tk d' acc.toList k1 (Heap.lt_size k2) k3)))
 ·obtain⟨_,_,_,_,_,e',_⟩:=y;cases e'
theorem zjl {ks:List Int} {Q:Value->Shared->Prop} (hh:A.handled=none) (x:SetX prog w (ledW w) s.heap a ks) (h64:ks.length<64)
  (h:∀(D:Addr) (h':Heap) (tk:Nat) (d':Drawn) (out:Array Value) (e:Nat) (ms:List Int),(∀b o,s.heap.get? b=some o->h'.get? b=some o)->s.heap.objs.size<=D->h'.get? D=some (seqObj "list" out e)->IntsAre out.toList ms->ms.Perm ks->ms.Pairwise (·<=·)->Q (.ref D) { s with heap:=h',toks:=tk,drawn:=d' }) :
  wpAny (model prog w) A (call (.builtin "sorted") [.ref a]) Q E s:=by
 refine Calls.call_function_entry kind_sorted plain_sorted entry_sorted (args_sorted1 _) ?_; unfold Builtin.«sorted»;refine wpAny_bind (m:=checkCount "sorted" 1 1 _) (wpAny_pure (wpAny_bind (zi6 (A:=A.in1) hh x (by rw[sizeLine_eq]; omega) fun h1 tk d1 vs k1 lh gd=>?_)));obtain⟨ns,hI,hP⟩:=gd;have lv:vs.length<64:=by rw[hI.length,hP.length_eq]; exact h64
 refine wpAny_bind (wpAny_newList ?_ (by rw[sizeLine_eq]; omega));have hL:(h1.push (seqObj "list" vs.toArray 0)).get? h1.objs.size=some (seqObj "list" vs.toArray 0):=Heap.get?_push_size _ rfl;refine wpAny_bind (wpAny_holding (wpAny_call_entry slot_list_sort ⟨_,hL,rfl⟩ entry_list_sort (list_sort_tree hL hI lv fun out ns' a1 a2 a3=>⟨_,rfl,wpAny_pure ⟨_,rfl,?_⟩⟩) (args_list_sort _)));obtain⟨e,he⟩:=sortedHeap_at (out:=out) hL;refine h _ _ _ d1 out e ns' (fun b o eb=>?_) (Nat.le_of_lt lh) he a1 (a2.trans hP) a3;have g1:=k1 b o eb;rw[sortedHeap_old (Nat.ne_of_lt (Heap.lt_size g1)) (by rw[Heap.size_push]; exact Nat.lt_succ_of_lt (Heap.lt_size g1))];exact Heap.get?_push_of_some _ g1
end
section
variable {X:Cx}
theorem zmb{pins:List (Addr×Obj)}{σ:St}{H:Hp}{s:Shared}(I:Inv X pins σ H s)(d:Drawn):Inv X pins σ H { s with drawn:=d }:=⟨I.ok,I.os,I.bare,I.base,I.loc,I.cell,I.free,I.freeC,I.pin,I.hok,I.len⟩
def setH(P:Program)(w:World)(a:Addr)(ks:List Int):HO:=.ext fun h=>SetX P w (ledW w) h a ks
theorem zq7{P:Program}{w:World}{H:Hp}{h:Heap}{a:Addr}{ks:List Int}(x:SetX P w (ledW w) h a ks):ObjOk P w H h a (setH P w a ks) :=
 ⟨x,let ⟨o,_,_,_,ho,_⟩:=x; ⟨o,ho⟩,fun _ _ y k=>y.keep fun o e=>k o e⟩
theorem zn4(hc:X.calm=true):CallR X (.type "set") (fun xs H Q=>∃(p:Addr) (ns:List Int),xs=[.ref p]/\SqL X.K H p (ns.map V.int)/\ns.length<=1000/\∀a,H a=none->Q (.ref a) (upd H a (setH X.prog X.w a (addsK ns)))):=by
 intro pins s σ H xs us Q I r h;obtain⟨p,ns,rfl,hp,hl,q⟩:=h;obtain⟨u,rfl,r1⟩:=vals1 r;cases r1;obtain⟨its,rv,pl,_⟩:=I.list hp;have hlen:its.length=ns.length:=by rw[<-rv.length,List.length_map]
 refine zn5 (I.ok.hd hc) pl.isList (ns:=ns) (by simpa using ze0 rv) (by rw[List.size_toArray,hlen]; unfold scanBound; omega) fun h' tk x k=>?_
 have hn:H s.heap.objs.size=none:=I.hok.fresh (Nat.le_refl _);exact⟨.ref s.heap.objs.size,_,I.laid (t':=tk) (fun b u e=>k b u e) (Nat.le_refl _) (zq7 x),rfl,q _ hn⟩
theorem zk2(hc:X.calm=true):CallR X (.builtin "sorted") (fun xs H Q=>∃(a:Addr) (ks:List Int),xs=[.ref a]/\H a=some (setH X.prog X.w a ks)/\ks.length<64/\∀(l:Addr) (ms:List Int),H l=none->ms.Perm ks->ms.Pairwise (·<=·)->Q (.ref l) (upd H l (.lst (ms.map V.int)))):=by
 intro pins s σ H xs us Q I r h;obtain⟨a,ks,rfl,ha,h64,q⟩:=h;obtain⟨u,rfl,r1⟩:=vals1 r;cases r1;have x:SetX X.prog X.w (ledW X.w) s.heap a ks:=(I.hok a _ ha).1;refine zjl (I.ok.hd hc) x h64 fun D h' tk d' out e ms k hD he a1 a2 a3=>?_
 have hz:(ms.map V.int).length<=sizeLine:=by rw[List.length_map,a2.length_eq,sizeLine_eq]; omega
 have hn:H D=none:=I.hok.fresh hD;exact⟨.ref D,_,zmb (I.laid (t':=tk) (fun b u e=>k b u e) hD (show ObjOk X.prog X.w _ _ _ (.lst (ms.map V.int)) from ⟨hz,out.toList,e,zq1 a1,he⟩)) d',rfl,q _ ms hn a2 a3⟩
end
section
variable {prog:Program} {w:World} {A:Around} {E:Value->Shared->Prop} {s:Shared}
theorem sortedHeap_old{h:Heap}{a:Addr}{vs:List Value}{out:Array Value}{b:Addr}{o:Obj}(hb:b≠a)(e:h.get? b=some o):(sortedHeap h a vs out).get? b=some o:=by
 unfold sortedHeap;rw[Heap.get?_update_ne _ _ _ _ hb];refine Heap.get?_push_of_some _ (Heap.get?_push_of_some _ ?_);rw[Heap.get?_update_ne _ _ _ _ hb]; exact e
theorem sortedHeap_at{h:Heap}{a:Addr}{vs:List Value}{out:Array Value}{n:Nat}(ho:h.get? a=some (seqObj "list" vs.toArray n)):∃e,(sortedHeap h a vs out).get? a=some (seqObj "list" out e):=by
 obtain⟨e1,ho1⟩:∃e1,(h.update a (Obj.mapSeq fun _=>#[])).get? a=some (seqObj "list" #[] e1):=⟨_,get?_update_seq ho (fun _=>#[])⟩;exact⟨_,get?_update_seq (Heap.get?_push_of_some _ (Heap.get?_push_of_some _ ho1)) (fun _=>out)⟩
end
section
variable {X:Cx}
theorem zeb:∀{bs:List Addr} {us:List Value},Vals (bs.map V.ref) us->us=bs.map Value.ref
 | [],_,.nil=>rfl
 | b :: r,_,.cons (b:=u) h t=>by
  have h':u=Value.ref b:=h;rw[h',zeb t];rfl
end
structure LtOk(n:Nat)(lt:Nat->Nat->Bool):Prop where
 asym:∀i j,lt i j=true->lt j i=false
 trans:∀i j k,lt i j=true->lt j k=true->lt i k=true
 tot:∀i j,i<n->j<n->i≠j->lt i j=true\/lt j i=true
section
variable {n:Nat} {lt:Nat->Nat->Bool} {cmp:Nat->Nat->(Bool->Shared->Prop)->Shared->Prop} {s:Shared} {p:Array Nat}
structure GoodP(n:Nat)(p:Array Nat):Prop where
 pm:p.toList.Perm (List.range n)
 sz:p.size=n
 below:∀k,k<n->p.getD k 0<n
 inj:∀i j,i<n->j<n->p.getD i 0=p.getD j 0->i=j
def UpP(lt:Nat->Nat->Bool)(p:Array Nat)(m:Nat):Prop:=∀i j,i<j->j<m->lt (p.getD i 0) (p.getD j 0)=true
def DnP(lt:Nat->Nat->Bool)(p:Array Nat)(m:Nat):Prop:=∀i j,i<j->j<m->lt (p.getD j 0) (p.getD i 0)=true
theorem zr6{k:Nat}(h:k<p.size):p[k]?=some (p.getD k 0):=by
 rw[Array.getElem?_eq_getElem h]; simp[h]
theorem getD_at{q:Array Nat}{k j:Nat}(hj:j<p.size)(e:q[k]?=p[j]?):q.getD k 0=p.getD j 0:=by
 rw[zr6 hj] at e;simp only[Array.getD_eq_getD_getElem?,e];rfl
theorem zdr{q:Array Nat}(g:GoodP n p)(hq:q.Perm p)(hs:q.size=p.size)(f:Nat->Nat)(ff:∀k,k<n->f k<n)(fi:∀i j,i<n->j<n->f i=f j->i=j)(e:∀k,k<n->q.getD k 0=p.getD (f k) 0):GoodP n q :=
 ⟨(Array.perm_iff_toList_perm.mp hq).trans g.pm,by rw[hs,g.sz],fun k hk=>by rw[e k hk]; exact g.below _ (ff k hk),fun i j hi hj h=>by
  rw[e i hi,e j hj] at h;exact fi i j hi hj (g.inj _ _ (ff i hi) (ff j hj) h)⟩
theorem zkp(g:GoodP n p){m:Nat}(hm:m<=n){k:Nat}(hk:k<n):(kas_rev p 0 m).getD k 0=p.getD (if k<m then m-1-k else k) 0:=by
 have e:=getElem?_mirror_all (xs:=p) (i:=0) (j:=m) (by rw[g.sz]; exact hm) k;unfold kas_rev;split
 ·rename_i h
  rw[if_pos ⟨Nat.zero_le _,h⟩,Nat.zero_add] at e;exact getD_at (by rw[g.sz]; omega) e
 ·rename_i h
  rw[if_neg (fun z=>h z.2)] at e;exact getD_at (by rw[g.sz]; omega) e
theorem zp3(g:GoodP n p){m:Nat}(hm:m<=n):GoodP n (kas_rev p 0 m) :=
 zdr g (mirror_perm _ _ _ _) (mirror_size _ _ _ _) (fun k=>if k<m then m-1-k else k) (fun k hk=>by (try dsimp only); split <;> omega) (fun i j hi hj h=>by
  try dsimp only at h
  split at h <;> split at h <;> omega) fun k hk=>zkp g hm hk
theorem up_rev(g:GoodP n p){m:Nat}(hm:m<=n)(d:DnP lt p m):UpP lt (kas_rev p 0 m) m:=fun i j hij hj=>by
 rw[zkp g hm (by omega),zkp g hm (by omega),if_pos (by omega),if_pos hj];exact d _ _ (by omega) (by omega)
theorem znc(g:GoodP n p){k l:Nat}(hk:k<n)(hl:l<=k){i:Nat}(hi:i<n):(bubble p k (k-l)).getD i 0=p.getD (if i=l then k else if l<i/\i<=k then i-1 else i) 0:=by
 have e:=getElem?_bubble (xs:=p) (src:=k) (by rw[g.sz]; exact hk) (k-l) (by omega) i;rw[show k-(k-l)=l by omega] at e;split
 ·rename_i h
  rw[if_pos h] at e;exact getD_at (by rw[g.sz]; omega) e
 ·rename_i h
  rw[if_neg h] at e;split
  ·rename_i h2
   rw[if_pos h2] at e;exact getD_at (by rw[g.sz]; omega) e
  ·rename_i h2
   rw[if_neg h2] at e;exact getD_at (by rw[g.sz]; omega) e
theorem zp4(g:GoodP n p){k l:Nat}(hk:k<n)(hl:l<=k):GoodP n (bubble p k (k-l)) :=
 zdr g (bubble_perm _ _ _) (bubble_size _ _ _) (fun i=>if i=l then k else if l<i/\i<=k then i-1 else i) (fun i hi=>by (try dsimp only); split <;> (try split) <;> omega) (fun i j hi hj h=>by
  try dsimp only at h
  split at h <;> split at h <;> (try split at h) <;> (try split at h) <;> omega) fun i hi=>znc g hk hl hi
theorem znk(hc:∀i j C,i<n->j<n->C (lt i j) s->cmp i j C s)(g:GoodP n p)(L:LtOk n lt):∀(f a:Nat) {Q:Nat->Shared->Prop},1<=a->a+f<=n->UpP lt p a →
  (∀m,a<=m->m<=a+f->UpP lt p m->(m=a+f\/lt (p.getD m 0) (p.getD (m-1) 0)=true)->Q m s)->(kas_asc p f a).kasWp cmp Q s
 | 0,a,Q,_,_,u,q=>q a (Nat.le_refl _) (Nat.le_refl _) u (.inl rfl)
 | f+1,a,Q,a1,af,u,q=>by
  show cmp _ _ _ s;refine hc _ _ _ (g.below _ (by omega)) (g.below _ (by omega)) ?_;cases e:lt (p.getD a 0) (p.getD (a-1) 0) with
  | true=>exact q a (Nat.le_refl _) (by omega) u (.inr e)
  | false =>
   refine znk hc g L f (a+1) (by omega) (by omega) (fun i j hij hj=>?_) (fun m h1 h2 h3 h4=>q m (by omega) (by omega) h3 (by rcases h4 with z | z; exact .inl (by omega); exact .inr z));have st:lt (p.getD (a-1) 0) (p.getD a 0)=true:=by
    rcases L.tot _ _ (g.below a (by omega)) (g.below (a-1) (by omega)) (fun z=>by have:=g.inj _ _ (by omega) (by omega) z; omega) with z | z
    ·rw[z] at e; cases e
    ·exact z
   rcases Nat.lt_or_ge j a with z | z
   ·exact u i j hij z
   ·obtain rfl:j=a:=by omega
    rcases Nat.lt_or_ge i (j-1) with y | y
    ·exact L.trans _ _ _ (u i (j-1) y (by omega)) st
    ·obtain rfl:i=j-1:=by omega
     exact st
theorem zmo(hc:∀i j C,i<n->j<n->C (lt i j) s->cmp i j C s)(g:GoodP n p)(L:LtOk n lt):∀(f a:Nat) {Q:Array Nat×Nat×Nat->Shared->Prop},1<=a->a+f<=n->DnP lt p a →
  (∀m,a<=m->m<=a+f->DnP lt p m->Q (p,m,0) s)->(kas_desc f p a 0).kasWp cmp Q s
 | 0,a,Q,_,_,u,q=>q a (Nat.le_refl _) (Nat.le_refl _) u
 | f+1,a,Q,a1,af,u,q=>by
  show cmp _ _ _ s;refine hc _ _ _ (g.below _ (by omega)) (g.below _ (by omega)) ?_;cases e:lt (p.getD a 0) (p.getD (a-1) 0) with
  | true =>
   show(kas_desc f p (a+1) 0).kasWp cmp Q s;refine zmo hc g L f (a+1) (by omega) (by omega) (fun i j hij hj=>?_) (fun m h1 h2 h3=>q m (by omega) (by omega) h3);rcases Nat.lt_or_ge j a with z | z
   ·exact u i j hij z
   ·obtain rfl:j=a:=by omega
    rcases Nat.lt_or_ge i (j-1) with y | y
    ·exact L.trans _ _ _ e (u i (j-1) y (by omega))
    ·obtain rfl:i=j-1:=by omega
     exact e
  | false =>
   have st:lt (p.getD (a-1) 0) (p.getD a 0)=true:=by
    rcases L.tot _ _ (g.below a (by omega)) (g.below (a-1) (by omega)) (fun z=>by have:=g.inj _ _ (by omega) (by omega) z; omega) with z | z
    ·rw[z] at e; cases e
    ·exact z
   show cmp _ _ _ s;refine hc _ _ _ (g.below _ (by omega)) (g.below _ (by omega)) ?_;rw[st];exact q a (Nat.le_refl _) (by omega) u
theorem zpe(hc:∀i j C,i<n->j<n->C (lt i j) s->cmp i j C s)(g:GoodP n p)(L:LtOk n lt)(h2:2<=n){Q:Nat×Array Nat->Shared->Prop}(q:∀m p',1<=m->m<=n->GoodP n p'->UpP lt p' m->Q (m,p') s):(kas_count n p).kasWp cmp Q s:=by
 unfold kas_count;rw[KasT.kasWp_bind];refine znk hc g L (n-1) 1 (Nat.le_refl _) (by omega) (fun i j h1 h2=>by omega) fun m m1 mn u st=>?_
 try dsimp only
 by_cases e:m=n
 ·rw[if_pos (by rw[e]; exact beq_self_eq_true n)];exact q m p m1 (by omega) g u
 rw[if_neg (by intro z; exact e (by simpa using z))];by_cases e1:m > 1
 ·rw[if_pos e1];show cmp _ _ _ s;refine hc _ _ _ (g.below _ (by omega)) (g.below _ (by omega)) ?_;rw[u 0 (m-1) (by omega) (by omega)];exact q m p m1 (by omega) g u
 rw[if_neg e1];obtain rfl:m=1:=by omega
 have fall:lt (p.getD 1 0) (p.getD 0 0)=true:=by
  rcases st with z | z
  ·omega
  ·exact z
 unfold kas_descPart;rw[KasT.kasWp_bind];refine zmo hc g L (n-(1+1)) (1+1) (by omega) (by omega) (fun i j h1 h2=>?_) fun m m1 mn d=>?_
 ·obtain rfl:j=1:=by omega
  obtain rfl:i=0:=by omega
  exact fall
 try dsimp only
 rw[if_neg (Nat.lt_irrefl 0)];unfold kas_tail3;rw[KasT.kasWp_bind];have gr:=zp3 g (m:=m) (by omega);refine znk hc gr L (n-m) m (by omega) (by omega) (up_rev g (by omega) d) fun m' h1 h2 u' _=>?_
 exact q m' _ (by omega) (by omega) gr u'
theorem zfv(hc:∀i j C,i<n->j<n->C (lt i j) s->cmp i j C s)(g:GoodP n p)(L:LtOk n lt){k:Nat}(hk:k<n)(u:UpP lt p k):∀(f l r:Nat) {Q:Nat->Shared->Prop},l<=r->r<=k->r-l<=f->(∀i,i<l->lt (p.getD i 0) (p.getD k 0)=true)->(∀i,r<=i->i<k->lt (p.getD k 0) (p.getD i 0)=true) →
  (∀m,m<=k->(∀i,i<m->lt (p.getD i 0) (p.getD k 0)=true)->(∀i,m<=i->i<k->lt (p.getD k 0) (p.getD i 0)=true)->Q m s)->(kas_place p k f l r).kasWp cmp Q s
 | 0,l,r,Q,lr,rk,hf,a,b,q=>by
  obtain rfl:l=r:=by omega
  exact q l rk a b
 | f+1,l,r,Q,lr,rk,hf,a,b,q=>by
  unfold kas_place;by_cases h:l ≥ r
  ·rw[if_pos h];obtain rfl:l=r:=by omega
   exact q l rk a b
  rw[if_neg h];show cmp _ _ _ s;refine hc _ _ _ (g.below _ (by omega)) (g.below _ (by omega)) ?_;cases e:lt (p.getD k 0) (p.getD ((l+r) / 2) 0) with
  | true =>
   refine zfv hc g L hk u f l ((l+r) / 2) (by omega) (by omega) (by omega) a (fun i h1 h2=>?_) q;rcases Nat.lt_or_ge ((l+r) / 2) i with z | z
   ·exact L.trans _ _ _ e (u _ _ z h2)
   ·obtain rfl:i=(l+r) / 2:=by omega
    exact e
  | false =>
   have st:lt (p.getD ((l+r) / 2) 0) (p.getD k 0)=true:=by
    rcases L.tot _ _ (g.below k hk) (g.below ((l+r) / 2) (by omega)) (fun z=>by have:=g.inj _ _ hk (by omega) z; omega) with z | z
    ·rw[z] at e; cases e
    ·exact z
   refine zfv hc g L hk u f ((l+r) / 2+1) r (by omega) rk (by omega) (fun i hi=>?_) b q;rcases Nat.lt_or_ge i ((l+r) / 2) with z | z
   ·exact L.trans _ _ _ (u _ _ z (by omega)) st
   ·obtain rfl:i=(l+r) / 2:=by omega
    exact st
theorem zpt(hc:∀i j C,i<n->j<n->C (lt i j) s->cmp i j C s)(L:LtOk n lt):∀(f k:Nat) (p:Array Nat) {Q:Array Nat->Shared->Prop},GoodP n p->k+f=n->UpP lt p k->(∀p',GoodP n p'->UpP lt p' n->Q p' s)->(kas_bin f p k).kasWp cmp Q s
 | 0,k,p,Q,g,e,u,q=>by
  obtain rfl:k=n:=by omega
  exact q p g u
 | f+1,k,p,Q,g,e,u,q=>by
  unfold kas_bin;rw[KasT.kasWp_bind];refine zfv hc g L (show k<n by omega) u k 0 k (Nat.zero_le _) (Nat.le_refl _) (by omega) (fun i hi=>by omega) (fun i h1 h2=>by omega) fun l lk ha hb=>?_
  refine zpt hc L f (k+1) _ (zp4 g (by omega) lk) (by omega) (fun i j hij hj=>?_) q;rw[znc g (by omega) lk (by omega),znc g (by omega) lk (by omega)];by_cases ei:i=l
  ·rw[if_pos ei,if_neg (by omega),if_pos (by omega)];exact hb _ (by omega) (by omega)
  ·rw[if_neg ei];by_cases ej:j=l
   ·rw[if_neg (by omega),if_pos ej];exact ha _ (by omega)
   ·rw[if_neg ej];by_cases z1:l<i/\i<=k
    ·rw[if_pos z1,if_pos (by omega)];exact u _ _ (by omega) (by omega)
    ·rw[if_neg z1];by_cases z2:l<j/\j<=k
     ·rw[if_pos z2];exact u _ _ (by omega) (by omega)
     ·rw[if_neg z2];exact u _ _ hij (by omega)
theorem zq4(hc:∀i j C,i<n->j<n->C (lt i j) s->cmp i j C s)(L:LtOk n lt)(h2:2<=n){Q:Array Nat->Shared->Prop}(q:∀p,GoodP n p->UpP lt p n->Q p s):(kas_sort n).kasWp cmp Q s:=by
 unfold kas_sort;rw[KasT.kasWp_bind];have g0:GoodP n (List.toArray (List.range n)):=by
  have e:∀k,k<n->(List.toArray (List.range n)).getD k 0=k:=fun k hk=>by
   simp[Array.getD_eq_getD_getElem?,hk]
  exact⟨List.Perm.refl _,by simp,fun k hk=>by rw[e k hk]; exact hk,fun i j hi hj z=>by rwa [e i hi,e j hj] at z⟩
 refine zpe hc g0 L h2 fun m p' m1 mn g u=>?_
 try dsimp only
 by_cases h:m<n
 ·rw[if_pos h,show max m 1=m by omega];exact zpt hc L (n-m) m p' g (by omega) u q
 ·rw[if_neg h];obtain rfl:m=n:=by omega
  exact q p' g u
end
def lexI:List Int->List Int->Bool
 | [],[]=>false
 | [],_ :: _=>true
 | _ :: _,[]=>false
 | x :: xs,y :: ys=>if x=y then lexI xs ys else decide (x<y)
theorem zgp:∀{a b:List Int},lexI a b=true->lexI b a=false
 | [],[],h=>by cases h
 | [],_ :: _,_=>rfl
 | _ :: _,[],h=>by cases h
 | x :: xs,y :: ys,h=>by
  unfold lexI at h ⊢;by_cases e:x=y
  ·rw[if_pos e] at h; rw[if_pos e.symm]; exact zgp h
  ·rw[if_neg e] at h; rw[if_neg (fun z=>e z.symm)]
   have:=decide_eq_true_iff.mp h
   exact decide_eq_false (by omega)
theorem zfh:∀{a b c:List Int},lexI a b=true->lexI b c=true->lexI a c=true
 | [],[],_,h,_=>by cases h
 | [],_ :: _,[],_,h=>by cases h
 | [],_ :: _,_ :: _,_,_=>rfl
 | _ :: _,[],_,h,_=>by cases h
 | _ :: _,_ :: _,[],_,h=>by cases h
 | x :: xs,y :: ys,z :: zs,h,g=>by
  unfold lexI at h g ⊢;by_cases e:x=y
  ·rw[if_pos e] at h;by_cases e2:y=z
   ·rw[if_pos e2] at g; rw[if_pos (e.trans e2)]; exact zfh h g
   ·rw[if_neg e2] at g; rw[if_neg (fun q=>e2 (e.symm.trans q)),e]; exact g
  ·rw[if_neg e] at h;have h':=decide_eq_true_iff.mp h;by_cases e2:y=z
   ·rw[if_neg (fun q=>e (q.trans e2.symm)),<-e2]; exact h
   ·rw[if_neg e2] at g;have g':=decide_eq_true_iff.mp g;rw[if_neg (by omega)]; exact decide_eq_true (by omega)
theorem zio:∀{a b:List Int},a≠b->lexI a b=true\/lexI b a=true
 | [],[],h=>absurd rfl h
 | [],_ :: _,_=>.inl rfl
 | _ :: _,[],_=>.inr rfl
 | x :: xs,y :: ys,h=>by
  unfold lexI;by_cases e:x=y
  ·rw[if_pos e,if_pos e.symm]; exact zio fun z=>h (by rw[e,z])
  ·rw[if_neg e,if_neg (fun z=>e z.symm)];rcases Int.lt_trichotomy x y with z | z | z
   ·exact .inl (decide_eq_true z)
   ·exact absurd z e
   ·exact .inr (decide_eq_true z)
theorem lt_ok{rows:List (List Int)}(nd:rows.Nodup):LtOk rows.length fun i j=>lexI (rows.getD i []) (rows.getD j []):=by
 have g:∀i (h:i<rows.length),rows.getD i []=rows[i]:=fun i h=>by simp[h]
 refine⟨fun i j h=>zgp h,fun i j k h1 h2=>zfh h1 h2,fun i j hi hj ne=>zio ?_⟩;rw[g i hi,g j hj];intro z;exact ne ((List.getElem_inj nd).mp z)
section
variable {prog:Program} {w:World} {A:Around} {E:Value->Shared->Prop} {s:Shared}
theorem zis{b:Bool}{Q:Bool->Shared->Prop}:∀{xs ys:List Value} {ns ms:List Int} (i:Nat),IntsAre xs ns->IntsAre ys ms->Q (lexI ns ms) s->KatLex prog w A b (decide (xs.length<ys.length)) Q (xs.zip ys) i s
 | [],[],_,_,i,hx,hy,h=>by
  cases hx; cases hy;exact kat_nil h
 | [],_ :: _,_,_,i,hx,hy,h=>by
  cases hx;cases hy with
  | cons=>exact kat_nil h
 | _ :: _,[],_,_,i,hx,hy,h=>by
  cases hy;cases hx with
  | cons=>exact kat_nil h
 | x :: xs,y :: ys,_,_,i,hx,hy,h=>by
  cases hx with
  | @cons m t _ ns' hx' =>
  cases hy with
  | @cons m' t' _ ms' hy' =>
  refine kat_cons (wpAny_eqBool_int ?_);have el:decide ((Value.int m t :: xs).length<(Value.int m' t' :: ys).length)=decide (xs.length<ys.length):=by
   rw[decide_eq_decide]; simp
  rw[el];unfold lexI at h;refine kat_go (fun e=>kat_yes (zis (i+1) hx' hy' ?_)) (fun e=>kat_no ?_)
  ·rw[if_pos (by simpa using e)] at h; exact h
  ·rw[if_neg (by simpa using e)] at h;cases e2:(b && i == 0) with
   | true=>exact oneLt_int h
   | false=>exact kat_one _ _ (lt_int h)
def RowsAt(h:Heap)(bs:List Addr)(rows:List (List Int)):Prop:=bs.length=rows.length/\∀(i:Nat) (b:Addr) (r:List Int),bs[i]?=some b->rows[i]?=some r->r≠[]/\∃xs:List Value,IsTup h b xs.toArray/\IntsAre xs r
theorem RowsAt.firsts{h:Heap}:∀{bs:List Addr} {rows:List (List Int)},RowsAt h bs rows->∃fs:List Value,KatTups h (bs.map Value.ref) fs/\fs.length=bs.length/\∀v∈fs,∃i t,v=Value.int i t
 | [],rows,x=>⟨[],.nil,rfl,fun v hv=>by cases hv⟩
 | b :: bs,[],x=>by have:=x.1; cases this
 | b :: bs,r :: rows,x=>by
  obtain⟨ne,xs,⟨o,e1,e2,n,e3⟩,hi⟩:=x.2 0 b r rfl rfl;obtain⟨fs,k,l,t⟩:=RowsAt.firsts (bs:=bs) (rows:=rows) ⟨by have:=x.1; simpa using this,fun i b' r' h1 h2=>x.2 (i+1) b' r' (by simpa using h1) (by simpa using h2)⟩;cases hi with
  | nil=>exact absurd rfl ne
  | @cons m tk vs' ns' hr =>
   refine⟨.int m tk :: fs,.cons e1 e2 e3 (by simp) k,by simp[l],fun v hv=>?_⟩;rcases List.mem_cons.mp hv with rfl | hv
   ·exact⟨_,_,rfl⟩
   ·exact t v hv
end
end L2
namespace L2
open PySem PySem.Spec PyProof.Rows
theorem zox{X:Cx}{pins:List (Addr×Obj)}{σ:St}{H:Hp}{s:Shared}{b:Addr}{r:List Int}(I:Inv X pins σ H s)(h:H b=some (.tup (r.map V.int))):∃xs:List Value,IsTup s.heap b xs.toArray/\IntsAre xs r:=by
 obtain⟨its,rv,tp,_⟩:=I.tuple (SqT.of (K:=X.K) h);exact⟨its,tp,ze0 rv⟩
end L2
namespace L2
open PySem PySem.Spec PyProof.Rows PySem.W
section
variable {prog:Program} {w:World} {A:Around} {E:Value->Shared->Prop} {s:Shared}
theorem zjm {l fa:Addr} {vs:List Value} {Q:Value->Shared->Prop} (hl:s.heap.IsList l vs.toArray) (h64:vs.length<64)
  (h:∀s':Shared,(∀b o,s.heap.get? b=some o->s'.heap.get? b=some o)->s'.heap.get? (s.heap.objs.size+1)=some (seqObj "list" vs.toArray 0)->s'={ s with heap:=s'.heap } →
   wpAny (model prog w) A.in1.in1 (ksk_tree (s.heap.objs.size+1) (.ref fa) false) (fun f s''=>f=.done (.ret .none)/\Q (.ref (s.heap.objs.size+1)) s'') E s'):wpAny (model prog w) A (call (.builtin "sorted") [.ref l] [(Str.ofString "key",.ref fa)]) Q E s:=by
 refine call_function_entry_kw kind_sorted plain_sorted entry_sorted (ksk_s1 _ _) ?_;unfold Builtin.«sorted»;refine wpAny_bind (m:=checkCount "sorted" 1 1 _) (wpAny_pure ?_);refine wpAny_bind (collect_list hl ?_ (by rw[sizeLine_eq]; omega));refine wpAny_bind (wpAny_newList ?_ (by rw[sizeLine_eq]; omega));have sz:((s.heap.push (seqObj "list" #[] 0)).update s.heap.objs.size (Obj.mapSeq (·++vs.toArray))).objs.size=s.heap.objs.size+1:=by rw[Heap.size_update,size_push']
 have hL:(((s.heap.push (seqObj "list" #[] 0)).update s.heap.objs.size (Obj.mapSeq (·++vs.toArray))).push (seqObj "list" vs.toArray 0)).get? (s.heap.objs.size+1)=some (seqObj "list" vs.toArray 0):=by rw[<-sz]; exact Heap.get?_push_size _ rfl
 show wpAny _ _ _ _ _ { s with heap:=((s.heap.push (seqObj "list" #[] 0)).update s.heap.objs.size (Obj.mapSeq (·++vs.toArray))).push (seqObj "list" vs.toArray 0) };rw[sz];have keep:∀b o,s.heap.get? b=some o->(((s.heap.push (seqObj "list" #[] 0)).update s.heap.objs.size (Obj.mapSeq (·++vs.toArray))).push (seqObj "list" vs.toArray 0)).get? b=some o:=fun b o q=>by
  have hlt:b<s.heap.objs.size:=Heap.lt_size q;rw[Heap.get?_push_ne _ _ _ (by rw[sz]; exact Nat.ne_of_lt (Nat.lt_succ_of_lt hlt)),Heap.get?_update_ne _ _ _ _ (Nat.ne_of_lt hlt),Heap.get?_push_ne _ _ _ (Nat.ne_of_lt hlt)];exact q
 refine wpAny_bind (wpAny_holding (wpAny_call_entry_kw slot_list_sort ⟨_,hL,rfl⟩ entry_list_sort (wpAny_mono (?body:wpAny (model prog w) A.in1.in1 (Builtin.«list.sort» ⟨[.ref (s.heap.objs.size+1)],[(Str.ofString "key",.ref fa)]⟩) (fun f s''=>f=.done (.ret .none)/\Q (.ref (s.heap.objs.size+1)) s'') E _) ?_ fun _ _ e=>e) (ksk_l1 _ _)))
 case body =>
  rw[ksk_t1];exact h _ keep hL rfl
 rintro f s'' ⟨rfl,hq⟩;exact⟨_,rfl,wpAny_pure ⟨_,rfl,hq⟩⟩
end
def KeyQ(sp:Sp)(H:Hp)(x:V)(r:List Int):Prop:=∀H2,Same H H2->∀QQ:VK,(∀p H3,Same H2 H3->H3 p=some (.tup (r.map V.int))->QQ (.ref p) H3)->sp [x] H2 QQ E0
section
variable {X:Cx} {pins:List (Addr×Obj)} {σ:St} {H:Hp} {s:Shared}
theorem zkc{xs:List V}{its:List Value}(r:Vals xs its){i:Nat}{u:Value}(h:its[i]?=some u):∃x,xs[i]?=some x/\RelV x u:=by
 induction r generalizing i with
 | nil=>cases h
 | cons a _ ih =>
  cases i with
  | zero=>cases h; exact⟨_,rfl,a⟩
  | succ i=>exact ih (by simpa using h)
end
section
variable {X:Cx} {pins:List (Addr×Obj)} {σ:St} {H:Hp} {s:Shared}
def OrdBy(rows:List (List Int))(p:List Nat):Prop:=p.Perm (List.range rows.length)/\p.Pairwise fun i j=>lexI (rows.getD i []) (rows.getD j [])=true
theorem zoc{rows:List (List Int)}{p:Array Nat}(g:GoodP rows.length p)(u:UpP (fun i j=>lexI (rows.getD i []) (rows.getD j [])) p rows.length):OrdBy rows p.toList:=by
 refine⟨g.pm,List.pairwise_iff_getElem.mpr fun i j hi hj hij=>?_⟩;have e:∀k (hk:k<p.toList.length),p.getD k 0=p.toList[k]:=fun k hk=>by
  rw[Array.length_toList] at hk;simp[hk]
 have:=u i j hij (by rw[Array.length_toList,g.sz] at hj; exact hj)
 rw[e i hi,e j hj] at this;exact this
theorem zlc{rows:List (List Int)}(h:rows.length<2):OrdBy rows (List.range rows.length):=by
 refine⟨.refl _,List.pairwise_iff_getElem.mpr fun i j hi hj hij=>?_⟩;rw[List.length_range] at hi hj;omega
theorem zkb{xs:List V}{its:List Value}(r:Vals xs its){p:List Nat}(hp:∀i∈p,i<its.length):Vals (p.map fun i=>xs.getD i .non) (p.map fun i=>its.getD i Value.none):=by
 induction p with
 | nil=>exact .nil
 | cons i p ih =>
  refine .cons ?_ (ih fun j hj=>hp j (by simp[hj]));have hi:i<its.length:=hp i (by simp);obtain⟨x,e,rx⟩:=zkc r (List.getElem?_eq_getElem hi);show RelV (xs.getD i .non) (its.getD i Value.none);rw[List.getD_eq_getElem?_getD,List.getD_eq_getElem?_getD,e,List.getElem?_eq_getElem hi];exact rx
theorem znu {a kS:Addr} {e1:Nat} {its:List Value} {xs:List V} {ks:List Addr} {rows:List (List Int)} {Q:PySem.Fin->Shared->Prop} {A:Around} {E:Value->Shared->Prop} (I:Inv X pins σ H s) (rv:Vals xs its) (ha:s.heap.get? a=some (seqObj "list" #[] e1)) {φ:Heap->Prop} (hA:H a=some (.ext φ)) (hk:H kS=some (.lst (ks.map V.ref))) (nak:kS≠a)
  (lk:ks.length=its.length) (hR:RowsAt s.heap ks rows) (nd:rows.Nodup) (h64:its.length<64)
  (q:∀(p:List Nat) s',OrdBy rows p->Inv X pins σ (upd (upd H kS (.lst [])) a (.lst (p.map fun i=>xs.getD i .non))) s'->Q (.done (.ret .none)) s') :
  wpAny (model X.prog X.w) A (ksk_end a false its.toArray e1 (.ref kS) (ks.map Value.ref).toArray) Q E s:=by
 have lr:rows.length=its.length:=by rw[<-hR.1,lk]
 obtain⟨hz,kv,kn,rk,lkv,ek⟩:=I.lstM hk;obtain rfl:=zeb rk;have tail:∀(st:SortSt) (p:Array Nat),OrdBy rows p.toList->(arrOf st).map (·.2)=(p.toList.map fun i=>its.getD i Value.none).toArray->failedOf st=none->wpAny (model X.prog X.w) A (ksk_tail a false e1 (.ref kS) st) Q E s:=fun st p hp har hf=>by
  unfold ksk_tail
  try dsimp only
  have pl:p.toList.length=its.length:=by rw[hp.1.length_eq,List.length_range,lr]
  have I1:=I.lset (its':=[]) (ys:=[]) (f:=fun _=>#[]) (t':=s.toks) hk ek rfl .nil (by show 0<=sizeLine; exact Nat.zero_le _);have ha1:(s.heap.update kS (Obj.mapSeq fun _=>(#[]:Array Value))).get? a=some (seqObj "list" #[] e1):=by rw[Heap.get?_update_ne _ _ _ _ (Ne.symm nak)]; exact ha
  have hA1:(upd H kS (.lst [])) a=some (.ext φ):=by rw[upd_ne (Ne.symm nak)]; exact hA
  have vp:=zkb rv (p:=p.toList) fun i hi=>by have:=List.mem_range.mp (hp.1.mem_iff.mp hi); omega
  have lp:(p.toList.map fun i=>xs.getD i V.non).length<=sizeLine:=by rw[List.length_map,pl,sizeLine_eq]; omega
  have qq:=PySem.IsL.update ha1 fun _=>(p.toList.map fun i=>its.getD i Value.none).toArray
  have I2:=I1.write (x:=a) (e:=a) (o:=.lst (p.toList.map fun i=>xs.getD i V.non)) (t':=s.toks) (by rw[hA1]; exact trivial) (.inl rfl) (fun b' u hb hu=>(Heap.get?_update_other _ (Obj.mapSeq fun _=>(p.toList.map fun i=>its.getD i Value.none).toArray) (Ne.symm hb)).trans hu) ⟨_,qq⟩ ⟨lp,_,_,vp,qq⟩;refine wpAny_bind (listUpdate_at ek rfl ?_ (by rw[List.size_toArray,List.length_map,lk,sizeLine_eq]; omega) (Nat.zero_le _));refine wpAny_bind (wpAny_letGo ?_);refine wpAny_bind (seqEpoch_at ha1 rfl ?_);rw[har];refine wpAny_bind (listUpdate_at ha1 rfl ?_ (Nat.zero_le _) (by simp only[Bool.false_eq_true,if_false]; rw[List.size_toArray,List.length_map,pl,sizeLine_eq]; omega));rw[hf];simp only[bne_self_eq_false,Bool.false_eq_true,if_false];exact wpAny_pure (q _ _ hp I2)
 unfold ksk_end
 try dsimp only
 rw[if_neg Bool.false_ne_true];by_cases h2:its.toArray.size<2
 ·rw[if_pos h2,if_pos h2];refine wpAny_bind (wpAny_pure ?_);rw[StateT.run_pure];refine wpAny_bind (wpAny_pure ?_)
  try dsimp only
  rw[List.size_toArray] at h2;rw[if_neg Bool.false_ne_true];refine tail _ (List.range rows.length).toArray (by simpa using zlc (by omega)) ?_ rfl;show Array.map (·.2) ((ks.map Value.ref).toArray.zip its.toArray)=_;refine Array.ext' ?_;rw[Array.toList_map,ksk_zip];simp only[List.toList_toArray];rw[lr];refine List.ext_getElem? fun i=>?_
  rw[List.getElem?_map,List.getElem?_map];rcases Nat.lt_or_ge i its.length with z | z
  ·rw[List.getElem?_range z];rw[List.getElem?_eq_getElem (by rw[List.length_zip,List.length_map,lk]; omega),List.getElem_zip];simp[z]
  ·rw[List.getElem?_eq_none (by rw[List.length_zip]; omega),List.getElem?_eq_none (by rw[List.length_range]; exact z)];rfl
 rw[if_neg h2,if_neg h2];rw[List.size_toArray] at h2;obtain⟨fs,kt,lf,tf⟩:=hR.firsts;refine wpAny_bind (kat_kind (T:=.type "int") kt (by omega) (fun v hv=>?_) (by rfl) ?_)
 ·obtain⟨i,t,rfl⟩:=tf v hv;exact .now
 rw[if_neg Bool.false_ne_true];refine wpAny_bind (wpAny_mono (kat_run (ks:=ks.map Value.ref) (vs:=its) (Q:=fun st' s'=>s'=s/\∃p:Array Nat,GoodP rows.length p/\UpP (fun i j=>lexI (rows.getD i []) (rows.getD j [])) p rows.length/\arrOf st'=p.map (kas_item ((ks.map Value.ref).toArray.zip its.toArray))/\failedOf st'=none)
  (G:=fun p s'=>s'=s/\GoodP rows.length p/\UpP (fun i j=>lexI (rows.getD i []) (rows.getD j [])) p rows.length)
  (by rw[List.length_map]; exact lk) (by omega) h64 (fun p' st' s' a1 a2 a3 a4=>⟨a4.1,p',a4.2.1,a4.2.2,a2,a3⟩) ?_) ?_ fun _ _ e=>e)
 ·rw[<-lr];refine zq4 (s:=s) (lt:=fun i j=>lexI (rows.getD i []) (rows.getD j [])) (fun i j C hi hj hC=>?_) (lt_ok nd) (by omega) fun p g u=>⟨rfl,g,u⟩
  have lks:ks.length=rows.length:=hR.1;have gb:∀i,i<rows.length->∃b,ks[i]?=some b/\(ks.map Value.ref).getD i Value.none=Value.ref b:=fun i hi=>⟨ks[i]'(by omega),List.getElem?_eq_getElem (by omega),by simp[show i<ks.length by omega]⟩
  obtain⟨bi,ebi,gbi⟩:=gb i hi;obtain⟨bj,ebj,gbj⟩:=gb j hj;obtain⟨_,xs',⟨ox,x1,x2,nx,x3⟩,hxs⟩:=hR.2 i bi rows[i] ebi (List.getElem?_eq_getElem hi);obtain⟨_,ys',⟨oy,y1,y2,ny,y3⟩,hys⟩:=hR.2 j bj rows[j] ebj (List.getElem?_eq_getElem hj);unfold kas_ask;rw[gbi,gbj];refine kat_lt (s:=s) x1 x3 y1 y3 ?_
  have:=zis (prog:=X.prog) (w:=X.w) (A:=A) (s:=s) (b:=(Value.type "int" != Value.type "tuple")) (Q:=C) 0 hxs hys (by simpa [hi,hj] using hC)
  simpa using this
 rintro⟨⟨⟩,st'⟩ s' ⟨rfl,p,hp,hu,har,hf⟩;dsimp only;refine tail _ p (zoc hp hu) ?_ hf;exact kat_snds (ks:=ks.map Value.ref) (vs:=its) (by rw[List.length_map]; exact lk) har
theorem zkm {fa a:Addr} {sp:Sp} {xs:List V} {rows:List (List Int)} {H0:Hp} {Q:PySem.Fin->Shared->Prop} (ask:∀(H:Hp) (s:Shared) (x:V) (u:Value) (Q:VK),Inv X pins σ H s->RelV x u->sp [x] H Q E0->wpAny (model X.prog X.w) X.A.in1.in1 (call (.ref fa) [u]) (EP X pins σ Q) (fun _ _=>False) s) (I:Inv X pins σ H s) (ha:H a=some (.lst xs)) (s0:Same H0 H) (na:H0 a=none)
  (lr:rows.length=xs.length) (ne:∀r∈rows,r≠[]) (nd:rows.Nodup) (h64:xs.length<64) (keys:∀(i:Nat) (x:V) (r:List Int),xs[i]?=some x->rows[i]?=some r->KeyQ sp H0 x r)
  (q:∀(p:List Nat) s' H',OrdBy rows p->Same H0 H'->H' a=some (.lst (p.map fun i=>xs.getD i .non))->Inv X pins σ H' s'->Q (.done (.ret .none)) s') :
  wpAny (model X.prog X.w) X.A.in1.in1 (ksk_tree a (.ref fa) false) Q X.xe s:=by
 obtain⟨z,its,n,rv,li,e⟩:=I.lstM ha;have I1:=I.lset (its':=[]) (ys:=[]) (f:=fun _=>#[]) (t':=s.toks) ha e rfl .nil (Nat.zero_le _);obtain⟨e1,ho1⟩:∃e1,(s.heap.update a (Obj.mapSeq fun _=>(#[]:Array Value))).get? a=some (seqObj "list" #[] e1):=⟨_,get?_update_seq e fun _=>#[]⟩;have I2:=I1.write (x:=a) (e:=a) (o:=.ext fun h=>h.get? a=some (seqObj "list" #[] e1)) (t':=s.toks) (by rw[za1]; exact trivial) (.inl rfl) (fun b u _ hu=>hu) ⟨_,ho1⟩ ⟨ho1,⟨_,ho1⟩,fun h1 h2 p1 k1=>k1 _ p1⟩;rw[zq2] at I2;unfold ksk_tree;refine wpAny_bind (listItems_at e rfl ?_);refine wpAny_bind (listUpdate_at e rfl ?_ (by rw[List.size_toArray,<-li,sizeLine_eq]; omega) (Nat.zero_le _));refine wpAny_bind (seqEpoch_at ho1 rfl ?_);refine wpAny_bind (wpAny_newTuple ?_ (by show its.length<=_; rw[<-li,sizeLine_eq]; omega));refine wpAny_bind (wpAny_newList ?_ (Nat.zero_le _));refine wpAny_holding ?_;have I3:=I2.kept (h':=(s.heap.update a (Obj.mapSeq fun _=>(#[]:Array Value))).push (seqObj "tuple" its.toArray 0)) (t':=s.toks) fun b o q=>Heap.get?_push_of_some _ q
 have fk:(upd H a (.ext fun h=>h.get? a=some (seqObj "list" #[] e1))) ((s.heap.update a (Obj.mapSeq fun _=>(#[]:Array Value))).push (seqObj "tuple" its.toArray 0)).objs.size=none:=I3.fresh;have I4:=I3.lnew (its:=[]) (ys:=[]) (t':=s.toks) .nil (Nat.zero_le _);have s1:Same H0 (upd H a (.ext fun h=>h.get? a=some (seqObj "list" #[] e1))):=fun b o q=>by rw[upd_ne (ne_of_none q na)]; exact s0 b o q
 have s2:Same H0 (upd (upd H a (.ext fun h=>h.get? a=some (seqObj "list" #[] e1))) ((s.heap.update a (Obj.mapSeq fun _=>(#[]:Array Value))).push (seqObj "tuple" its.toArray 0)).objs.size (.lst [])):=fun b o q=>by rw[upd_ne (ne_of_none (s1 b o q) fk)]; exact s1 b o q
 have nak:((s.heap.update a (Obj.mapSeq fun _=>(#[]:Array Value))).push (seqObj "tuple" its.toArray 0)).objs.size≠a:=fun y=>by rw[y,za1] at fk; cases fk
 have k0:H0 ((s.heap.update a (Obj.mapSeq fun _=>(#[]:Array Value))).push (seqObj "tuple" its.toArray 0)).objs.size=none:=by
  cases hq:H0 ((s.heap.update a (Obj.mapSeq fun _=>(#[]:Array Value))).push (seqObj "tuple" its.toArray 0)).objs.size with
  | none=>rfl
  | some o=>rw[s1 _ _ hq] at fk; cases fk
 have a4:(upd (upd H a (.ext fun h=>h.get? a=some (seqObj "list" #[] e1))) ((s.heap.update a (Obj.mapSeq fun _=>(#[]:Array Value))).push (seqObj "tuple" its.toArray 0)).objs.size (.lst [])) a=some (.ext fun h=>h.get? a=some (seqObj "list" #[] e1)):=by rw[upd_ne (Ne.symm nak),za1]
 have k4:(upd (upd H a (.ext fun h=>h.get? a=some (seqObj "list" #[] e1))) ((s.heap.update a (Obj.mapSeq fun _=>(#[]:Array Value))).push (seqObj "tuple" its.toArray 0)).objs.size (.lst [])) ((s.heap.update a (Obj.mapSeq fun _=>(#[]:Array Value))).push (seqObj "tuple" its.toArray 0)).objs.size=some (.lst (([]:List Addr).map V.ref)):=za1;change wpAny _ _ _ _ _ { s with heap:=((s.heap.update a (Obj.mapSeq fun _=>(#[]:Array Value))).push (seqObj "tuple" its.toArray 0)).push (seqObj "list" #[] 0),toks:=s.toks };change Inv X pins σ _ { s with heap:=((s.heap.update a (Obj.mapSeq fun _=>(#[]:Array Value))).push (seqObj "tuple" its.toArray 0)).push (seqObj "list" #[] 0),toks:=s.toks } at I4;generalize ((s.heap.update a (Obj.mapSeq fun _=>(#[]:Array Value))).push (seqObj "tuple" its.toArray 0)).objs.size=kS at I4 s2 nak k0 a4 k4 ⊢;generalize upd (upd H a (.ext fun h=>h.get? a=some (seqObj "list" #[] e1))) kS (.lst [])=H4 at I4 s2 a4 k4;generalize ({ s with heap:=((s.heap.update a (Obj.mapSeq fun _=>(#[]:Array Value))).push (seqObj "tuple" its.toArray 0)).push (seqObj "list" #[] 0),toks:=s.toks }:Shared)=s4 at I4 ⊢;unfold ksk_rest;refine wpAny_bind (wpAny_rule ?_)
 first
  | rw[List.forIn_toArray]
  | (rw[<-Array.forIn_toList]; simp only[List.toList_toArray])
  | rw[<-Array.forIn_toList]
 refine wpAny_bind (ksk_fold (fun i s'=>∃H' ks,Inv X pins σ H' s'/\Same H0 H'/\H' a=some (.ext fun h=>h.get? a=some (seqObj "list" #[] e1))/\H' kS=some (.lst (ks.map V.ref))/\ks.length=i/\∀(j:Nat) (b:Addr) (r:List Int),ks[j]?=some b->rows[j]?=some r->H' b=some (.tup (r.map V.int))) its 0 s4
  ⟨H4,[],I4,s2,a4,k4,rfl,fun j b r h=>by cases h⟩ ?step ?done)
 case step =>
  rintro j u s' hu ⟨H',ks,I',sH,aH,kH,lk,tk⟩;rw[Nat.zero_add] at lk ⊢;obtain⟨x,hx,rx⟩:=zkc rv hu;have hj:j<xs.length:=(List.getElem?_eq_some_iff.mp hx).1;have hrow:rows[j]?=some rows[j]:=List.getElem?_eq_getElem (by omega);have ak:=ask H' s' x u (fun v H2=>∃p,v=.ref p/\Same H' H2/\H2 p=some (.tup (rows[j].map V.int))) I' rx (keys j x _ hx hrow H' sH _ fun p H3 s3 h3=>⟨p,rfl,s3,h3⟩);refine wpAny_bind (wpAny_attempt (wpAny_mono ak (fun v s'' he=>?_) fun _ _ hF=>hF.elim));obtain⟨w,H2,I2',rw',p,rfl,s3,h3⟩:=he;cases rw'
  try dsimp only
  obtain⟨hz,kv,kn,rk,lkv,ek⟩:=I2'.lstM (s3 _ _ kH);obtain rfl:=zeb rk;have I5:=I2'.lset (its':=ks.map Value.ref++[.ref p]) (ys:=(ks++[p]).map V.ref) (f:=(·.push (.ref p))) (t':=s''.toks) (s3 _ _ kH) ek (by simp) (by rw[List.map_append]; exact rk.append (.cons rfl .nil)) (by rw[List.length_map,List.length_append,lk,List.length_singleton,sizeLine_eq]; omega);refine wpAny_bind (listUpdate_at ek rfl ?_ (by rw[List.size_toArray,List.length_map,lk,sizeLine_eq]; omega) (Nat.le_trans (Nat.le_of_eq (Array.size_push ..)) (by rw[List.size_toArray,List.length_map,lk,sizeLine_eq]; omega)));refine wpAny_pure ⟨rfl,_,ks++[p],I5,fun b o q=>by rw[upd_ne (ne_of_none q k0)]; exact s3 _ _ (sH _ _ q),by rw[upd_ne (Ne.symm nak)]; exact s3 _ _ aH,za1,by rw[List.length_append,lk]; rfl,fun i b r h1 h2=>?_⟩;have hb2:H2 b=some (.tup (r.map V.int)):=by
   rcases Nat.lt_or_ge i ks.length with y | y
   ·rw[List.getElem?_append_left y] at h1;exact s3 _ _ (tk i b r h1 h2)
   ·have:i=ks.length:=by have:=(List.getElem?_eq_some_iff.mp h1).1; rw[List.length_append,List.length_singleton] at this; omega
    subst this;rw[List.getElem?_concat_length] at h1;cases h1;rw[lk,hrow] at h2;cases h2;exact h3
  rw[upd_ne (fun y=>by rw[y,s3 _ _ kH] at hb2; cases hb2)];exact hb2
 case done =>
  rintro s' ⟨H',ks,I',sH,aH,kH,lk,tk⟩;rw[Nat.zero_add] at lk;obtain⟨hz,kv,kn,rk,lkv,ek⟩:=I'.lstM kH;obtain rfl:=zeb rk
  try dsimp only
  refine wpAny_bind (listItems_at ek rfl ?_);have ga:s'.heap.get? a=some (seqObj "list" #[] e1):=(show ObjOk X.prog X.w H' s'.heap a (.ext fun h=>h.get? a=some (seqObj "list" #[] e1)) from I'.hok a _ aH).1;refine znu I' rv ga aH kH nak lk ⟨by omega,fun i b r h1 h2=>⟨ne r (List.mem_of_getElem? h2),zox I' (tk i b r h1 h2)⟩⟩ nd (by omega) fun p s'' hp I''=>?_
  refine q p s'' _ hp (fun b o y=>?_) za1 I'';rw[upd_ne (ne_of_none y na),upd_ne (ne_of_none y k0)];exact sH _ _ y
def rSortK(sp:Sp)(l:V)(H:Hp)(Q:VK):Prop:=∃(a:Addr) (xs:List V) (rows:List (List Int)),l=.ref a/\H a=some (.lst xs)/\rows.length=xs.length/\(∀r∈rows,r≠[])/\rows.Nodup/\xs.length<64/\(∀(i:Nat) (x:V) (r:List Int),xs[i]?=some x->rows[i]?=some r->KeyQ sp H x r) /\
 ∀(D:Addr) (p:List Nat) (H':Hp),OrdBy rows p->Same H H'->H D=none->H' D=some (.lst (p.map fun i=>xs.getD i .non))->Q (.ref D) H'
theorem zk3 {fa:Addr} {sp:Sp} {l:V} {u:Value} {Q:VK} (ask:∀(H:Hp) (s:Shared) (x:V) (u:Value) (Q:VK),Inv X pins σ H s->RelV x u->sp [x] H Q E0->wpAny (model X.prog X.w) X.A.in1.in1 (call (.ref fa) [u]) (EP X pins σ Q) (fun _ _=>False) s)
  (I:Inv X pins σ H s) (rl:RelV l u) (h:rSortK sp l H Q):wpAny (model X.prog X.w) X.A (call (.builtin "sorted") [u] [(Str.ofString "key",.ref fa)]) (EP X pins σ Q) X.xe s:=by
 obtain⟨a,xs,rows,rfl,ha,lr,ne,nd,h64,keys,q⟩:=h;cases rl;obtain⟨its,rv,pl,_⟩:=I.list (SqL.of (K:=X.K) ha);have li:=rv.length;refine zjm pl.isList (by omega) fun s' keep hD es=>?_
 have hn:H (s.heap.objs.size+1)=none:=I.hok.fresh (Nat.le_succ _);have I1:Inv X pins σ (upd H (s.heap.objs.size+1) (.lst xs)) s':=by
  rw[es];exact I.laid (t':=s.toks) keep (Nat.le_succ _) (show ObjOk X.prog X.w _ _ _ (.lst xs) from ⟨by rw[sizeLine_eq]; omega,its,0,rv,hD⟩)
 refine zkm ask I1 za1 (H0:=H) (fun b o e=>by rw[upd_ne (ne_of_none e hn)]; exact e) hn lr ne nd h64 keys fun p s'' H' hp sH hA I''=>⟨rfl,.ref _,H',I'',rfl,q _ p H' hp sH hn hA⟩
theorem zk5:bootBuiltins "sorted" = some (.builtin "sorted"):=by decide +kernel
end
def BMain(mg:Str->Option Value)(base:Heap):Prop:=∃(bm:Addr) (o:Obj),mg "__builtins__" = some (.ref bm)/\bm≠builtinsNs/\bm≠mainGlobals/\base.get? bm=some o/\o.cls=.type "module"/\o.dict=some builtinsNs/\o.data=.plain
def LamC(q:Str)(c:Addr):HO:=.ext fun h=>h.CodeRec (.ref c) q
def LamF(q:Str)(params:Arguments)(body:PySem.Expr)(scope:Scope)(pm:Value)(f c:Addr):HO:=.ext fun h=>∃ctv,h.get? f=some (kla_obj "<lambda>" q params body scope [] pm c ctv)
def TabIs(H:Hp)(T:Addr)(pos:Pos)(q:Str):Prop:=H T=some (.tbl #[])\/∃c,H T=some (.tbl (#[]++#[rawInt pos.line,rawInt pos.col,.ref c]))/\H c=some (LamC q c)
def ButT(T:Addr)(H H':Hp):Prop:=∀b o,b≠T->H b=some o->H' b=some o
section
variable {P:Program} {w:World} {H:Hp} {h:Heap} {q:Str} {params:Arguments} {body:PySem.Expr} {scope:Scope} {pm:Value} {f c:Addr}
theorem zqz(r:h.CodeRec (.ref c) q):ObjOk P w H h c (LamC q c):=by
 have r':=r;obtain⟨c',o,vs,t,e,ho,hd,hv⟩:=r;cases e;refine⟨r',⟨o,ho⟩,fun h1 h2 x k=>?_⟩;obtain⟨c',o,vs,t,e,ho,hd,hv⟩:=x;cases e;exact⟨_,o,vs,t,rfl,k _ ho,hd,hv⟩
theorem zos(ok:HOk P w H h)(e:H c=some (LamC q c)):h.CodeRec (.ref c) q:=(show ObjOk P w H h c (LamC q c) from ok _ _ e).1
theorem zm0{ctv:Value}(r:h.get? f=some (kla_obj "<lambda>" q params body scope [] pm c ctv)):ObjOk P w H h f (LamF q params body scope pm f c) :=
 ⟨⟨ctv,r⟩,⟨_,r⟩,fun _ _ ⟨v,x⟩ k=>⟨v,k _ x⟩⟩
theorem zor(ok:HOk P w H h)(e:H f=some (LamF q params body scope pm f c)):∃ctv,h.get? f=some (kla_obj "<lambda>" q params body scope [] pm c ctv):=(show ObjOk P w H h f (LamF q params body scope pm f c) from ok _ _ e).1
end
section
variable {X:Cx} {pins:List (Addr×Obj)} {σ:St} {H:Hp} {s:Shared} {params:Arguments} {body:PySem.Expr} {scope:Scope} {pos:Pos} {c T:Addr}
theorem zoq {Q:Value->Shared->Prop} (I:Inv X pins σ H s) (hcode:X.env.code=.ref c) (hC:CodeHd X.base c T) (hB:BMain X.mg X.base) (hcl:closureFor scope X.env=pure []) (hdef:defaultsOf params X.env=([],[])) (hT:TabIs H T pos (X.env.qual++"<lambda>"))
  (q:∀(f c':Addr) (H':Hp) (s':Shared),Inv X pins σ H' s'->ButT T H H'->H f=none->TabIs H' T pos (X.env.qual++"<lambda>")->H' c'=some (LamC (X.env.qual++"<lambda>") c')->H' f=some (LamF (X.env.qual++"<lambda>") params body scope ((X.mg "__name__").getD .none) f c')->Q (.ref f) s') :
  wpAny (model X.prog X.w) X.A (eval (.Lambda params body scope pos) X.env) Q X.xe s:=by
 have bk:=I.bk;obtain⟨bm,ob,b1,b2,b3,b4,b5,b6⟩:=hB;refine kla_eval hdef ?_;rcases hT with hT | ⟨c',hT,hc'⟩
 ·have gT:s.heap.get? T=some (tabObj #[]):=I.hok _ _ hT;have nT:∀{b:Addr},H b=none->b≠T:=fun {b} e z=>by rw[z,hT] at e; cases e
  have hgT:mainGlobals≠T:=by
   obtain⟨o,es,ep,e,_⟩:=I.mod.glob;exact nT (I.bs _ _ e).2
  refine kla_makeFunction (mg:=X.mg) hcl I.ok.glob (I.mod.glob.keeps bk) hcode (hC.keeps bk) gT trivial rfl hgT ⟨bm,ob,b1,b2,b3,nT (I.bs _ _ b4).2,bk _ _ b4,b5,b6⟩ fun c' ctv h' tk hx hge hlt hrec htb=>?_
  have hsz:s.heap.objs.size<=h'.objs.size:=Nat.le_of_lt (Nat.lt_of_le_of_lt hge hlt);have nc:H c'=none:=I.hok.fresh hge;have nf:H h'.objs.size=none:=I.hok.fresh hsz;have nfc:h'.objs.size≠c':=Nat.ne_of_gt hlt;have lT:T<s.heap.objs.size:=Heap.lt_size gT;have nfT:h'.objs.size≠T:=Nat.ne_of_gt (Nat.lt_of_lt_of_le lT hsz);have ncT:c'≠T:=Nat.ne_of_gt (Nat.lt_of_lt_of_le lT hge);generalize hpm:(X.mg "__name__").getD .none=pm at q ⊢;generalize X.env.qual++"<lambda>" = qn at q hrec ⊢;have gf:(h'.push (kla_obj "<lambda>" qn params body scope [] pm c' ctv)).get? h'.objs.size=some (kla_obj "<lambda>" qn params body scope [] pm c' ctv):=Heap.get?_push_size _ rfl;have kp:∀b o,h'.get? b=some o->(h'.push (kla_obj "<lambda>" qn params body scope [] pm c' ctv)).get? b=some o:=fun b o e=>Heap.get?_push_of_some _ e
  generalize h'.push (kla_obj "<lambda>" qn params body scope [] pm c' ctv)=h2 at gf kp ⊢;generalize h'.objs.size=f at nf nfc nfT gf hsz ⊢;obtain⟨H',eH⟩:∃H',H'=upd (upd (upd H T (.tbl (#[]++#[rawInt pos.line,rawInt pos.col,.ref c']))) c' (LamC qn c')) f (LamF qn params body scope pm f c'):=⟨_,rfl⟩;have atf:H' f=some (LamF qn params body scope pm f c'):=by rw[eH,za1]
  have atc:H' c'=some (LamC qn c'):=by rw[eH,upd_ne (Ne.symm nfc),za1]
  have atT:H' T=some (.tbl (#[]++#[rawInt pos.line,rawInt pos.col,.ref c'])):=by rw[eH,upd_ne (Ne.symm nfT),upd_ne (Ne.symm ncT),za1]
  have atO:∀b,b≠f->b≠c'->b≠T->H' b=H b:=fun b h1 h2 h3=>by rw[eH,upd_ne h1,upd_ne h2,upd_ne h3]
  clear eH;have old:ButT T H H':=fun b o h1 e=>by rw[atO b (ne_of_none e nf) (ne_of_none e nc) h1]; exact e
  have gk:∀b o,b≠T->s.heap.get? b=some o->h2.get? b=some o:=fun b o n e=>kp _ _ (hx b o n e)
  have nTo:∀{b:Addr} {o:HO},H b=some o->o≠.tbl #[]->b≠T:=fun e n=>ne_of e hT n
  have un:Un X.fs [] H H' s.heap h2:=by
   refine⟨fun b o e n _ _=>gk b o (nT n) e,fun b o e n _ _=>⟨o.slots,gk b o (nT n) e⟩,fun b o e n _=>?_,fun b o e _=>?_,fun b xs e=>old b _ (nTo e fun z=>by cases z) e,fun b o u e=>old b _ (nTo e fun z=>by cases z) e,fun b ps e=>?_⟩
   ·have lb:=Heap.lt_size e;rw[atO b (Nat.ne_of_lt (Nat.lt_of_lt_of_le lb hsz)) (Nat.ne_of_lt (Nat.lt_of_lt_of_le lb hge)) (nT n)];exact n
   ·by_cases z:b=T
    ·subst z; exact⟨_,kp _ _ htb⟩
    ·exact⟨o,gk b o z e⟩
   ·by_cases z:b=T
    ·subst z;rw[hT] at e;cases e;exact⟨_,atT⟩
    ·exact⟨#[],by rw[old b _ z e]; simp⟩
  have hok:HOk X.prog X.w H' h2:=fun b u e=>by
   by_cases z1:b=f
   ·subst z1; rw[atf] at e; cases e; exact zm0 gf
   by_cases z2:b=c'
   ·subst z2;rw[atc] at e;cases e;obtain⟨c9,o,vs,t,e9,ho,hd,hv⟩:=hrec;cases e9;exact zqz ⟨_,o,vs,t,rfl,kp _ _ ho,hd,hv⟩
   by_cases z3:b=T
   ·subst z3; rw[atT] at e; cases e; exact kp _ _ htb
   rw[atO b z1 z2 z3] at e;refine(I.hok b u e).stay (fun c v hc r=>gk c v ?_ r) (fun c r=>old c _ (nTo r fun z=>by cases z) r) fun c xs r=>old c _ (nTo r fun z=>by cases z) r
   rcases hc with rfl | hc
   ·exact z3
   ·exact nTo hc fun z=>by cases z
  exact q f c' H' _ (I.un un hok) old nf (.inr ⟨c',atT,atc⟩) atc atf
 ·have gT:s.heap.get? T=some (tabObj (#[]++#[rawInt pos.line,rawInt pos.col,.ref c'])):=I.hok _ _ hT;have nT:∀{b:Addr},H b=none->b≠T:=fun {b} e z=>by rw[z,hT] at e; cases e
  have hf:codeAmong pos (#[]++#[rawInt pos.line,rawInt pos.col,Value.ref c']).toList=some (.ref c'):=by simp[codeAmong,rawInt]
  refine kla_makeFunctionHit (mg:=X.mg) hcl I.ok.glob (I.mod.glob.keeps bk) hcode (hC.keeps bk) gT (by simp[TriplesOk,rawInt]) hf ⟨bm,ob,b1,b2,b3,nT (I.bs _ _ b4).2,bk _ _ b4,b5,b6⟩ fun ctv h' tk hk hsz=>?_
  have nf:H h'.objs.size=none:=I.hok.fresh hsz;have I1:=(I.kept (h':=h') (t':=tk) hk).laid (a:=h'.objs.size) (o:=LamF (X.env.qual++"<lambda>") params body scope ((X.mg "__name__").getD .none) h'.objs.size c') (t':=tk) (h':=h'.push (kla_obj "<lambda>" (X.env.qual++"<lambda>") params body scope [] ((X.mg "__name__").getD .none) c' ctv)) (fun b o e=>Heap.get?_push_of_some _ e) (Nat.le_refl _) (zm0 (ctv:=ctv) (Heap.get?_push_size _ rfl));have sm:∀b o,H b=some o->upd H h'.objs.size (LamF (X.env.qual++"<lambda>") params body scope ((X.mg "__name__").getD .none) h'.objs.size c') b=some o:=fun b o e=>by rw[upd_ne (ne_of_none e nf)]; exact e
  exact q _ c' _ _ I1 (fun b o _ e=>sm b o e) nf (.inr ⟨c',sm _ _ hT,sm _ _ hc'⟩) (sm _ _ hc') za1
end
section
variable {P:Program} {w:World} {K:Frag} {mg:Str->Option Value} {base:Heap}
theorem zqy {k:Nat} {f c:Addr} {qual:Str} {params:Arguments} {body:PySem.Expr} {scope:Scope} {pm:Value} {N ps:List Str} {A:Around} {outer:List Env} {s:Shared} {H:Hp} {args:Args} {us:List Value} {vs:List V} {Q:VK} (S:FnScope N ps scope) (hr:Room (k+1) A) (e0:Env0 P w K mg base A outer s H)
  (hf:H f=some (LamF qual params body scope pm f c)) (hc:H c=some (LamC qual c)) (hb:∀ctv,bindArgs (kla_fn "<lambda>" qual params body scope [] pm (.ref c) ctv) args=pure (ps.zip us)) (r:Vals vs us) (hl:vs.length=ps.length)
  (hbody:∃t,PE (cxOf CX0 P w K mg base N qual scope f (.ref c) A outer s H E0) body t/\t (start N vs) H Q):codeAny (model P w) A (.call (.ref f) args) (CR CX0 outer P w H s Q E0) s:=by
 have lim:s.heap.NoLimit:=e0.mod.nolimit.keeps fun b o e=>(e0.bs b o e).1
 have hkind:∀y∈ps.zip us,scope.names.lookup y.1=some .local\/(scope.names.lookup y.1=some .cell/\((cellsFrom (s.heap.objs.size+1) scope.names []).lookup y.1).isSome=true):=fun ⟨n,v⟩ hy=>by
  rcases S.par n (List.of_mem_zip hy).1 with q | q
  ·exact .inl q
  ·exact .inr ⟨q,PySem.W.cellsFrom_some _ _ _ (.inl q)⟩
 obtain⟨ctv,gf⟩:=zor e0.hok hf;refine kla_callFunE hr.depth gf rfl S.co S.gen rfl (zos e0.hok hc) (wpAny_of_eq (hb ctv) ?_);refine wpAny_newFunctionEnv_cells S.kind hkind fun env he s1 x=>?_
 subst he;refine⟨lim.keeps x.toInCall.keep,kla_codeExpr ?_⟩;obtain⟨t,ht,hq⟩:=hbody;have I:Inv (cxOf CX0 P w K mg base N qual scope f (.ref c) A outer s H E0) [] (start N vs) H s1:=zgt S hr.hd e0 hl r x;refine wpAny_mono (ht [] s1 (start N vs) H _ I hq) (fun u s' hs=>?_) fun e s' hs=>hs
 obtain⟨v,H',J,rv,q⟩:=hs;exact⟨v,H',J.os,J.bare,J.base,J.hok,rv,q⟩
def spLam(f c:Addr)(q:Str)(params:Arguments)(body:PySem.Expr)(scope:Scope)(pm:Value)(rd:V->Hp->VK->Prop):Sp:=fun vs H Q _=>∃x,vs=[x]/\H f=some (LamF q params body scope pm f c)/\H c=some (LamC q c)/\rd x H Q
end
section
variable {X:Cx} {pins:List (Addr×Obj)} {σ:St} {H:Hp} {s:Shared} {params:Arguments} {body:PySem.Expr} {scope:Scope} {lpos:Pos} {c T:Addr}
def tSortL(ta:TE)(T:Addr)(lpos:Pos)(q:Str)(params:Arguments)(body:PySem.Expr)(scope:Scope)(pm:Value)(rd:V->Hp->VK->Prop):TE:=fun σ H Q=>ta σ H fun v H1=>TabIs H1 T lpos q /\
 ∀(f c:Addr) (H2:Hp),ButT T H1 H2->H1 f=none->TabIs H2 T lpos q->H2 c=some (LamC q c)->H2 f=some (LamF q params body scope pm f c)->rSortK (spLam f c q params body scope pm rd) v H2 Q
theorem zo7 {k:Nat} {pn:Str} {N:List Str} {rd:V->Hp->VK->Prop} {e:PySem.Expr} {kp p pos:Pos} {ta:TE} (S:FnScope N [pn] scope) (hr:Room (k+3) X.A) (hg:Gl X "sorted") (hm:X.mg "sorted" = none) (ha:PE X e ta)
  (hcode:X.env.code=.ref c) (hC:CodeHd X.base c T) (hB:BMain X.mg X.base) (hcl:closureFor scope X.env=pure []) (hdef:defaultsOf params X.env=([],[]))
  (hb:∀(qual:Str) (pm:Value) (c:Addr) (ctv u:Value),bindArgs (kla_fn "<lambda>" qual params body scope [] pm (.ref c) ctv) ⟨[u],[]⟩=pure ([pn].zip [u]))
  (hbody:∀(f c:Addr) (A:Around) (outer:List Env) (s:Shared) (x:V) (H:Hp) (Q:VK),rd x H Q->∃t,PE (cxOf CX0 X.prog X.w X.K X.mg X.base N (X.env.qual++"<lambda>") scope f (.ref c) A outer s H E0) body t/\t (start N [x]) H Q)
  (hs:starEach [e] X.env=[(false,eval e X.env)]:=by rfl):PE X (.Call (.Name "sorted" p) [e] [⟨some "key",.Lambda params body scope lpos,kp⟩] pos) (tSortL ta T lpos (X.env.qual++"<lambda>") params body scope ((X.mg "__name__").getD .none) rd):=by
 intro pins s σ H Q I h;refine wpAny_Call_Name_kw (ze7 I hg hm zk5 ?_ (by decide) (by decide));have PAl:PA X [e] (tCons ta tNil):=za0 ha za2 (by rw[hs]; rfl);have hq:tCons ta tNil σ H (fun vs H1=>match vs with
   | [v]=>TabIs H1 T lpos (X.env.qual++"<lambda>")/\∀(f c:Addr) (H2:Hp),ButT T H1 H2->H1 f=none->TabIs H2 T lpos (X.env.qual++"<lambda>")->H2 c=some (LamC (X.env.qual++"<lambda>") c)->H2 f=some (LamF (X.env.qual++"<lambda>") params body scope ((X.mg "__name__").getD .none) f c)->rSortK (spLam f c (X.env.qual++"<lambda>") params body scope ((X.mg "__name__").getD .none) rd) v H2 Q
   | _=>False):=h
 refine callWith_kw (thn (PAl pos pins s σ H _ I hq) fun us s1 ⟨vs,H1,I1,r1,q1⟩=>?_) (by rw[hs]; rfl) (by rw[hs]; rfl) rfl rfl;cases r1 with
 | nil=>exact False.elim q1
 | cons r rr =>
  cases rr with
  | cons _ _=>exact False.elim q1
  | nil =>
   refine kws_cons (zoq I1 hcode hC hB hcl hdef q1.1 fun f c' H2 s2 I2 bt nf tb hc' hf'=>kws_nil ?_);refine zk3 (sp:=spLam f c' (X.env.qual++"<lambda>") params body scope ((X.mg "__name__").getD .none) rd) (fun H s x u Q I rx hx=>?_) I2 r (q1.2 f c' H2 bt nf tb hc' hf');obtain⟨x',e,h1,h2,h3⟩:=hx;cases e;refine wpAny_call (codeAny_mono (zqy (k:=k) (us:=[u]) (vs:=[x]) (Q:=Q) S hr.in1.in1 I.env0.in1.in1 h1 h2 (fun ctv=>hb _ _ _ ctv u) (.cons rx .nil) rfl (hbody f c' _ _ s x H Q h3)) fun r s' hq=>?_);cases r with
   | error e=>exact False.elim hq
   | ok fl =>
    cases fl with
    | ret u=>exact I.after hq
    | next=>exact False.elim hq
    | brk=>exact False.elim hq
    | cont=>exact False.elim hq
end
theorem zlz {P:Program} {w:World} {K:PySem.W.Frag} {mg mb:Str->Option Value} {k:Nat} {fa a c T:Addr} {fd:FuncData} {x:Str} {sp:Sp} {s₁:Shared} {vs:List Value} {ns:List Int}
  (KX:K.In s₁.heap) (hns:s₁.heap.Ns mainGlobals mg) (hb:s₁.heap.Ns builtinsNs mb) (hbb:∀x:Str,x≠"__name__"->mb x=bootBuiltins x) (hlim:s₁.heap.NoLimit) (hg:s₁.gens = #[])
  (gT:s₁.heap.get? T=some (tabObj #[])) (hKT:K.lookup T=none) (hC:CodeHd s₁.heap c T) (hbm:BMain mg s₁.heap)
  (ha:s₁.heap.get? a=some { cls:=.type "list",data:=.seq vs.toArray }) (hi:IntsAre vs ns) (hl:ns.length<=sizeLine) (hr:Room k callerA)
  (F:∀base:Heap,K.In base->base.Ns mainGlobals mg->BMain mg base->FnOk P w K mg base CX0 k fa fd [x] sp) (hbind:∀(s:Shared) (u:Value),BindsTo s fd ⟨[u],[]⟩ [(x,u)])
  (hsp:∀H:Hp,H T=some (.tbl #[])->SqL K H a (ns.map V.int)->sp [.ref a] H (fun v _=>v=.bl true) fun _ _ _=>False) :
  codeAny (model P w) callerA (.call (.ref fa) ⟨[.ref a],[]⟩) (fun r s'=>r=.ok (.ret (.bool true))/\OldK s₁.heap s'.heap/\s'.os=s₁.os/\AllBare s'.gens) s₁:=by
 have rv:=zei hi;have lenV:=hi.length;have naT:a≠T:=fun z=>by rw[z,gT] at ha; cases ha
 have core:∀H:Hp,H T=some (.tbl #[])->(∀b,H b=none\/(∃o xs,H b=some (.frz o (.lst xs)))\/b=T)->SqL K H a (ns.map V.int)->HOk P w H s₁.heap->(∀b,H b≠none->b=a\/b=T)->(H a≠none->K.lookup a=none) →
   codeAny (model P w) callerA (.call (.ref fa) ⟨[.ref a],[]⟩) (fun r s'=>r=.ok (.ret (.bool true))/\OldK s₁.heap s'.heap/\s'.os=s₁.os/\AllBare s'.gens) s₁:=by
  intro H hT hO hS hok hA hK;have base_of:∀{b:Addr} {o:Obj},s₁.heap.get? b=some o->H b=none->(hidT s₁.heap H).get? b=some o:=fun e n=>ziy e n
  have noA:∀{b:Addr} {o:Obj},s₁.heap.get? b=some o->o≠{ cls:=.type "list",data:=.seq vs.toArray }->o≠tabObj #[]->H b=none:=fun {b o} e d1 d2=>by
   cases q:H b with
   | none=>rfl
   | some u =>
    rcases hA b (by rw[q]; simp) with e' | e'
    ·subst e'; rw[ha] at e; exact absurd (Option.some.inj e).symm d1
    ·subst e'; rw[gT] at e; exact absurd (Option.some.inj e).symm d2
  have nsK:∀{b:Addr} {m:Str->Option Value},s₁.heap.Ns b m->(hidT s₁.heap H).Ns b m:=fun {b m} ⟨o,es,ep,e,d,r⟩=>⟨o,es,ep,base_of e (noA e (fun z=>by rw[z] at d; cases d) (fun z=>by rw[z] at d; cases d)),d,r⟩
  have hKb:K.In (hidT s₁.heap H):=fun b o e=>base_of (KX b o e) (by
   cases q:H b with
   | none=>rfl
   | some u =>
    rcases hA b (by rw[q]; simp) with e' | e'
    ·subst e'; rw[hK (by rw[q]; simp)] at e; cases e
    ·subst e'; rw[hKT] at e; cases e)
  have hM:Mod K mg (hidT s₁.heap H):=⟨hKb,nsK hns,⟨mb,nsK hb,hbb⟩,let ⟨mc,h1,h2⟩:=hlim; ⟨mc,nsK h1,h2⟩⟩;have hbm':BMain mg (hidT s₁.heap H):=by
   obtain⟨bm,o,b1,b2,b3,b4,b5,b6⟩:=hbm;exact⟨bm,o,b1,b2,b3,base_of b4 (noA b4 (fun z=>by rw[z] at b6; exact nomatch b6.2) (fun z=>by rw[z] at b6; exact nomatch b6.2)),b5,b6⟩
  have e0:Env0 P w K mg (hidT s₁.heap H) callerA [] s₁ H:=⟨rfl,hM,fun b o e=>zlj e,Nat.le_of_eq (zgu _ _),trivial,fun b hb=>absurd (show b∈([]:List Addr) from hb) (by simp),hok,.of_eq hg⟩;refine codeAny_mono ((F _ hKb (nsK hns) hbm').run callerA [] s₁ H ⟨[.ref a],[]⟩ [.ref a] [.ref a] _ _ hr e0 (hbind s₁ (.ref a)) (.cons rfl .nil) (hsp H hT hS)) fun r s' h=>?_
  cases r with
  | error e=>exact False.elim h
  | ok fl =>
   cases fl with
   | next=>exact False.elim h
   | brk=>exact False.elim h
   | cont=>exact False.elim h
   | ret u =>
    obtain⟨v,H',os,bare,un,hok',r',q⟩:=h;have q':v=.bl true:=q;subst q';obtain rfl:u=Value.bool true:=r';have key:∀b o,s₁.heap.get? b=some o->s'.heap.get? b=some o\/(b=T/\o=tabObj #[]/\∃more,s'.heap.get? T=some (tabObj (#[]++more))):=fun b o e=>by
     cases q:H b with
     | none=>exact .inl (un.keep b o e q (by intro z; exact absurd (show b∈([]:List Addr) from z) (by simp)) (by simp))
     | some u =>
      rcases hO b with z | ⟨ob,xs,z⟩ | z
      ·rw[q] at z; cases z
      ·have z2:=un.frzs b ob _ z;obtain⟨e1,_⟩:=hok b _ z;obtain⟨e2,_⟩:=hok' b _ z2;rw[e] at e1; cases e1;exact .inl e2
      ·subst z;rw[gT] at e;obtain⟨more,z2⟩:=un.tbls b _ hT;exact .inr ⟨rfl,(Option.some.inj e).symm,more,hok' b _ z2⟩
    refine⟨rfl,⟨fun b o e=>?_,fun b o e=>?_⟩,os,bare⟩
    ·rcases key b o e with z | ⟨rfl,rfl,more,z⟩
     ·exact .inl z
     ·exact .inr (.inl ⟨(hC.tab gT).isCodeTable,rfl,#[],more,rfl,z⟩)
    ·rcases key b o e with z | ⟨rfl,rfl,more,z⟩
     ·exact⟨_,z⟩
     ·exact⟨_,z⟩
 cases hk:K.lookup a with
 | some o =>
  have e:=KX a o hk;rw[ha] at e;cases e;refine core (upd (fun _=>none) T (.tbl #[])) za1 (fun b=>?_) (.inr ⟨_,vs.toArray,_,hk,rfl,rfl,rfl,by rw[List.size_toArray,lenV]; exact hl,by simpa using rv⟩) (fun b u z=>?_) (fun b z=>?_) fun z=>absurd (upd_ne naT) z
  ·by_cases hb:b=T
   ·exact .inr (.inr hb)
   ·exact .inl (upd_ne hb)
  ·by_cases hb:b=T
   ·subst hb; rw[za1] at z; cases z; exact gT
   ·rw[upd_ne hb] at z; cases z
  ·by_cases hb:b=T
   ·exact .inr hb
   ·exact absurd (upd_ne hb) z
 | none =>
  refine core (upd (upd (fun _=>none) a (.frz { cls:=.type "list",data:=.seq vs.toArray } (.lst (ns.map V.int)))) T (.tbl #[])) za1 (fun b=>?_) (.inl (.inr ⟨{ cls:=.type "list",data:=.seq vs.toArray },by rw[upd_ne naT,za1]⟩)) (fun b u z=>?_) (fun b z=>?_) fun _=>hk
  ·by_cases hb:b=T
   ·exact .inr (.inr hb)
   ·by_cases hb2:b=a
    ·subst hb2; exact .inr (.inl ⟨_,_,by rw[upd_ne hb,za1]⟩)
    ·exact .inl (by rw[upd_ne hb,upd_ne hb2])
  ·by_cases hb:b=T
   ·subst hb; rw[za1] at z; cases z; exact gT
   ·rw[upd_ne hb] at z;by_cases hb2:b=a
    ·subst hb2; rw[za1] at z; cases z;exact⟨ha,by rw[List.length_map]; exact hl,vs,_,rv,ha⟩
    ·rw[upd_ne hb2] at z; cases z
  ·by_cases hb:b=T
   ·exact .inr hb
   ·by_cases hb2:b=a
    ·exact .inl hb2
    ·rw[upd_ne hb,upd_ne hb2] at z; exact absurd rfl z
theorem zns {l:PySem.W.OpenLaw} {n k:Nat} {q:Program} {loose:List Str} {XP:(Str->Option Value)->Heap->Prop} {YP:World->Heap->Prop} {d:DefRec} {K:Params->PySem.W.Frag} {sp:World->Sp} {x:Str} {T:Addr}
  (hn:l.most=some n) (hn2:n<=sizeLine) (hdf:d.params.defaults=[]) (hr:Room k callerA)
  (hY:∀(w:World) (h:Heap),YP w h->(K w.params).In h/\h.get? T=some (tabObj #[]))
  (F:∀(w:World) (mg:Str->Option Value) (fa:Addr) (h:Heap),(K w.params).In h->h.Ns mainGlobals mg->mg d.name=some (.ref fa) →
   ∃fd:FuncData,(∀(s:Shared) (u:Value),BindsTo s fd ⟨[u],[]⟩ [(x,u)])/\(K w.params).lookup T=none/\(∃c,codeHdIn (K w.params) c T=true) /\
    ∀base:Heap,(K w.params).In base->base.Ns mainGlobals mg->BMain mg base->FnOk l.prog w (K w.params) mg base CX0 k fa fd [x] (sp w))
  (hsp:∀(w:World) (H:Hp) (a:Addr) (ns:List Int),ns.length<=n->H T=some (.tbl #[])->SqL (K w.params) H a (ns.map V.int)->sp w [.ref a] H (fun v _=>v=.bl true) fun _ _ _=>False) :
  PySem.W.WalkO q loose XP YP l.row.toRowW d [] (fun f vs=>PySem.call f vs):=by
 refine Att.attach_call hn hdf fun w s₀ s₁ mg mb fa o pm cd doc a vs ns G Y ho hd hcd hmg hobj hints hlen hg=>?_
 obtain⟨KX,gT⟩:=hY w _ Y;obtain⟨fd,hb,hKT,⟨c,hC⟩,hF⟩:=F w mg fa _ KX G.T.g hmg;have bm:BMain mg s₁.heap:=by
  obtain⟨bm,ob,b1,b2,b3,b4,b5,b6⟩:=G.T.bmain;refine⟨bm,ob,b1,b2,fun z=>?_,b3,b4,b5,b6⟩;obtain⟨o,es,ep,e,hd,_⟩:=G.T.g;rw[z,e] at b3; cases b3; rw[hd] at b6; cases b6
 exact zlz KX G.T.g G.T.b G.T.builtins G.T.nolimit hg gT hKT (codeHd_of_K KX hC) bm hobj hints (Nat.le_trans hlen hn2) hr hF hb fun H hO hS=>hsp w H a ns hlen hO hS
end L2
namespace Mth
theorem zj0(a b:Int):Int.gcd b (a.fmod b)=Int.gcd a b:=by
 rw[Int.fmod_def];have e:a-b*a.fdiv b=a+b*(-(a.fdiv b)):=by rw[Int.mul_neg,Int.sub_eq_add_neg]
 rw[e,Int.gcd_add_mul_left_right,Int.gcd_comm]
theorem zrb(a b:Int)(h:b≠0):(a.fmod b).natAbs<b.natAbs:=by
 rw[Int.fmod_eq_emod];have h1:=Int.emod_nonneg a h;have h2:=Int.emod_lt a h;split
 ·omega
 ·rename_i z
  have:¬b ∣ a:=fun q=>z (Or.inr q)
  have hz:a % b≠0:=fun q=>this (Int.dvd_of_emod_eq_zero q)
  omega
def part(t b:Int):Int:=if b<0 then -(Int.gcd t b:Int) else (Int.gcd t b:Int)
def frac(t b:Int):Int×Int:=(t.fdiv (part t b),b.fdiv (part t b))
theorem zg0(t b:Int)(h:b≠0):0<Int.gcd t b:=Int.gcd_pos_of_ne_zero_right _ h
theorem zfx(t b:Int)(h:b≠0):part t b≠0:=by
 have:=zg0 t b h
 unfold part; split <;> omega
theorem zfg(t b:Int):part t b ∣ t:=by
 unfold part; split
 ·exact Int.neg_dvd.mpr (Int.gcd_dvd_left t b)
 ·exact Int.gcd_dvd_left t b
theorem zff(t b:Int):part t b ∣ b:=by
 unfold part; split
 ·exact Int.neg_dvd.mpr (Int.gcd_dvd_right t b)
 ·exact Int.gcd_dvd_right t b
theorem zj2(t b:Int):(frac t b).1*part t b=t:=by
 show t.fdiv (part t b)*part t b=t;rw[Int.fdiv_eq_ediv_of_dvd (zfg t b),Int.ediv_mul_cancel (zfg t b)]
theorem zgv(t b:Int):(frac t b).2*part t b=b:=by
 show b.fdiv (part t b)*part t b=b;rw[Int.fdiv_eq_ediv_of_dvd (zff t b),Int.ediv_mul_cancel (zff t b)]
theorem zp5(t b:Int)(h:b≠0):0<(frac t b).2:=by
 have e:=zgv t b;have g:=zg0 t b h;rcases Int.lt_or_lt_of_ne h with h1 | h1
 ·have hp:part t b<0:=by unfold part; rw[if_pos h1]; omega
  rcases Int.lt_or_le 0 (frac t b).2 with q | q
  ·exact q
  ·have:0<=(frac t b).2*part t b:=Int.mul_nonneg_of_nonpos_of_nonpos q (Int.le_of_lt hp)
   omega
 ·have hp:0<part t b:=by unfold part; rw[if_neg (by omega)]; omega
  rcases Int.lt_or_le 0 (frac t b).2 with q | q
  ·exact q
  ·have:(frac t b).2*part t b<=0:=Int.mul_nonpos_of_nonpos_of_nonneg q (Int.le_of_lt hp)
   omega
theorem zjz(t b:Int):(frac t b).1*b=t*(frac t b).2:=by
 have e1:=zj2 t b;have e2:=zgv t b;generalize (frac t b).1=n at *;generalize (frac t b).2=d at *;generalize part t b=p at *;subst e1;subst e2;rw[Int.mul_comm d p,Int.mul_assoc]
theorem zp6(t b:Int)(h:b≠0):Int.gcd (frac t b).1 (frac t b).2=1:=by
 have e1:=zj2 t b;have e2:=zgv t b;have g:=zg0 t b h;have hp:(part t b).natAbs=Int.gcd t b:=by unfold part; split <;> omega
 have k:Int.gcd ((frac t b).1*part t b) ((frac t b).2*part t b)=Int.gcd (frac t b).1 (frac t b).2*(part t b).natAbs:=Int.gcd_mul_right _ _ _;rw[e1,e2,hp] at k
 have:1*Int.gcd t b=Int.gcd (frac t b).1 (frac t b).2*Int.gcd t b:=by rw[Nat.one_mul]; exact k
 exact(Nat.eq_of_mul_eq_mul_right g this).symm
theorem zl9(t b:Int)(h:b≠0):(part t b).natAbs<=b.natAbs:=by
 have e:(part t b).natAbs=Int.gcd t b:=by unfold part; split <;> omega
 rw[e];exact Nat.le_of_dvd (Int.natAbs_pos.mpr h) (by
  have:=Int.gcd_dvd_right t b
  exact Int.ofNat_dvd_left.mp this)
theorem zmj(t b:Int)(h:b≠0):(frac t b).1.natAbs<=t.natAbs:=by
 have e:=congrArg Int.natAbs (zj2 t b);rw[Int.natAbs_mul] at e
 have:1<=(part t b).natAbs:=Int.natAbs_pos.mpr (zfx t b h)
 calc (frac t b).1.natAbs=(frac t b).1.natAbs*1:=(Nat.mul_one _).symm
  _<=(frac t b).1.natAbs*(part t b).natAbs:=Nat.mul_le_mul_left _ this
  _=t.natAbs:=e
theorem zmi(t b:Int)(h:b≠0):(frac t b).2.natAbs<=b.natAbs:=by
 have e:=congrArg Int.natAbs (zgv t b);rw[Int.natAbs_mul] at e
 have:1<=(part t b).natAbs:=Int.natAbs_pos.mpr (zfx t b h)
 calc (frac t b).2.natAbs=(frac t b).2.natAbs*1:=(Nat.mul_one _).symm
  _<=(frac t b).2.natAbs*(part t b).natAbs:=Nat.mul_le_mul_left _ this
  _=b.natAbs:=e
end Mth
namespace Wd
end Wd
namespace Mth
theorem zdc(t b : Int)(h : b ≠ 0): frac t b = (((t : Rat) / (b : Rat)).num, (((t : Rat) / (b : Rat)).den : Int)) := by
  have g := zp6 t b h;have p := zp5 t b h;have c := zjz t b;generalize (frac t b) = x at *;obtain⟨n, d⟩ := x;simp only at g p c;have hd : d = (d.toNat : Int) := by omega
  have hn : d.toNat ≠ 0 := by omega
  have hc : n.natAbs.Coprime d.toNat := by
    have : Int.gcd n d = n.natAbs.gcd d.toNat := by rw[Int.gcd]; congr 1; omega
    unfold Nat.Coprime; rw[<- this]; exact g
  let r : Rat := ⟨n, d.toNat, hn, hc⟩
  have hr : r * (d : Rat) = n := by
    have h1 : r = (n : Rat) / ((d.toNat : Nat) : Rat) := by
      have := Rat.num_divInt_den r;rw[<- this, Rat.divInt_eq_div]; rfl
    have h2 : ((d.toNat : Nat) : Rat) = (d : Rat) := by
      have : ((d.toNat : Nat) : Rat) = (((d.toNat : Nat) : Int) : Rat) := rfl;rw[this, <- hd]
    have h3 : (d : Rat) ≠ 0 := by have : d ≠ 0 := by omega
                                  exact_mod_cast this
    rw[h1, h2]; grind
  have hb : (b : Rat) ≠ 0 := by exact_mod_cast h
  have hd0 : (d : Rat) ≠ 0 := by have : d ≠ 0 := by omega
                                 exact_mod_cast this
  have cr : (n : Rat) * b = t * d := by exact_mod_cast c
  have e : (t : Rat) / (b : Rat) = r := by grind
  rw[e];show(n, d) = (n, ((d.toNat : Nat) : Int));rw[<- hd]
def fr(q:Rat):Int×Int:=(q.num,q.den)
theorem zfs(q:Rat):q*((q.den:Nat):Rat)=q.num:=by
 have h1:=Rat.num_divInt_den q;rw[Rat.divInt_eq_div] at h1
 have:((q.den:Nat):Rat)≠0:=by exact_mod_cast q.den_nz
 have h2:(((q.den:Nat):Int):Rat)=((q.den:Nat):Rat):=rfl;rw[h2] at h1
 grind
theorem zdu(q:Rat):((q.den:Nat):Rat)≠0:=by exact_mod_cast q.den_nz
theorem rat_of(q:Rat):((q.num:Int):Rat) / ((((q.den:Nat):Int)):Rat)=q:=by
 have:=zfs q
 have h2:(((q.den:Nat):Int):Rat)=((q.den:Nat):Rat):=rfl
 have:=zdu q
 rw[h2]; grind
theorem ic(n:Nat):(((n:Nat):Int):Rat)=((n:Nat):Rat):=rfl
theorem zpq(p q:Rat):frac (p.num*q.den-q.num*p.den) (p.den*q.den)=fr (p-q):=by
 have hp:=p.den_nz;have hq:=q.den_nz;have h:((p.den:Int)*(q.den:Int))≠0:=Int.mul_ne_zero (by omega) (by omega);rw[zdc _ _ h];have e:(((p.num*q.den-q.num*p.den:Int)):Rat) / (((p.den:Int)*(q.den:Int):Int):Rat)=p-q:=by
  have:=zfs p; have:=zfs q; have:=zdu p; have:=zdu q
  simp only[Rat.intCast_sub,Rat.intCast_mul,ic]
  grind
 rw[e]; rfl
def Sb(n d:Nat)(q:Rat):Prop:=q.num.natAbs<=2 ^ n/\q.den<=2 ^ d
theorem zr7{t b:Int}(h:b≠0):(frac t b).1.natAbs<=t.natAbs/\(frac t b).2.natAbs<=b.natAbs:=by
 have h1:=zj2 t b;have h2:=zgv t b;have h3:=zfx t b h;have a1:t.natAbs=(frac t b).1.natAbs*(part t b).natAbs:=by rw[<-Int.natAbs_mul,h1]
 have a2:b.natAbs=(frac t b).2.natAbs*(part t b).natAbs:=by rw[<-Int.natAbs_mul,h2]
 have a3:1<=(part t b).natAbs:=by omega
 rw[a1,a2];exact⟨Nat.le_mul_of_pos_right _ a3,Nat.le_mul_of_pos_right _ a3⟩
theorem sb_of{t b:Int}{n d:Nat}(h:b≠0)(h1:t.natAbs<=2 ^ n)(h2:b.natAbs<=2 ^ d){q:Rat}(e:frac t b=fr q):Sb n d q:=by
 have:=zr7 (t:=t) h
 rw[e] at this;simp only[fr,Int.natAbs_natCast] at this;exact⟨by omega,by omega⟩
theorem pmul{a b m n:Nat}(h:a<=2 ^ m)(g:b<=2 ^ n):a*b<=2 ^ (m+n):=by rw[Nat.pow_add]; exact Nat.mul_le_mul h g
theorem dnz(p q:Rat):((p.den:Int)*(q.den:Int))≠0:=by
 have hp:=p.den_nz;have hq:=q.den_nz;exact Int.mul_ne_zero (by omega) (by omega)
theorem Sb.sub{n d n' d' N:Nat}{p q:Rat}(h:Sb n d p)(g:Sb n' d' q)(h1:n+d'<=N)(h2:n' + d<=N):Sb (N+1) (d+d') (p-q):=by
 refine sb_of (dnz p q) ?_ ?_ (zpq p q)
 ·have a1:(p.num*q.den).natAbs<=2 ^ N:=by
   rw[Int.natAbs_mul,Int.natAbs_natCast];exact Nat.le_trans (pmul h.1 g.2) (Nat.pow_le_pow_right (by decide) h1)
  have a2:(q.num*p.den).natAbs<=2 ^ N:=by
   rw[Int.natAbs_mul,Int.natAbs_natCast];exact Nat.le_trans (pmul g.1 h.2) (Nat.pow_le_pow_right (by decide) h2)
  have:=Int.natAbs_sub_le (p.num*q.den) (q.num*p.den)
  rw[Nat.pow_succ]; omega
 ·rw[Int.natAbs_mul,Int.natAbs_natCast,Int.natAbs_natCast]; exact pmul h.2 g.2
theorem Sb.mono{n d n' d':Nat}{p:Rat}(h:Sb n d p)(h1:n<=n')(h2:d<=d'):Sb n' d' p :=
 ⟨Nat.le_trans h.1 (Nat.pow_le_pow_right (by decide) h1),Nat.le_trans h.2 (Nat.pow_le_pow_right (by decide) h2)⟩
theorem Sb.one:Sb 0 0 1:=by constructor <;> decide
def cb1(c:Int)(q:Rat):Int:=c.fdiv (Int.gcd c q.den:Int)*q.den
def cb(r:List Rat):Int:=r.foldl cb1 1
theorem cb1_ok{c:Int}(h:0<c)(q:Rat):0<cb1 c q/\c ∣ cb1 c q/\(q.den:Int) ∣ cb1 c q/\cb1 c q<=c*q.den:=by
 have hq:=q.den_nz;have hg:0<Int.gcd c q.den:=Int.gcd_pos_of_ne_zero_left _ (by omega);obtain⟨x,hx⟩:=Int.gcd_dvd_left c (q.den:Int);obtain⟨y,hy⟩:=Int.gcd_dvd_right c (q.den:Int);generalize hG:Int.gcd c (q.den:Int)=G at *;have hG0:(G:Int)≠0:=by omega
 have e:c.fdiv (G:Int)=x:=by
  rw[Int.fdiv_eq_ediv_of_dvd ⟨x,hx⟩]
  conv=>lhs; rw[hx]
  rw[Int.mul_ediv_cancel_left _ hG0]
 have hx0:0<x:=by
  rcases Int.lt_or_le 0 x with h' | h'
  ·exact h'
  ·have:(G:Int)*x<=0:=Int.mul_nonpos_of_nonneg_of_nonpos (by omega) h'
   omega
 have hq0:(0:Int)<q.den:=by omega
 unfold cb1;rw[hG,e];refine⟨Int.mul_pos hx0 hq0,⟨y,?_⟩,⟨x,Int.mul_comm _ _⟩,?_⟩
 ·conv=>lhs; rw[hy]
  conv=>rhs; rw[hx]
  rw[Int.mul_left_comm,Int.mul_assoc]
 ·refine Int.mul_le_mul_of_nonneg_right ?_ (by omega)
  have:1*x<=(G:Int)*x:=Int.mul_le_mul_of_nonneg_right (by omega) (by omega)
  omega
theorem cb_ok(r:List Rat):∀{c:Int} {D d:Nat},0<c->c.natAbs<=2 ^ D->(∀q∈r,q.den<=2 ^ d) →
  0<r.foldl cb1 c/\c ∣ r.foldl cb1 c/\(∀q∈r,(q.den:Int) ∣ r.foldl cb1 c)/\(r.foldl cb1 c).natAbs<=2 ^ (D+d*r.length):=by
 induction r with
 | nil=>intro c D d h g _; exact⟨h,Int.dvd_refl _,by simp,by simpa using g⟩
 | cons q r ih =>
  intro c D d h g hd;obtain⟨a1,a2,a3,a4⟩:=cb1_ok h q;have hq:=hd q (by simp);have a5:(cb1 c q).natAbs<=2 ^ (D+d):=by
   have h5:(cb1 c q).natAbs<=c.natAbs*q.den:=by
    have e1:((c.natAbs*q.den:Nat):Int)=c*q.den:=by rw[Int.natCast_mul]; congr 1; omega
    omega
   exact Nat.le_trans h5 (pmul g hq)
  obtain⟨b1,b2,b3,b4⟩:=ih (D:=D+d) (d:=d) a1 a5 (fun p hp=>hd p (by simp[hp]));refine⟨b1,Int.dvd_trans a2 b2,?_,?_⟩
  ·intro p hp;rcases List.mem_cons.mp hp with rfl | hp
   ·exact Int.dvd_trans a3 b2
   ·exact b3 p hp
  ·rw[List.length_cons,Nat.mul_succ]
   have:D+(d*r.length+d)=D+d+d*r.length:=by omega
   rw[this]; exact b4
def wh(b:Int)(q:Rat):Int:=q.num*b.fdiv q.den
theorem wh_rat{b:Int}{q:Rat}(h:(q.den:Int) ∣ b):((wh b q:Int):Rat)=b*q:=by
 obtain⟨x,hx⟩:=h;have hq:=q.den_nz;have e:b.fdiv q.den=x:=by
  rw[Int.fdiv_eq_ediv_of_dvd ⟨x,hx⟩,hx,Int.mul_ediv_cancel_left _ (by omega)]
 unfold wh;rw[e,hx]
 have:=zfs q
 simp only[Rat.intCast_mul,ic]
 grind
end Mth
namespace Fl
abbrev Box:=Int×Int×Int×Int
abbrev Box.l(b:Box):Int:=b.1
abbrev Box.d(b:Box):Int:=b.2.1
abbrev Box.r(b:Box):Int:=b.2.2.1
abbrev Box.u(b:Box):Int:=b.2.2.2
def okB(b:Box):Prop:=(b.l<b.r/\b.d<b.u)\/(b.l=b.r/\b.d=b.u)
def inB(w h:Int)(b:Box):Prop:=0<=b.l/\0<=b.d/\b.r<=w/\b.u<=h
def ovB(a b:Box):Bool:=decide (max a.l b.l<min a.r b.r) && decide (max a.d b.d<min a.u b.u)
def hits(x y:Int)(b:Box):Bool:=decide (b.l<=x/\x<b.r/\b.d<=y/\y<b.u)
theorem hits_iff{x y:Int}{b:Box}:hits x y b=true↔b.l<=x/\x<b.r/\b.d<=y/\y<b.u:=decide_eq_true_iff
structure Tile(w h:Int)(bs:List Box):Prop where
 ok:∀b∈bs,okB b
 inn:∀b∈bs,inB w h b
 one:∀x y,0<=x->x<w->0<=y->y<h->bs.countP (hits x y)=1
theorem ov_iff{a b:Box}:ovB a b=true↔a.l<a.r/\a.l<b.r/\b.l<a.r/\b.l<b.r/\a.d<a.u/\a.d<b.u/\b.d<a.u/\b.d<b.u:=by
 unfold ovB;rw[Bool.and_eq_true,decide_eq_true_iff,decide_eq_true_iff,Int.max_lt,Int.lt_min,Int.lt_min,Int.max_lt,Int.lt_min,Int.lt_min];exact⟨fun ⟨⟨⟨h1,h2⟩,h3,h4⟩,⟨h5,h6⟩,h7,h8⟩=>⟨h1,h2,h3,h4,h5,h6,h7,h8⟩,fun ⟨h1,h2,h3,h4,h5,h6,h7,h8⟩=>⟨⟨⟨h1,h2⟩,h3,h4⟩,⟨h5,h6⟩,h7,h8⟩⟩
theorem ov_hits{a b:Box}:ovB a b=true↔∃x y,hits x y a=true/\hits x y b=true:=by
 rw[ov_iff];constructor
 ·intro h;refine⟨max a.l b.l,max a.d b.d,hits_iff.mpr ?_,hits_iff.mpr ?_⟩ <;> omega
 ·rintro⟨x,y,h1,h2⟩;rw[hits_iff] at h1 h2;omega
theorem zk0{w h:Int}(hw:0<w)(hh:0<h):Tile w h [(0,0,w,h)]:=by
 refine⟨fun b hb=>?_,fun b hb=>?_,fun x y x0 x1 y0 y1=>?_⟩
 ·rw[List.mem_singleton.mp hb]; exact .inl ⟨hw,hh⟩
 ·rw[List.mem_singleton.mp hb]; exact⟨Int.le_refl _,Int.le_refl _,Int.le_refl _,Int.le_refl _⟩
 ·have:hits x y (0,0,w,h)=true:=hits_iff.mpr ⟨x0,x1,y0,y1⟩
  simp[List.countP_cons,this]
structure Parts(b:Box)(ps:List Box):Prop where
 ok:∀p∈ps,p.l<p.r/\p.d<p.u
 inn:∀p∈ps,b.l<=p.l/\b.d<=p.d/\p.r<=b.r/\p.u<=b.u
 one:∀x y,ps.countP (hits x y)=if hits x y b=true then 1 else 0
theorem Tile.cut{w h:Int}{A B ps:List Box}{b:Box}(t:Tile w h (A++b :: B))(p:Parts b ps):Tile w h (A++ps++B):=by
 have ib:=t.inn b (by simp);refine⟨fun q hq=>?_,fun q hq=>?_,fun x y x0 x1 y0 y1=>?_⟩
 ·rcases List.mem_append.mp hq with z | z
  ·rcases List.mem_append.mp z with z | z
   ·exact t.ok q (by simp[z])
   ·exact .inl (p.ok q z)
  ·exact t.ok q (by simp[z])
 ·rcases List.mem_append.mp hq with z | z
  ·rcases List.mem_append.mp z with z | z
   ·exact t.inn q (by simp[z])
   ·have:=p.inn q z
    unfold inB at ib ⊢;omega
  ·exact t.inn q (by simp[z])
 ·have:=t.one x y x0 x1 y0 y1
  rw[List.countP_append,List.countP_cons] at this;rw[List.countP_append,List.countP_append,p.one];omega
theorem zc3{x y:Int}{b:Box}{l:List Box}:(b :: l).countP (hits x y)=l.countP (hits x y)+if hits x y b=true then 1 else 0:=List.countP_cons ..
theorem zf1{x y:Int}:([]:List Box).countP (hits x y)=0:=rfl
theorem cut_x{b:Box}{x:Int}(h1:b.l<x)(h2:x<b.r)(h3:b.d<b.u):Parts b [(b.l,b.d,x,b.u),(x,b.d,b.r,b.u)]:=by
 refine⟨fun p hp=>?_,fun p hp=>?_,fun u v=>?_⟩
 ·simp only[List.mem_cons,List.not_mem_nil,or_false] at hp;rcases hp with rfl | rfl <;> exact⟨by dsimp only[Box.l,Box.d,Box.r,Box.u] at *; omega,by dsimp only[Box.l,Box.d,Box.r,Box.u] at *; omega⟩
 ·simp only[List.mem_cons,List.not_mem_nil,or_false] at hp;rcases hp with rfl | rfl <;> exact⟨by dsimp only[Box.l,Box.d,Box.r,Box.u] at *; omega,by dsimp only[Box.l,Box.d,Box.r,Box.u] at *; omega,by dsimp only[Box.l,Box.d,Box.r,Box.u] at *; omega,by dsimp only[Box.l,Box.d,Box.r,Box.u] at *; omega⟩
 ·rw[zc3,zc3,zf1];simp only[hits_iff,Box.l,Box.d,Box.r,Box.u] at *;split <;> split <;> split <;> omega
theorem cut_y{b:Box}{y:Int}(h1:b.d<y)(h2:y<b.u)(h3:b.l<b.r):Parts b [(b.l,b.d,b.r,y),(b.l,y,b.r,b.u)]:=by
 refine⟨fun p hp=>?_,fun p hp=>?_,fun u v=>?_⟩
 ·simp only[List.mem_cons,List.not_mem_nil,or_false] at hp;rcases hp with rfl | rfl <;> exact⟨by dsimp only[Box.l,Box.d,Box.r,Box.u] at *; omega,by dsimp only[Box.l,Box.d,Box.r,Box.u] at *; omega⟩
 ·simp only[List.mem_cons,List.not_mem_nil,or_false] at hp;rcases hp with rfl | rfl <;> exact⟨by dsimp only[Box.l,Box.d,Box.r,Box.u] at *; omega,by dsimp only[Box.l,Box.d,Box.r,Box.u] at *; omega,by dsimp only[Box.l,Box.d,Box.r,Box.u] at *; omega,by dsimp only[Box.l,Box.d,Box.r,Box.u] at *; omega⟩
 ·rw[zc3,zc3,zf1];simp only[hits_iff,Box.l,Box.d,Box.r,Box.u] at *;split <;> split <;> split <;> omega
theorem cut_5{b:Box}{x f y u:Int}(h1:b.l<x)(h2:x<f)(h3:f<b.r)(h4:b.d<y)(h5:y<u)(h6:u<b.u):
  Parts b [(b.l,b.d,f,y),(f,b.d,b.r,u),(x,u,b.r,b.u),(b.l,y,x,b.u),(x,y,f,u)]:=by
 refine⟨fun p hp=>?_,fun p hp=>?_,fun s t=>?_⟩
 ·simp only[List.mem_cons,List.not_mem_nil,or_false] at hp;rcases hp with rfl | rfl | rfl | rfl | rfl <;> exact⟨by dsimp only[Box.l,Box.d,Box.r,Box.u] at *; omega,by dsimp only[Box.l,Box.d,Box.r,Box.u] at *; omega⟩
 ·simp only[List.mem_cons,List.not_mem_nil,or_false] at hp;rcases hp with rfl | rfl | rfl | rfl | rfl <;> exact⟨by dsimp only[Box.l,Box.d,Box.r,Box.u] at *; omega,by dsimp only[Box.l,Box.d,Box.r,Box.u] at *; omega,by dsimp only[Box.l,Box.d,Box.r,Box.u] at *; omega,by dsimp only[Box.l,Box.d,Box.r,Box.u] at *; omega⟩
 ·rw[zc3,zc3,zc3,zc3,zc3,zf1];simp only[hits_iff,Box.l,Box.d,Box.r,Box.u] at *;by_cases c1:s<b.1 <;> by_cases c2:s<x <;> by_cases c3:s<f <;> by_cases c4:s<b.2.2.1 <;> by_cases d1:t<b.2.1 <;> by_cases d2:t<y <;> by_cases d3:t<u <;> by_cases d4:t<b.2.2.2 <;> (try omega) <;> (repeat (first | rw[if_pos (by omega)] | rw[if_neg (by omega)]))
end Fl
namespace Fl
theorem zmy{α:Type}{p:α->Bool}{l:List α}{i j:Nat}(hij:i<j)(hj:j<l.length)(pi:p (l[i]'(by omega))=true)(pj:p l[j]=true):2<=l.countP p:=by
 have e:l=l.take (i+1)++l.drop (i+1):=(List.take_append_drop _ _).symm;rw[e,List.countP_append];have a:0<(l.take (i+1)).countP p:=List.countP_pos_iff.mpr ⟨l[i],List.mem_take_iff_getElem.mpr ⟨i,by omega,rfl⟩,pi⟩;have b:0<(l.drop (i+1)).countP p:=List.countP_pos_iff.mpr ⟨l[j],List.mem_drop_iff_getElem.mpr ⟨j-(i+1),by omega,by congr 1; omega⟩,pj⟩;omega
abbrev NoOv(bs:List Box):Prop:=bs.Pairwise fun a b=>ovB a b=false
theorem zme{w h x y:Int}{b:Box}(i:inB w h b)(z:hits x y b=true):0<=x/\x<w/\0<=y/\y<h:=by
 rw[hits_iff] at z;obtain⟨a,b',c,d⟩:=i;omega
theorem Tile.noOv{w h:Int}{bs:List Box}(t:Tile w h bs):NoOv bs:=by
 rw[NoOv,List.pairwise_iff_getElem];intro i j hi hj hij;rw[Bool.eq_false_iff];intro z;obtain⟨x,y,h1,h2⟩:=ov_hits.mp z;obtain⟨a,b,c,d⟩:=zme (t.inn _ (List.getElem_mem hi)) h1
 have:=zmy (p:=hits x y) hij hj h1 h2
 rw[t.one x y a b c d] at this;omega
theorem Tile.perm{w h:Int}{bs cs:List Box}(t:Tile w h bs)(p:cs.Perm bs):Tile w h cs :=
 ⟨fun b hb=>t.ok b (p.mem_iff.mp hb),fun b hb=>t.inn b (p.mem_iff.mp hb),fun x y a b c d=>by rw[p.countP_eq]; exact t.one x y a b c d⟩
theorem Tile.bare{w h:Int}{bs:List Box}(t:Tile w h bs)(p:Box->Bool)(hp:∀b∈bs,p b=false->b.l=b.r):Tile w h (bs.filter p):=by
 refine⟨fun b hb=>t.ok b (List.mem_filter.mp hb).1,fun b hb=>t.inn b (List.mem_filter.mp hb).1,fun x y a b c d=>?_⟩;rw[<-t.one x y a b c d,List.countP_filter];refine List.countP_congr fun q hq=>?_
 rw[Bool.and_eq_true];constructor
 ·exact fun z=>z.1
 ·intro z;refine⟨z,?_⟩;cases e:p q with
  | true=>rfl
  | false =>
   have:=hp q hq e
   rw[hits_iff] at z;omega
structure Bd(m:Int)(vs xs:List Int):Prop where
 up:xs.Pairwise (· < ·)
 mem:∀v,v∈xs↔v=0\/v=m\/v∈vs
theorem zgd:∀{xs ys:List Int},xs.Pairwise (· < ·)->ys.Pairwise (· < ·)->(∀v,v∈xs↔v∈ys)->xs=ys
 | [],[],_,_,_=>rfl
 | [],y :: ys,_,_,h=>absurd ((h y).mpr (by simp)) (by simp)
 | x :: xs,[],_,_,h=>absurd ((h x).mp (by simp)) (by simp)
 | x :: xs,y :: ys,hx,hy,h=>by
  rw[List.pairwise_cons] at hx hy;have e:x=y:=by
   rcases List.mem_cons.mp ((h x).mp (by simp)) with z | z
   ·exact z
   ·rcases List.mem_cons.mp ((h y).mpr (by simp)) with z' | z'
    ·exact z'.symm
    ·have:=hx.1 y z'; have:=hy.1 x z; omega
  subst e;congr 1;refine zgd hx.2 hy.2 fun v=>?_
  constructor
  ·intro z;rcases List.mem_cons.mp ((h v).mp (by simp[z])) with q | q
   ·have:=hx.1 v z; omega
   ·exact q
  ·intro z;rcases List.mem_cons.mp ((h v).mpr (by simp[z])) with q | q
   ·have:=hy.1 v z; omega
   ·exact q
theorem Bd.uniq{m:Int}{vs xs ys:List Int}(a:Bd m vs xs)(b:Bd m vs ys):xs=ys:=zgd a.up b.up fun v=>by rw[a.mem,b.mem]
def cov(bs:List Box)(x0 y0 x1 y1:Int):Bool:=bs.any fun b=>decide (b.l<=x0) && decide (x1<=b.r) && (decide (b.d<=y0) && decide (y1<=b.u))
def cellB(xs ys:List Int)(j k:Nat):Box:=(xs.getD j 0,ys.getD k 0,xs.getD (j+1) 0,ys.getD (k+1) 0)
abbrev covC(bs:List Box)(xs ys:List Int)(j k:Nat):Bool:=cov bs (cellB xs ys j k).l (cellB xs ys j k).d (cellB xs ys j k).r (cellB xs ys j k).u
def rowGap(bs:List Box)(xs ys:List Int)(k:Nat):Option Nat:=(List.range (xs.length-1)).find? fun j=>!covC bs xs ys j k
def gapF(bs:List Box)(xs ys:List Int):Option Box:=(List.range (ys.length-1)).findSome? fun k=>(rowGap bs xs ys k).map fun j=>cellB xs ys j k
theorem zkd{xs:List Int}(h:xs.Pairwise (· < ·)){j:Nat}(hj:j+1<xs.length){v:Int}(hv:v∈xs)(hl:xs.getD j 0<v):xs.getD (j+1) 0<=v:=by
 obtain⟨i,hi,rfl⟩:=List.getElem_of_mem hv;have g:∀k (hk:k<xs.length),xs.getD k 0=xs[k]:=fun k hk=>by rw[List.getD_eq_getElem?_getD,List.getElem?_eq_getElem hk]; rfl
 rw[g j (by omega)] at hl;rw[g (j+1) hj];have p:=List.pairwise_iff_getElem.mp h;rcases Nat.lt_trichotomy i (j+1) with z | z | z
 ·rcases Nat.lt_or_ge i j with y | y
  ·have:=p i j hi (by omega) y; omega
  ·have:i=j:=by omega
   subst this; omega
 ·subst z; exact Int.le_refl _
 ·have:=p (j+1) i hj hi z; omega
theorem up_lt{xs:List Int}(h:xs.Pairwise (· < ·)){j:Nat}(hj:j+1<xs.length):xs.getD j 0<xs.getD (j+1) 0/\xs.getD j 0∈xs/\xs.getD (j+1) 0∈xs:=by
 have g:∀k (hk:k<xs.length),xs.getD k 0=xs[k]:=fun k hk=>by rw[List.getD_eq_getElem?_getD,List.getElem?_eq_getElem hk]; rfl
 rw[g j (by omega),g (j+1) hj];exact⟨List.pairwise_iff_getElem.mp h j (j+1) (by omega) hj (by omega),List.getElem_mem _,List.getElem_mem _⟩
abbrev xsOf(bs:List Box):List Int:=bs.map (·.1)++bs.map (·.2.2.1)
abbrev ysOf(bs:List Box):List Int:=bs.map (·.2.1)++bs.map (·.2.2.2)
end Fl
namespace Fl
structure Sc(f:Int->Int)(D:Int->Prop):Prop where
 lt:∀a b,D a->D b->(a<b↔f a<f b)
 z:D 0
 f0:f 0=0
section
variable {f:Int->Int} {D:Int->Prop}
theorem Sc.le(s:Sc f D){a b:Int}(ha:D a)(hb:D b):a<=b↔f a<=f b:=by have:=s.lt b a hb ha; omega
theorem Sc.eq(s:Sc f D){a b:Int}(ha:D a)(hb:D b):a=b↔f a=f b:=by have:=s.lt a b ha hb; have:=s.lt b a hb ha; omega
abbrev mapB(f:Int->Int)(b:Box):Box:=(f b.l,f b.d,f b.r,f b.u)
abbrev DB(D:Int->Prop)(b:Box):Prop:=D b.l/\D b.d/\D b.r/\D b.u
theorem Sc.ok(s:Sc f D){b:Box}(h:DB D b):okB (mapB f b)↔okB b:=by
 obtain⟨h1,h2,h3,h4⟩:=h;unfold okB;have a:=s.lt _ _ h1 h3; have c:=s.lt _ _ h2 h4; have d:=s.eq h1 h3; have e:=s.eq h2 h4;show(f b.l<f b.r/\f b.d<f b.u)\/(f b.l=f b.r/\f b.d=f b.u)↔_;rw[<-a,<-c,<-d,<-e]
theorem Sc.inn(s:Sc f D){w h:Int}{b:Box}(hw:D w)(hh:D h)(hb:DB D b):inB (f w) (f h) (mapB f b)↔inB w h b:=by
 obtain⟨h1,h2,h3,h4⟩:=hb;unfold inB;show 0<=f b.l/\0<=f b.d/\f b.r<=f w/\f b.u<=f h↔_;have a:=s.le s.z h1; have c:=s.le s.z h2;rw[s.f0] at a c;rw[<-a,<-c,<-s.le h3 hw,<-s.le h4 hh]
theorem Sc.ov(s:Sc f D){a b:Box}(ha:DB D a)(hb:DB D b):ovB (mapB f a) (mapB f b)=ovB a b:=by
 rw[Bool.eq_iff_iff,ov_iff,ov_iff];show f a.l<f a.r/\f a.l<f b.r/\f b.l<f a.r/\f b.l<f b.r/\f a.d<f a.u/\f a.d<f b.u/\f b.d<f a.u/\f b.d<f b.u↔_;obtain⟨a1,a2,a3,a4⟩:=ha;obtain⟨b1,b2,b3,b4⟩:=hb;rw[<-s.lt _ _ a1 a3,<-s.lt _ _ a1 b3,<-s.lt _ _ b1 a3,<-s.lt _ _ b1 b3,<-s.lt _ _ a2 a4,<-s.lt _ _ a2 b4,<-s.lt _ _ b2 a4,<-s.lt _ _ b2 b4]
theorem Sc.bd(s:Sc f D){m:Int}{vs xs:List Int}(b:Bd m vs xs)(h:∀v∈xs,D v):Bd (f m) (vs.map f) (xs.map f):=by
 refine⟨?_,fun v=>?_⟩
 ·rw[List.pairwise_map];exact b.up.imp_of_mem fun {x y} hx hy z=>(s.lt x y (h x hx) (h y hy)).mp z
 ·rw[List.mem_map];constructor
  ·rintro⟨x,hx,rfl⟩;rcases(b.mem x).mp hx with z | z | z
   ·exact .inl (by rw[z,s.f0])
   ·exact .inr (.inl (by rw[z]))
   ·exact .inr (.inr (List.mem_map.mpr ⟨x,z,rfl⟩))
  ·rintro(z | z | z)
   ·exact⟨0,(b.mem 0).mpr (.inl rfl),by rw[z,s.f0]⟩
   ·exact⟨m,(b.mem m).mpr (.inr (.inl rfl)),z.symm⟩
   ·obtain⟨x,hx,rfl⟩:=List.mem_map.mp z;exact⟨x,(b.mem x).mpr (.inr (.inr hx)),rfl⟩
theorem zfz(s:Sc f D)(xs:List Int)(j:Nat):(xs.map f).getD j 0=f (xs.getD j 0):=by
 rw[List.getD_eq_getElem?_getD,List.getElem?_map,List.getD_eq_getElem?_getD];cases xs[j]? with
 | none=>exact s.f0.symm
 | some x=>rfl
theorem Sc.cell(s:Sc f D)(xs ys:List Int)(j k:Nat):cellB (xs.map f) (ys.map f) j k=mapB f (cellB xs ys j k):=by
 unfold cellB;rw[zfz s,zfz s,zfz s,zfz s]
theorem ziz{xs:List Int}(z:D 0)(h:∀v∈xs,D v)(j:Nat):D (xs.getD j 0):=by
 rw[List.getD_eq_getElem?_getD];cases e:xs[j]? with
 | none=>exact z
 | some x=>exact h x (List.mem_of_getElem? e)
theorem Sc.gap(s:Sc f D){bs:List Box}{xs ys:List Int}(hb:∀b∈bs,DB D b)(hx:∀v∈xs,D v)(hy:∀v∈ys,D v):gapF (bs.map (mapB f)) (xs.map f) (ys.map f)=(gapF bs xs ys).map (mapB f):=by
 have cv:∀j k,covC (bs.map (mapB f)) (xs.map f) (ys.map f) j k=covC bs xs ys j k:=fun j k=>by
  show cov _ _ _ _ _=cov _ _ _ _ _;rw[s.cell];unfold cov;rw[List.any_map];rw[Bool.eq_iff_iff,List.any_eq_true,List.any_eq_true];refine exists_congr fun b=>and_congr_right fun hm=>?_
  obtain⟨b1,b2,b3,b4⟩:=hb b hm;have d1:=ziz s.z hx j; have d2:=ziz s.z hx (j+1); have e1:=ziz s.z hy k; have e2:=ziz s.z hy (k+1);show(decide (f b.l<=f (xs.getD j 0)) && decide (f (xs.getD (j+1) 0)<=f b.r) && (decide (f b.d<=f (ys.getD k 0)) && decide (f (ys.getD (k+1) 0)<=f b.u)))=true↔(decide (b.l<=xs.getD j 0) && decide (xs.getD (j+1) 0<=b.r) && (decide (b.d<=ys.getD k 0) && decide (ys.getD (k+1) 0<=b.u)))=true;simp only[Bool.and_eq_true,decide_eq_true_eq];rw[<-s.le b1 d1,<-s.le d2 b3,<-s.le b2 e1,<-s.le e2 b4]
 have rg:∀k,rowGap (bs.map (mapB f)) (xs.map f) (ys.map f) k=rowGap bs xs ys k:=fun k=>by
  unfold rowGap;rw[List.length_map];congr 1
  funext j
  rw[cv]
 unfold gapF;rw[List.length_map,List.map_findSome?];congr 1
 funext k
 rw[rg];show _=Option.map (mapB f) ((rowGap bs xs ys k).map fun j=>cellB xs ys j k);rw[Option.map_map];congr 1
 funext j
 exact s.cell xs ys j k
end
structure Fst(bs:List Box)(j k:Nat):Prop where
 lt:j<k
 at_:∃a b,bs[j]?=some a/\bs[k]?=some b/\ovB a b=true
 none_:∀(j' k':Nat) (a b:Box),j' < k'->bs[j']?=some a->bs[k']?=some b->(j' < j\/(j'=j/\k' < k))->ovB a b=false
theorem Fst.sc{f:Int->Int}{D:Int->Prop}(s:Sc f D){bs:List Box}(hb:∀b∈bs,DB D b){j k:Nat}(h:Fst bs j k):Fst (bs.map (mapB f)) j k:=by
 obtain⟨lt,⟨a,b,e1,e2,o⟩,no⟩:=h;refine⟨lt,⟨mapB f a,mapB f b,by rw[List.getElem?_map,e1]; rfl,by rw[List.getElem?_map,e2]; rfl,?_⟩,fun j' k' a' b' hl h1 h2 hc=>?_⟩
 ·rw[s.ov (hb a (List.mem_of_getElem? e1)) (hb b (List.mem_of_getElem? e2))]; exact o
 ·rw[List.getElem?_map] at h1 h2;obtain⟨a0,q1,rfl⟩:=Option.map_eq_some_iff.mp h1;obtain⟨b0,q2,rfl⟩:=Option.map_eq_some_iff.mp h2;rw[s.ov (hb a0 (List.mem_of_getElem? q1)) (hb b0 (List.mem_of_getElem? q2))];exact no j' k' a0 b0 hl q1 q2 hc
theorem NoOv.sc{f:Int->Int}{D:Int->Prop}(s:Sc f D){bs:List Box}(hb:∀b∈bs,DB D b)(h:NoOv bs):NoOv (bs.map (mapB f)):=by
 rw[NoOv,List.pairwise_map];exact List.Pairwise.imp_of_mem (fun {a b} ha hb' z=>by rw[s.ov (hb a ha) (hb b hb')]; exact z) h
theorem Tile.index{w h:Int}{bs:List Box}(t:Tile w h bs){i j:Nat}{c:Box}(hi:bs[i]?=some c)(hj:bs[j]?=some c)(hc:c.l<c.r)(hd:c.d<c.u):i=j:=by
 obtain⟨hil,ei⟩:=List.getElem?_eq_some_iff.mp hi;obtain⟨hjl,ej⟩:=List.getElem?_eq_some_iff.mp hj;have no:=List.pairwise_iff_getElem.mp t.noOv;have o:ovB c c=true:=by rw[ov_iff]; omega
 rcases Nat.lt_trichotomy i j with z | z | z
 ·have:=no i j hil hjl z; rw[ei,ej,o] at this; cases this
 ·exact z
 ·have:=no j i hjl hil z; rw[ei,ej,o] at this; cases this
end Fl
namespace Fl
def Full(w h:Int)(bs:List Box):Prop:=∀x y,0<=x->x<w->0<=y->y<h->∃b∈bs,hits x y b=true
structure Clean(w h:Int)(bs:List Box):Prop where
 ok:∀b∈bs,okB b
 inn:∀b∈bs,inB w h b
 nov:NoOv bs
theorem Tile.clean{w h:Int}{bs:List Box}(t:Tile w h bs):Clean w h bs:=⟨t.ok,t.inn,t.noOv⟩
theorem Clean.sub{w h:Int}{bs cs:List Box}(c:Clean w h bs)(s:cs.Sublist bs):Clean w h cs:=⟨fun b hb=>c.ok b (s.subset hb),fun b hb=>c.inn b (s.subset hb),List.Pairwise.sublist s c.nov⟩
theorem zke{xs:List Int}(h:xs.Pairwise (· < ·)){lo hi x:Int}(h0:lo∈xs)(h1:hi∈xs)(a:lo<=x)(b:x<hi):∃j,j+1<xs.length/\xs.getD j 0<=x/\x<xs.getD (j+1) 0:=by
 have g:∀k (hk:k<xs.length),xs.getD k 0=xs[k]:=fun k hk=>by rw[List.getD_eq_getElem?_getD,List.getElem?_eq_getElem hk]; rfl
 have il:xs.findIdx (fun v=>decide (x<v))<xs.length:=List.findIdx_lt_length_of_exists ⟨hi,h1,decide_eq_true b⟩;have ip:x<xs[xs.findIdx (fun v=>decide (x<v))]:=by simpa using List.findIdx_getElem (w:=il)
 have im:∀m (hm:m<xs.findIdx (fun v=>decide (x<v))),xs[m]'(by omega)<=x:=fun m hm=>by
  have:=List.not_of_lt_findIdx hm
  simpa using this
 obtain⟨i,il,ip,im⟩:∃i,∃il:i<xs.length,x<xs[i]/\∀m (hm:m<i),xs[m]'(by omega)<=x:=⟨_,il,ip,im⟩;have i0:i≠0:=fun z=>by
  subst z;obtain⟨m,hm,rfl⟩:=List.getElem_of_mem h0;rcases Nat.eq_zero_or_pos m with y | y
  ·subst y; omega
  ·have:=List.pairwise_iff_getElem.mp h 0 m il hm y; omega
 refine⟨i-1,by omega,?_,?_⟩
 ·rw[g (i-1) (by omega)]; exact im (i-1) (by omega)
 ·rw[g (i-1+1) (by omega)]
  have:i-1+1=i:=by omega
  simp only[this]; exact ip
theorem Clean.full{w h:Int}{bs:List Box}(t:Clean w h bs)(hw:0<w)(hh:0<h){xs ys:List Int}(bx:Bd w (xsOf bs) xs)(by':Bd h (ysOf bs) ys):gapF bs xs ys=none↔Full w h bs:=by
 constructor
 ·intro e x y x0 x1 y0 y1;obtain⟨j,jl,j1,j2⟩:=zke bx.up ((bx.mem 0).mpr (.inl rfl)) ((bx.mem w).mpr (.inr (.inl rfl))) x0 x1;obtain⟨k,kl,k1,k2⟩:=zke by'.up ((by'.mem 0).mpr (.inl rfl)) ((by'.mem h).mpr (.inr (.inl rfl))) y0 y1
  unfold gapF at e;rw[List.findSome?_eq_none_iff] at e;have e1:=e k (List.mem_range.mpr (by omega));rw[Option.map_eq_none_iff] at e1;unfold rowGap at e1;rw[List.find?_eq_none] at e1;have e2:=e1 j (List.mem_range.mpr (by omega));have e3:covC bs xs ys j k=true:=by simpa using e2
  obtain⟨b,hb,c⟩:=List.any_eq_true.mp e3;simp only[Bool.and_eq_true,decide_eq_true_eq] at c;have c1:b.1<=xs.getD j 0:=c.1.1;have c2:xs.getD (j+1) 0<=b.2.2.1:=c.1.2;have c3:b.2.1<=ys.getD k 0:=c.2.1;have c4:ys.getD (k+1) 0<=b.2.2.2:=c.2.2;exact⟨b,hb,hits_iff.mpr ⟨by show b.1<=x; omega,by show x<b.2.2.1; omega,by show b.2.1<=y; omega,by show y<b.2.2.2; omega⟩⟩
 ·intro f;unfold gapF;rw[List.findSome?_eq_none_iff];intro k hk;rw[Option.map_eq_none_iff];unfold rowGap;rw[List.find?_eq_none];intro j hj;have hk:=List.mem_range.mp hk;have hj:=List.mem_range.mp hj;obtain⟨x1,x2,x3⟩:=up_lt bx.up (j:=j) (by omega);obtain⟨y1,y2,y3⟩:=up_lt by'.up (j:=k) (by omega)
  have rx:∀v∈xs,0<=v/\v<=w:=fun v hv=>by
   rcases(bx.mem v).mp hv with z | z | z
   ·omega
   ·omega
   ·rcases List.mem_append.mp z with z | z
    ·obtain⟨b,hb,rfl⟩:=List.mem_map.mp z
     have:=t.inn b hb; have:=t.ok b hb; unfold inB okB at *; dsimp only[Box.l,Box.d,Box.r,Box.u] at *; omega
    ·obtain⟨b,hb,rfl⟩:=List.mem_map.mp z
     have:=t.inn b hb; have:=t.ok b hb; unfold inB okB at *; dsimp only[Box.l,Box.d,Box.r,Box.u] at *; omega
  have ry:∀v∈ys,0<=v/\v<=h:=fun v hv=>by
   rcases(by'.mem v).mp hv with z | z | z
   ·omega
   ·omega
   ·rcases List.mem_append.mp z with z | z
    ·obtain⟨b,hb,rfl⟩:=List.mem_map.mp z
     have:=t.inn b hb; have:=t.ok b hb; unfold inB okB at *; dsimp only[Box.l,Box.d,Box.r,Box.u] at *; omega
    ·obtain⟨b,hb,rfl⟩:=List.mem_map.mp z
     have:=t.inn b hb; have:=t.ok b hb; unfold inB okB at *; dsimp only[Box.l,Box.d,Box.r,Box.u] at *; omega
  obtain⟨b,hb,hit⟩:=f (xs.getD j 0) (ys.getD k 0) (rx _ x2).1 (by have:=(rx _ x3).2; omega) (ry _ y2).1 (by have:=(ry _ y3).2; omega);rw[hits_iff] at hit;have n1:=zkd bx.up (j:=j) (by omega) ((bx.mem _).mpr (.inr (.inr (List.mem_append_right _ (List.mem_map.mpr ⟨b,hb,rfl⟩))))) hit.2.1;have n2:=zkd by'.up (j:=k) (by omega) ((by'.mem _).mpr (.inr (.inr (List.mem_append_right _ (List.mem_map.mpr ⟨b,hb,rfl⟩))))) hit.2.2.2
  have:covC bs xs ys j k=true:=List.any_eq_true.mpr ⟨b,hb,by
   simp only[Bool.and_eq_true,decide_eq_true_eq];exact⟨⟨hit.1,n1⟩,hit.2.2.1,n2⟩⟩
  simp[this]
end Fl
namespace Fl
theorem cut_5'{b:Box}{x f y u:Int}(h1:b.l<x)(h2:x<f)(h3:f<b.r)(h4:b.d<y)(h5:y<u)(h6:u<b.u):
  Parts b [(x,b.d,b.r,y),(f,y,b.r,b.u),(b.l,u,f,b.u),(b.l,b.d,x,u),(x,y,f,u)]:=by
 refine⟨fun p hp=>?_,fun p hp=>?_,fun s t=>?_⟩
 ·simp only[List.mem_cons,List.not_mem_nil,or_false] at hp;rcases hp with rfl | rfl | rfl | rfl | rfl <;> exact⟨by dsimp only[Box.l,Box.d,Box.r,Box.u] at *; omega,by dsimp only[Box.l,Box.d,Box.r,Box.u] at *; omega⟩
 ·simp only[List.mem_cons,List.not_mem_nil,or_false] at hp;rcases hp with rfl | rfl | rfl | rfl | rfl <;> exact⟨by dsimp only[Box.l,Box.d,Box.r,Box.u] at *; omega,by dsimp only[Box.l,Box.d,Box.r,Box.u] at *; omega,by dsimp only[Box.l,Box.d,Box.r,Box.u] at *; omega,by dsimp only[Box.l,Box.d,Box.r,Box.u] at *; omega⟩
 ·rw[zc3,zc3,zc3,zc3,zc3,zf1];simp only[hits_iff,Box.l,Box.d,Box.r,Box.u] at *;by_cases c1:s<b.1 <;> by_cases c2:s<x <;> by_cases c3:s<f <;> by_cases c4:s<b.2.2.1 <;> by_cases d1:t<b.2.1 <;> by_cases d2:t<y <;> by_cases d3:t<u <;> by_cases d4:t<b.2.2.2 <;> (try omega) <;> (repeat (first | rw[if_pos (by omega)] | rw[if_neg (by omega)]))
theorem zl8{b:Box}(h1:b.l<b.r)(h2:b.d<b.u):Parts b [b]:=by
 refine⟨fun p hp=>?_,fun p hp=>?_,fun s t=>?_⟩
 ·rw[List.mem_singleton.mp hp]; exact⟨h1,h2⟩
 ·rw[List.mem_singleton.mp hp]; exact⟨Int.le_refl _,Int.le_refl _,Int.le_refl _,Int.le_refl _⟩
 ·rw[zc3,zf1]; omega
section
variable {w h k:Int} {bs A B:List Box} {b:Box}
theorem Tile.hole(t:Tile w h (A++b :: B)){x y:Int}(hb:hits x y b=true){cs:List Box}(hc:∀c∈cs,hits x y c=false):¬Full w h (A++cs++B):=by
 intro f;have ib:=t.inn b (by simp);have hb':=hits_iff.mp hb;have hx:=zme ib hb;have one:=t.one x y hx.1 hx.2.1 hx.2.2.1 hx.2.2.2;rw[List.countP_append,zc3,if_pos hb] at one;obtain⟨c,hc1,hc2⟩:=f x y hx.1 hx.2.1 hx.2.2.1 hx.2.2.2;have pos:∀{l:List Box},c∈l->0<l.countP (hits x y):=fun hl=>List.countP_pos_iff.mpr ⟨c,hl,hc2⟩
 rcases List.mem_append.mp hc1 with z | z
 ·rcases List.mem_append.mp z with z | z
  ·have:=pos z; omega
  ·rw[hc c z] at hc2; cases hc2
 ·have:=pos z; omega
theorem corner(h1:b.l<b.r)(h2:b.d<b.u):hits b.l b.d b=true:=hits_iff.mpr ⟨Int.le_refl _,h1,Int.le_refl _,h2⟩
theorem Tile.out(t:Tile w h (A++b :: B))(h1:b.l<b.r)(h2:b.d<b.u):¬Full w h (A++B):=by
 have:=t.hole (corner h1 h2) (cs:=[]) (fun c hc=>by cases hc)
 rwa [List.append_nil] at this
end
end Fl
namespace Mth
theorem zlv:∀(n:Nat) (l:List Int),l.Nodup->(∀x∈l,0<=x/\x<n)->l.length<=n
 | 0,l,_,h=>by
  cases l with
  | nil=>exact Nat.le_refl _
  | cons a r =>
   have:=h a (List.mem_cons_self ..)
   omega
 | n+1,l,hn,h=>by
  by_cases hm:(n:Int)∈l
  ·have h1:=zlv n (l.erase (n:Int)) (hn.erase _) (fun x hx=>by
    have hx1:=List.mem_of_mem_erase hx;have hx2:x≠(n:Int):=fun z=>by
     rw[z] at hx;exact(List.Nodup.not_mem_erase hn) hx
    have:=h x hx1
    omega)
   have h2:=List.length_erase_of_mem hm
   have:0<l.length:=List.length_pos_of_mem hm
   omega
  ·have h1:=zlv n l hn (fun x hx=>by
    have hx2:x≠(n:Int):=fun z=>hm (z ▸ hx)
    have:=h x hx
    omega)
   omega
theorem zkk:∀(l l':List Int),l.Nodup->(∀x∈l,x∈l')->l.length<=l'.length
 | [],_,_,_=>Nat.zero_le _
 | a :: r,l',hn,h=>by
  have h1:=List.nodup_cons.mp hn;have h2:=zkk r (l'.erase a) h1.2 fun x hx=>(List.mem_erase_of_ne (fun z:x=a=>h1.1 (z ▸ hx))).mpr (h x (List.mem_cons_of_mem _ hx))
  have hm:=h a (List.mem_cons_self ..);have h3:=List.length_erase_of_mem hm
  have:=List.length_pos_of_mem hm
  rw[List.length_cons];omega
abbrev InR(n:Nat)(e:Int):Prop:=0<=e/\e<n
def itn(φ:Int->Int):Nat->Int->Int
 | 0,s=>s
 | k+1,s=>φ (itn φ k s)
structure Perm1(φ:Int->Int)(n:Nat):Prop where
 into:∀e,InR n e->InR n (φ e)
 inj:∀a b,InR n a->InR n b->φ a=φ b->a=b
section
variable {φ:Int->Int} {n:Nat} (P:Perm1 φ n)
include P
def Per(φ:Int->Int)(s:Int)(m:Nat):Prop:=1<=m/\itn φ m s=s/\∀k,1<=k->k<m->itn φ k s≠s
omit P in
theorem Per.uniq{s:Int}{m m':Nat}(h:Per φ s m)(h':Per φ s m'):m=m':=by
 rcases Nat.lt_trichotomy m m' with z | z | z
 ·exact absurd h.2.1 (h'.2.2 m h.1 z)
 ·exact z
 ·exact absurd h'.2.1 (h.2.2 m' h'.1 z)
end
end Mth
namespace Mth
def prevAt(row:List Int)(k:Nat):Int:=row.getD (if k=0 then row.length-1 else k-1) 0
def rowP(row:List Int):List (Int×Int):=(List.range row.length).map fun k=>(row.getD k 0,prevAt row k)
def aheadL(ts:List (List Int)):List (Int×Int):=(ts.map rowP).flatten
theorem zjn(row:List Int):(List.range row.length).map (fun k=>row.getD k 0)=row:=by
 refine List.ext_getElem (by simp) fun i h1 h2=>?_
 simp[List.getD,h2]
theorem zo3(row:List Int):(rowP row).map (·.1)=row:=by
 unfold rowP;rw[List.map_map];exact zjn row
theorem zko(r:List Int)(l:Int):(rowP (r++[l])).map (·.2)=l :: r:=by
 unfold rowP;rw[List.map_map];have hl:(r++[l]).length=r.length+1:=by simp
 rw[hl,List.range_succ_eq_map,List.map_cons,List.map_map];congr 1
 ·show prevAt (r++[l]) 0=l;unfold prevAt;rw[if_pos rfl,hl];simp[List.getD]
 ·refine List.ext_getElem (by simp) fun i h1 h2=>?_
  simp[prevAt,List.getD,List.getElem?_append_left h2,h2]
theorem zo2(row:List Int):((rowP row).map (·.2)).Perm row:=by
 rcases List.eq_nil_or_concat row with h | ⟨r,l,h⟩
 ·subst h;exact .nil
 ·rw[List.concat_eq_append] at h;subst h;rw[zko];exact(List.perm_append_singleton l r).symm
theorem zfn:∀ts:List (List Int),(aheadL ts).map (·.1)=ts.flatten
 | []=>rfl
 | r :: ts=>by
  have ih:=zfn ts;unfold aheadL at *;rw[List.map_cons,List.flatten_cons,List.map_append,zo3,ih,List.flatten_cons]
theorem ze3:∀ts:List (List Int),((aheadL ts).map (·.2)).Perm ts.flatten
 | []=>.nil
 | r :: ts=>by
  have ih:=ze3 ts;unfold aheadL at *;rw[List.map_cons,List.flatten_cons,List.map_append,List.flatten_cons];exact(zo2 r).append ih
def lk(L:List (Int×Int))(e:Int):Option Int:=(L.find? fun p=>decide (p.1=e)).map (·.2)
theorem zlu{L:List (Int×Int)}{e v:Int}(h:lk L e=some v):(e,v)∈L:=by
 unfold lk at h;cases q:L.find? fun p=>decide (p.1=e) with
 | none=>rw[q] at h; cases h
 | some p =>
  rw[q] at h;have h1:=List.mem_of_find?_eq_some q;have h2:=List.find?_some q;have h3:p.1=e:=of_decide_eq_true h2;have h4:p.2=v:=Option.some.inj h;rw[<-h3,<-h4];exact h1
theorem zqv{L:List (Int×Int)}{e:Int}(h:e∈L.map (·.1)):∃v,lk L e=some v:=by
 obtain⟨p,hp,e1⟩:=List.mem_map.mp h;unfold lk;cases q:L.find? fun p=>decide (p.1=e) with
 | none =>
  have:=List.find?_eq_none.mp q p hp
  exact absurd (decide_eq_true e1) this
 | some p=>exact⟨p.2,rfl⟩
theorem zgl{α β:Type}{f:α->β}:∀{L:List α},(L.map f).Nodup->∀{p q},p∈L->q∈L->f p=f q->p=q
 | [],_,p,_,hp,_,_=>absurd hp (by simp)
 | a :: L,h,p,q,hp,hq,e=>by
  rw[List.map_cons,List.nodup_cons] at h;rcases List.mem_cons.mp hp with h1 | h1
  ·rcases List.mem_cons.mp hq with h2 | h2
   ·rw[h1,h2]
   ·exact(h.1 (List.mem_map.mpr ⟨q,h2,by rw[<-e,h1]⟩)).elim
  ·rcases List.mem_cons.mp hq with h2 | h2
   ·exact(h.1 (List.mem_map.mpr ⟨p,h1,by rw[e,h2]⟩)).elim
   ·exact zgl h.2 h1 h2 e
structure Turns(n:Nat)(ts:List (List Int)):Prop where
 nd:ts.flatten.Nodup
 mem:∀e,e∈ts.flatten↔InR n e
 even:n % 2=0
def oth(e:Int):Int:=if e % 2=0 then e+1 else e-1
theorem zpk{n:Nat}(h:n % 2=0){e:Int}(he:InR n e):InR n (oth e):=by
 unfold oth;obtain⟨h1,h2⟩:=he;split <;> constructor <;> omega
theorem zlb(e:Int):oth (oth e)=e:=by
 unfold oth;split <;> split <;> omega
def nxt(ts:List (List Int))(e:Int):Int:=(lk (aheadL ts) (oth e)).getD 0
section
variable {n:Nat} {ts:List (List Int)} (T:Turns n ts)
include T
theorem Turns.len:ts.flatten.length=n:=by
 have h1:=zlv n _ T.nd fun x hx=>(T.mem x).mp hx
 have h2:((List.range n).map (fun k:Nat=>(k:Int))).length<=ts.flatten.length:=by
  have nd:((List.range n).map (fun k:Nat=>(k:Int))).Nodup:=by
   unfold List.Nodup;rw[List.pairwise_map];exact List.Pairwise.imp (fun {a b} h=>by omega) (List.pairwise_lt_range (n:=n))
  refine zkk _ _ nd fun x hx=>?_
  obtain⟨k,hk,e⟩:=List.mem_map.mp hx
  have:=List.mem_range.mp hk
  exact(T.mem x).mpr ⟨by omega,by omega⟩
 rw[List.length_map,List.length_range] at h2;omega
theorem Turns.look{e:Int}(he:InR n e):∃v,lk (aheadL ts) e=some v/\InR n v:=by
 obtain⟨v,hv⟩:=zqv (L:=aheadL ts) (e:=e) (by rw[zfn]; exact(T.mem e).mpr he);refine⟨v,hv,(T.mem v).mp ?_⟩;exact(ze3 ts).mem_iff.mp (List.mem_map.mpr ⟨_,zlu hv,rfl⟩)
theorem Turns.nxt_is{e:Int}(he:InR n e):lk (aheadL ts) (oth e)=some (nxt ts e):=by
 obtain⟨v,hv,_⟩:=T.look (zpk T.even he);unfold nxt;rw[hv];rfl
theorem Turns.perm:Perm1 (nxt ts) n:=by
 refine⟨fun e he=>?_,fun a b ha hb e=>?_⟩
 ·obtain⟨v,hv,hi⟩:=T.look (zpk T.even he);unfold nxt;rw[hv];exact hi
 ·have h1:=zlu (T.nxt_is ha);have h2:=zlu (T.nxt_is hb);rw[e] at h1;have nd:((aheadL ts).map (·.2)).Nodup:=(ze3 ts).nodup_iff.mpr T.nd;have h3:=(Prod.mk.inj (zgl nd h1 h2 rfl)).1;rw[<-zlb a,h3,zlb]
end
theorem zek{α:Type}{R:List α}{j:Nat}{r:α}(h:R[j]?=some r):R.take (j+1)=R.take j++[r]:=by
 rw[List.take_add_one,h];rfl
section
variable {φ:Int->Int} {n:Nat} (P:Perm1 φ n)
include P
end
end Mth
namespace Mth
abbrev Pc:Type:=Int×Int×Int
def pd:Pc:=(0,0,0)
def hiF(b:List Pc):Nat->Nat
 | 0=>0
 | i+1=>if (b.getD (hiF b i) pd).2.2<(b.getD i pd).2.2 then i else hiF b i
abbrev highF(b:List Pc):Nat:=hiF b b.length
theorem zfk{b:List Pc}(h:b≠[]):∀i,i<=b.length->hiF b i<b.length
 | 0,_=>List.length_pos_iff.mpr h
 | i+1,hi=>by
  show(if _ then i else hiF b i)<_;split
  ·exact hi
  ·exact zfk h i (by omega)
abbrev topF(b:List Pc):Pc:=b.getD (highF b) pd
def jnS(acc:List Pc)(p:Pc):List Pc:=match acc.getLast? with
 | none=>acc++[p]
 | some q=>if q.2.2=p.2.2 then acc.dropLast++[(q.1,p.2.1,p.2.2)] else acc++[p]
abbrev joinF(ps:List Pc):List Pc:=ps.foldl jnS []
theorem zm8(p:Pc):jnS [] p=[p]:=rfl
theorem zdq(a:List Pc)(q p:Pc):jnS (a++[q]) p=if q.2.2=p.2.2 then a++[(q.1,p.2.1,p.2.2)] else a++[q]++[p]:=by
 unfold jnS;rw[List.getLast?_append];simp
theorem zc6{α:Type}(l:List α):l=[]\/∃a q,l=a++[q]:=by
 rcases List.eq_nil_or_concat l with h | ⟨a,q,h⟩
 ·exact .inl h
 ·exact .inr ⟨a,q,by rw[h,List.concat_eq_append]⟩
theorem zr2(acc:List Pc)(p:Pc):1<=(jnS acc p).length/\(jnS acc p).length<=acc.length+1:=by
 rcases zc6 acc with rfl | ⟨a,q,rfl⟩
 ·exact⟨Nat.le_refl _,Nat.le_refl _⟩
 ·rw[zdq];split <;> simp
def Bd(b:List Pc):Prop:=∀p∈b,0<=p.1/\p.2.1<=5
theorem jnS_bd{acc:List Pc}{p:Pc}(h:Bd acc)(hp:0<=p.1/\p.2.1<=5):Bd (jnS acc p):=by
 rcases zc6 acc with rfl | ⟨a,q,rfl⟩
 ·intro x hx;rw[zm8,List.mem_singleton] at hx;rw[hx]; exact hp
 ·rw[zdq];have hq:=h q (by simp);have ha:∀x∈a,0<=x.1/\x.2.1<=5:=fun x hx=>h x (by simp[hx])
  split
  ·intro x hx;rcases List.mem_append.mp hx with z | z
   ·exact ha x z
   ·rw[List.mem_singleton.mp z]; exact⟨hq.1,hp.2⟩
  ·intro x hx;rcases List.mem_append.mp hx with z | z
   ·exact h x z
   ·rw[List.mem_singleton.mp z]; exact hp
theorem zm7:∀(ps acc:List Pc),(ps.foldl jnS acc).length<=acc.length+ps.length/\(1<=acc.length+ps.length->1<=(ps.foldl jnS acc).length)/\(Bd acc->Bd ps->Bd (ps.foldl jnS acc))
 | [],acc=>⟨by simp,by simp,fun h _=>h⟩
 | p :: ps,acc=>by
  obtain⟨h1,h2⟩:=zr2 acc p;obtain⟨a,b,c⟩:=zm7 ps (jnS acc p);rw[List.foldl_cons];refine⟨by rw[List.length_cons]; omega,fun _=>b (by omega),fun h g=>c (jnS_bd h (g p (by simp))) fun x hx=>g x (by simp[hx])⟩
theorem ziu(ps:List Pc):(joinF ps).length<=ps.length:=by have:=(zm7 ps []).1; simpa using this
def partsF(b:List Pc)(s:Int):List Pc:=b.take (highF b)++[((topF b).1,(topF b).1+s,(topF b).2.2-s)]++(if (topF b).1+s<(topF b).2.1 then [((topF b).1+s,(topF b).2.1,(topF b).2.2)] else [])++b.drop (highF b+1)
def noFit(b:List Pc)(s:Int):Prop:=s<1\/(topF b).2.1-(topF b).1<s\/(topF b).2.2<s
instance (b:List Pc) (s:Int):Decidable (noFit b s):=inferInstanceAs (Decidable (_\/_\/_))
def hungF(b:List Pc)(s:Int):Option (List Pc):=if noFit b s then none else some (joinF (partsF b s))
theorem zgi{b:List Pc}(h:b≠[])(s:Int):1<=(partsF b s).length/\(partsF b s).length<=b.length+1:=by
 have:highF b<b.length:=zfk h b.length (Nat.le_refl _)
 unfold partsF;rw[List.length_append,List.length_append,List.length_append,List.length_take,List.length_drop,List.length_singleton];split <;> simp <;> omega
end Mth
namespace Mth
def maxL:List Int->Int
 | []=>0
 | a :: l=>match l with
  | []=>a
  | _ :: _=>if a<maxL l then maxL l else a
theorem zet:∀{l:List Int},l≠[]->maxL l∈l/\∀a∈l,a<=maxL l
 | [],h=>absurd rfl h
 | [a],_=>⟨by simp[maxL],fun b hb=>by rw[List.mem_singleton.mp hb]; exact Int.le_refl _⟩
 | a :: b :: l,_=>by
  obtain⟨h1,h2⟩:=zet (l:=b :: l) (by simp);have e:maxL (a :: b :: l)=if a<maxL (b :: l) then maxL (b :: l) else a:=rfl
  rw[e];split
  ·rename_i h
   refine⟨List.mem_cons_of_mem _ h1,fun x hx=>?_⟩;rcases List.mem_cons.mp hx with z | z
   ·rw[z]; omega
   ·exact h2 x z
  ·rename_i h
   refine⟨List.mem_cons_self ..,fun x hx=>?_⟩;rcases List.mem_cons.mp hx with z | z
   ·rw[z]; exact Int.le_refl _
   ·have:=h2 x z; omega
theorem zlq{l:List Int}{m:Int}(h:m∈l)(g:∀a∈l,a<=m):maxL l=m:=by
 obtain⟨h1,h2⟩:=zet (l:=l) (List.ne_nil_of_mem h)
 have:=g _ h1
 have:=h2 _ h
 omega
def wideF(m:Int)(l:List Int):Nat:=(l.takeWhile fun x=>decide (x=m)).length
abbrev leftF(ts:List Int):Nat:=ts.idxOf (maxL ts)
abbrev spanF(ts:List Int):Nat:=wideF (maxL ts) (ts.drop (leftF ts))
def badF(ts:List Int)(s:Int):Prop:=s<1\/(spanF ts:Int)<s\/maxL ts<s
instance (ts:List Int) (s:Int):Decidable (badF ts s):=inferInstanceAs (Decidable (_\/_\/_))
def layF(ts:List Int)(s:Int):List Int:=ts.take (leftF ts)++(((ts.drop (leftF ts)).take s.toNat).map fun x=>x-s)++ts.drop (leftF ts+s.toNat)
def laidF:List Int->List Int->Nat->Option Nat
 | ts,[],k=>if 0<maxL ts then some k else none
 | ts,s :: r,k=>if badF ts s then some k else laidF (layF ts s) r (k+1)
end Mth
namespace Mth
theorem zfo{m:Int}:∀{l:List Int} {j:Nat},j<=wideF m l->(j<wideF m l↔l[j]?=some m)
 | [],j,h=>by simp[wideF] at h ⊢
 | a :: l,j,h=>by
  unfold wideF at h ⊢;by_cases e:a=m
  ·rw[List.takeWhile_cons_of_pos (by simpa using e)] at h ⊢;cases j with
   | zero=>simp[e]
   | succ j =>
    have:=zfo (m:=m) (l:=l) (j:=j) (by unfold wideF; simpa using h)
    unfold wideF at this;simpa using this
  ·rw[List.takeWhile_cons_of_neg (by simpa using e)] at h ⊢
   have:j=0:=by simpa using h
   subst this;simpa using e
theorem zk9(m:Int)(l:List Int):wideF m l<=l.length:=by
 unfold wideF;exact List.Sublist.length_le (List.takeWhile_sublist _)
theorem zdi{ts:List Int}(h:ts≠[]):leftF ts<ts.length:=List.idxOf_lt_length_iff.mpr (zet h).1
theorem zhy{ts:List Int}(h:ts≠[]):ts[leftF ts]?=some (maxL ts):=by
 rw[List.getElem?_eq_getElem (zdi h),List.getElem_idxOf]
theorem zem{ts:List Int}{j:Nat}(h:j<spanF ts):ts[leftF ts+j]?=some (maxL ts):=by
 have:=(zfo (m:=maxL ts) (l:=ts.drop (leftF ts)) (j:=j) (Nat.le_of_lt h)).mp h
 rwa [List.getElem?_drop] at this
theorem zel(ts:List Int):leftF ts+spanF ts<=ts.length\/ts=[]:=by
 by_cases h:ts=[]
 ·exact .inr h
 ·have:=zk9 (maxL ts) (ts.drop (leftF ts))
  rw[List.length_drop] at this
  have:=zdi h
  exact .inl (by show _+wideF _ _<=_; omega)
def layJ(ts:List Int)(l:Nat)(s:Int)(j:Nat):List Int:=ts.take l++(((ts.drop l).take j).map fun x=>x-s)++ts.drop (l+j)
theorem zpn(ts:List Int)(l:Nat)(s:Int):layJ ts l s 0=ts:=by unfold layJ; simp
theorem zly{ts:List Int}{l j:Nat}{s x:Int}(h:ts[l+j]?=some x):(layJ ts l s j)[l+j]?=some x/\(layJ ts l s j).set (l+j) (x-s)=layJ ts l s (j+1):=by
 have hl:=(List.getElem?_eq_some_iff.mp h).1;have e1:(ts.take l++(((ts.drop l).take j).map fun x=>x-s)).length=l+j:=by
  rw[List.length_append,List.length_map,List.length_take,List.length_take,List.length_drop]; omega
 have e2:ts.drop (l+j)=x :: ts.drop (l+j+1):=by
  rw[List.drop_eq_getElem_cons hl];rw[List.getElem?_eq_getElem hl] at h;rw[Option.some.inj h]
 unfold layJ;rw[e2];refine⟨?_,?_⟩
 ·rw[List.getElem?_append_right (by rw[e1]; exact Nat.le_refl _),e1,Nat.sub_self];rfl
 ·rw[List.set_append_right _ _ (by rw[e1]; exact Nat.le_refl _),e1,Nat.sub_self,List.set_cons_zero];have e3:(ts.drop l).take (j+1)=(ts.drop l).take j++[x]:=by
   refine zek ?_;rw[List.getElem?_drop]; exact h
  rw[e3,List.map_append,List.append_assoc,List.append_assoc,List.append_assoc];rfl
theorem zef{ts:List Int}{l j:Nat}{s:Int}(h:l+j<=ts.length):(layJ ts l s j).length=ts.length:=by
 unfold layJ;rw[List.length_append,List.length_append,List.length_map,List.length_take,List.length_take,List.length_drop,List.length_drop];omega
theorem zpo(ts:List Int)(s:Int):layF ts s=layJ ts (leftF ts) s s.toNat:=rfl
theorem zkj(s:Int):∀l:List Int,(l.map fun x=>x-s).sum=l.sum-s*l.length
 | []=>by simp
 | a :: l=>by
  rw[List.map_cons,List.sum_cons,List.sum_cons,zkj s l,List.length_cons];push_cast;rw[Int.mul_add];omega
theorem zlw{ts:List Int}{s:Int}(h:ts≠[])(pos:∀x∈ts,0<=x)(nb:¬badF ts s):layF ts s≠[]/\(layF ts s).length=ts.length/\(∀x∈layF ts s,0<=x)/\(layF ts s).sum<ts.sum:=by
 have n1:¬s<1:=fun z=>nb (.inl z)
 have n2:¬(spanF ts:Int)<s:=fun z=>nb (.inr (.inl z))
 have n3:¬maxL ts<s:=fun z=>nb (.inr (.inr z))
 have hs:leftF ts+spanF ts<=ts.length:=(zel ts).resolve_right h;have hl:leftF ts+s.toNat<=ts.length:=by omega
 have ln:(layF ts s).length=ts.length:=by rw[zpo]; exact zef hl
 have hp:=List.length_pos_iff.mpr h;refine⟨fun z=>by rw[z] at ln; simp at ln; omega,ln,fun x hx=>?_,?_⟩
 ·unfold layF at hx;rcases List.mem_append.mp hx with hx | hx
  ·rcases List.mem_append.mp hx with hx | hx
   ·exact pos x (List.mem_of_mem_take hx)
   ·obtain⟨y,hy,rfl⟩:=List.mem_map.mp hx;obtain⟨j,hj,e⟩:=List.getElem_of_mem hy;rw[List.length_take] at hj;have hj2:j<spanF ts:=by omega
    have:=zem hj2
    rw[List.getElem_take] at e;have e2:(ts.drop (leftF ts))[j]?=some y:=by rw[List.getElem?_eq_getElem (by omega),e]
    rw[List.getElem?_drop,this] at e2
    have:=Option.some.inj e2
    show 0<=y-s;omega
  ·exact pos x (List.mem_of_mem_drop hx)
 ·have e:ts=ts.take (leftF ts)++(ts.drop (leftF ts)).take s.toNat++ts.drop (leftF ts+s.toNat):=by
   rw[List.append_assoc,<-List.drop_drop,List.take_append_drop,List.take_append_drop]
  have l2:((ts.drop (leftF ts)).take s.toNat).length=s.toNat:=by rw[List.length_take,List.length_drop]; omega
  have e2:ts.sum=(ts.take (leftF ts)).sum+((ts.drop (leftF ts)).take s.toNat).sum+(ts.drop (leftF ts+s.toNat)).sum:=by
   conv=>lhs; rw[e]
   rw[List.sum_append,List.sum_append]
  unfold layF;rw[List.sum_append,List.sum_append,zkj,l2,e2]
  have:0<s*(s.toNat:Int):=Int.mul_pos (by omega) (by omega)
  omega
end Mth
namespace Fl
open Mth
def befB(a b:Box):Prop:=b.u<a.u\/(b.u=a.u/\a.l<b.l)
structure Hang0(W U:Int)(bs:List Box):Prop where
 pos:∀b∈bs,b.l<b.r/\b.d<b.u
 inn:∀b∈bs,inB W U b
 nov:NoOv bs
 full:Full W U bs
 ord:bs.Pairwise befB
section
variable {W U:Int} {ds rs:List Box} {b:Box}
theorem Hang0.apart(T:Hang0 W U (ds++b :: rs)){c:Box}(hc:c∈ds){x y:Int}(h1:hits x y b=true)(h2:hits x y c=true):False:=by
 have n:=(List.pairwise_append.mp T.nov).2.2 c hc b (by simp)
 have:=ov_hits.mpr ⟨x,y,h2,h1⟩
 rw[this] at n;cases n
end
def RepB(f:Int->Int):Int->Int->List Pc->Prop
 | a,w,[]=>a=w
 | a,w,p :: ps=>p.1=a/\a<p.2.1/\(∀x,a<=x->x<p.2.1->f x=p.2.2)/\RepB f p.2.1 w ps
def AdjB:List Pc->Prop
 | []=>True
 | [_]=>True
 | p :: q :: ps=>p.2.2≠q.2.2/\AdjB (q :: ps)
theorem zfe{f:Int->Int}:∀{ps:List Pc} {a w:Int},RepB f a w ps->a<=w
 | [],a,w,h=>by have:a=w:=h; omega
 | p :: ps,a,w,⟨_,h2,_,h4⟩=>by have:=zfe h4; omega
theorem rep_app{f:Int->Int}:∀{ps qs:List Pc} {a w:Int},RepB f a w (ps++qs)↔∃m,RepB f a m ps/\RepB f m w qs
 | [],qs,a,w=>⟨fun h=>⟨a,rfl,h⟩,fun ⟨m,e,h⟩=>by have e:a=m:=e; rw[e]; exact h⟩
 | p :: ps,qs,a,w=>by
  constructor
  ·rintro⟨h1,h2,h3,h4⟩;obtain⟨m,g1,g2⟩:=rep_app.mp h4;exact⟨m,⟨h1,h2,h3,g1⟩,g2⟩
  ·rintro⟨m,⟨h1,h2,h3,g1⟩,g2⟩;exact⟨h1,h2,h3,rep_app.mpr ⟨m,g1,g2⟩⟩
theorem zen{f g:Int->Int}:∀{ps:List Pc} {a w:Int},(∀x,a<=x->x<w->f x=g x)->RepB f a w ps->RepB g a w ps
 | [],_,_,_,h=>h
 | p :: ps,a,w,e,⟨h1,h2,h3,h4⟩=>by
  have:=zfe h4
  exact⟨h1,h2,fun x x0 x1=>by rw[<-e x x0 (by omega)]; exact h3 x x0 x1,zen (fun x x0 x1=>e x (by omega) x1) h4⟩
theorem znn:∀{ps qs:List Pc} {p q:Pc},AdjB (ps++[p])->AdjB (q :: qs)->p.2.2≠q.2.2->AdjB (ps++[p]++q :: qs)
 | [],qs,p,q,_,h2,h3=>⟨h3,h2⟩
 | [x],qs,p,q,h1,h2,h3=>⟨h1.1,h3,h2⟩
 | x :: y :: ps,qs,p,q,h1,h2,h3=>⟨h1.1,znn (ps:=y :: ps) h1.2 h2 h3⟩
theorem zhb:∀{ps qs:List Pc},AdjB (ps++qs)->AdjB qs
 | [],_,h=>h
 | [x],[],_=>trivial
 | [x],q :: qs,h=>h.2
 | x :: y :: ps,qs,h=>zhb (ps:=y :: ps) h.2
theorem zje:∀{ps:List Pc} {p p':Pc},AdjB (ps++[p])->p'.2.2=p.2.2->AdjB (ps++[p'])
 | [],_,_,_,_=>trivial
 | [x],p,p',h,e=>⟨by rw[e]; exact h.1,trivial⟩
 | x :: y :: ps,p,p',h,e=>⟨h.1,zje (ps:=y :: ps) h.2 e⟩
theorem zit{f:Int->Int}:∀{ps acc:List Pc} {a m w:Int},RepB f a m acc->AdjB acc->RepB f m w ps->RepB f a w (ps.foldl jnS acc)/\AdjB (ps.foldl jnS acc)
 | [],acc,a,m,w,h1,h2,h3=>by
  have:m=w:=h3
  subst this;exact⟨h1,h2⟩
 | p :: ps,acc,a,m,w,h1,h2,⟨g1,g2,g3,g4⟩=>by
  rw[List.foldl_cons];refine zit (m:=p.2.1) ?_ ?_ g4
  ·rcases zc6 acc with rfl | ⟨ac,q,rfl⟩
   ·have:a=m:=h1
    subst this;rw[zm8];exact⟨g1,g2,g3,rfl⟩
   ·rw[zdq];obtain⟨k,k1,k2,k3,k4,k5⟩:=rep_app.mp h1;have k5:q.2.1=m:=k5;split
    ·rename_i e
     refine rep_app.mpr ⟨k,k1,k2,by show k<p.2.1; omega,fun x x0 x1=>?_,rfl⟩;rcases Int.lt_or_le x q.2.1 with z | z
     ·rw[k4 x x0 z]; exact e
     ·exact g3 x (by omega) x1
    ·exact rep_app.mpr ⟨m,rep_app.mpr ⟨k,k1,k2,k3,k4,k5⟩,g1,g2,g3,rfl⟩
  ·rcases zc6 acc with rfl | ⟨ac,q,rfl⟩
   ·exact trivial
   ·rw[zdq];split
    ·rename_i e
     exact zje h2 e.symm
    ·rename_i e
     exact znn (qs:=[]) h2 trivial e
theorem zp2{ps qs:List Pc}{p:Pc}(h1:∀q∈ps,q.2.2<p.2.2)(h2:∀q∈qs,q.2.2<=p.2.2):highF (ps++p :: qs)=ps.length:=by
 have at1:∀i,i<ps.length->((ps++p :: qs).getD i pd).2.2<p.2.2:=fun i hi=>by
  rw[List.getD_eq_getElem?_getD,List.getElem?_append_left hi,List.getElem?_eq_getElem hi];exact h1 _ (List.getElem_mem hi)
 have at2:(ps++p :: qs).getD ps.length pd=p:=by
  rw[List.getD_eq_getElem?_getD,List.getElem?_append_right (Nat.le_refl _),Nat.sub_self];rfl
 have at3:∀i,ps.length<i->i<(ps++p :: qs).length->((ps++p :: qs).getD i pd).2.2<=p.2.2:=fun i hi hl=>by
  rw[List.length_append,List.length_cons] at hl;rw[List.getD_eq_getElem?_getD,List.getElem?_append_right (by omega)];obtain⟨j,hj⟩:∃j,i-ps.length=j+1:=⟨i-ps.length-1,by omega⟩;rw[hj,List.getElem?_cons_succ,List.getElem?_eq_getElem (by omega)];exact h2 _ (List.getElem_mem _)
 have lowi:∀i,i<=ps.length->hiF (ps++p :: qs) i<ps.length\/(hiF (ps++p :: qs) i=0):=by
  intro i
  induction i with
  | zero=>intro _; exact .inr rfl
  | succ i ih =>
   intro hi;show(if _ then i else hiF _ i)<_\/(if _ then i else hiF _ i)=0;split
   ·exact .inl (by omega)
   ·exact ih (by omega)
 have key:∀i,ps.length<i->i<=(ps++p :: qs).length->hiF (ps++p :: qs) i=ps.length:=by
  intro i
  induction i with
  | zero=>intro h; omega
  | succ i ih =>
   intro hi hl;show(if _ then i else hiF _ i)=_;rcases Nat.lt_or_ge ps.length i with z | z
   ·rw[ih z (by omega),at2,if_neg (by have:=at3 i z (by omega); omega)]
   ·have e:i=ps.length:=by omega
    rw[e,at2];rcases lowi ps.length (Nat.le_refl _) with w | w
    ·rw[if_pos (at1 _ w)]
    ·rw[w];cases ps with
     | nil=>split <;> rfl
     | cons a ps=>rw[if_pos (at1 0 (by simp))]
 have hl:(ps++p :: qs).length=ps.length+(qs.length+1):=by rw[List.length_append,List.length_cons]
 exact key _ (by omega) (Nat.le_refl _)
theorem zif{f:Int->Int}:∀{ps:List Pc} {a w x:Int},RepB f a w ps->a<=x->x<w->∃as p bs,ps=as++p :: bs/\p.1<=x/\x<p.2.1
 | [],a,w,x,h,h1,h2=>by have:a=w:=h; omega
 | p :: ps,a,w,x,⟨g1,g2,g3,g4⟩,h1,h2=>by
  rcases Int.lt_or_le x p.2.1 with z | z
  ·exact⟨[],p,ps,rfl,by omega,z⟩
  ·obtain⟨as,q,bs,e,k1,k2⟩:=zif g4 z h2;exact⟨p :: as,q,bs,by rw[e]; rfl,k1,k2⟩
theorem zhh{f:Int->Int}:∀{ps:List Pc} {a w:Int},RepB f a w ps->∀p∈ps,a<=p.1/\p.1<p.2.1/\p.2.1<=w/\f p.1=p.2.2
 | [],_,_,_,p,hp=>by cases hp
 | q :: ps,a,w,⟨g1,g2,g3,g4⟩,p,hp=>by
  rcases List.mem_cons.mp hp with rfl | hp
  ·have:=zfe g4
   exact⟨by omega,by omega,this,by rw[g1]; exact g3 a (Int.le_refl _) g2⟩
  ·have:=zhh g4 p hp
   exact⟨by omega,this.2.1,this.2.2.1,this.2.2.2⟩
end Fl
namespace Mth
open Fl
def fT(ts:List Int)(x:Int):Int:=ts.getD x.toNat 0
theorem zml{ts:List Int}{j:Nat}{v:Int}(h:ts[j]?=some v):fT ts (j:Int)=v:=by
 unfold fT;rw[List.getD_eq_getElem?_getD,Int.toNat_natCast,h]; rfl
section
variable {ts:List Int} {ps:List Pc} {s:Int}
theorem zj3{x:Int}(h0:0<=x)(h1:x<ts.length):ts[x.toNat]?=some (fT ts x):=by
 unfold fT;rw[List.getD_eq_getElem?_getD,List.getElem?_eq_getElem (by omega)]; rfl
theorem fT_le(h:ts≠[]){x:Int}(h0:0<=x)(h1:x<ts.length):fT ts x<=maxL ts:=(zet h).2 _ (List.mem_of_getElem? (zj3 h0 h1))
theorem fT_lt(h:ts≠[]){x:Int}(h0:0<=x)(h1:x<leftF ts):fT ts x<maxL ts:=by
 have hl:=zdi h;have e:=zj3 (ts:=ts) h0 (by omega)
 have:=fT_le h h0 (by omega)
 have ne:fT ts x≠maxL ts:=fun z=>by
  rw[z] at e;obtain⟨hx,ex⟩:=List.getElem?_eq_some_iff.mp e
  have:leftF ts<=x.toNat:=by
   rcases Nat.lt_or_ge x.toNat (leftF ts) with w | w
   ·exact absurd ex (List.not_of_lt_findIdx w |> fun q=>by simpa using q)
   ·exact w
  omega
 omega
theorem zid(h:ts≠[])(R:RepB (fT ts) 0 (ts.length:Int) ps)(A:AdjB ps):∃as bs,ps=as++((leftF ts:Int),(leftF ts:Int)+(spanF ts:Int),maxL ts) :: bs/\highF ps=as.length/\topF ps=((leftF ts:Int),(leftF ts:Int)+(spanF ts:Int),maxL ts)/\RepB (fT ts) 0 (leftF ts:Int) as/\RepB (fT ts) ((leftF ts:Int)+(spanF ts:Int)) (ts.length:Int) bs:=by
 have hl:=zdi h;have fl:fT ts (leftF ts:Int)=maxL ts:=zml (zhy h);obtain⟨as,p,bs,e,p1,p2⟩:=zif R (x:=(leftF ts:Int)) (by omega) (by omega);subst e;obtain⟨m,r1,e1,r2,r3,r4⟩:=rep_app.mp R;have w1:=zfe r4;have m0:=zfe r1;have ep:p.2.2=maxL ts:=by rw[<-r3 _ (by omega) p2]; exact fl
 have el:p.1=(leftF ts:Int):=by
  rcases Int.lt_or_le p.1 (leftF ts:Int) with z | z
  ·have:=fT_lt h (x:=p.1) (by omega) z
   rw[r3 p.1 (by omega) (by omega)] at this;omega
  ·omega
 have eu:p.2.1=(leftF ts:Int)+(spanF ts:Int):=by
  have sp:=(zel ts).resolve_right h;rcases Int.lt_trichotomy p.2.1 ((leftF ts:Int)+(spanF ts:Int)) with z | z | z
  ·exfalso
   obtain⟨j,hj⟩:∃j:Nat,p.2.1=(leftF ts:Int)+(j:Int):=⟨(p.2.1-(leftF ts:Int)).toNat,by omega⟩;have a1:=zem (ts:=ts) (j:=j) (by omega);have a2:=zml a1;cases bs with
   | nil=>have:p.2.1=(ts.length:Int):=r4; omega
   | cons q bs =>
    obtain⟨q1,q2,q3,_⟩:=r4;have ad:AdjB (p :: q :: bs):=zhb A;refine ad.1 ?_;rw[ep,<-q3 p.2.1 (Int.le_refl _) q2,hj];rw[show((leftF ts+j:Nat):Int)=(leftF ts:Int)+(j:Int) by omega] at a2;exact a2.symm
  ·exact z
  ·exfalso
   have a1:=zj3 (ts:=ts) (x:=(leftF ts:Int)+(spanF ts:Int)) (by omega) (by omega);rw[r3 _ (by omega) z,ep] at a1
   have:=(zfo (m:=maxL ts) (l:=ts.drop (leftF ts)) (j:=spanF ts) (Nat.le_refl _)).mpr (by
    rw[List.getElem?_drop];rw[show((leftF ts:Int)+(spanF ts:Int)).toNat=leftF ts+spanF ts by omega] at a1;exact a1)
   exact Nat.lt_irrefl _ this
 have eP:p=((leftF ts:Int),(leftF ts:Int)+(spanF ts:Int),maxL ts):=Prod.ext el (Prod.ext eu ep);have hf:highF (as++p :: bs)=as.length:=zp2 (fun q hq=>by
   obtain⟨a1,a2,a3,a4⟩:=zhh r1 q hq;rw[<-a4,ep];exact fT_lt h a1 (by omega)) (fun q hq=>by
   obtain⟨a1,a2,a3,a4⟩:=zhh r4 q hq;rw[<-a4,ep];exact fT_le h (by omega) (by omega))
 refine⟨as,bs,by rw[<-eP],hf,?_,by rw[<-el,e1]; exact r1,by rw[<-eu]; exact r4⟩;unfold topF;rw[hf,List.getD_eq_getElem?_getD,List.getElem?_append_right (Nat.le_refl _),Nat.sub_self,<-eP];rfl
theorem zkq(h:ts≠[])(R:RepB (fT ts) 0 (ts.length:Int) ps):ps≠[]:=fun z=>by
 rw[z] at R
 have:(0:Int)=(ts.length:Int):=R
 have:=List.length_pos_iff.mpr h
 omega
theorem fit_is(h:ts≠[])(R:RepB (fT ts) 0 (ts.length:Int) ps)(A:AdjB ps):noFit ps s↔badF ts s:=by
 obtain⟨as,bs,e,hf,ht,_⟩:=zid h R A;unfold noFit badF;rw[ht]
 have:(leftF ts:Int)+(spanF ts:Int)-(leftF ts:Int)=(spanF ts:Int):=by omega
 simp only[this]
theorem lay_at(hl:leftF ts+s.toNat<=ts.length)(hs:0<=s){x:Int}(h0:0<=x):fT (layF ts s) x=if (leftF ts:Int)<=x/\x<(leftF ts:Int)+s then fT ts x-s else fT ts x:=by
 obtain⟨j,rfl⟩:∃j:Nat,x=(j:Int):=⟨x.toNat,by omega⟩;unfold fT layF;rw[Int.toNat_natCast,List.getD_eq_getElem?_getD,List.getD_eq_getElem?_getD];have l1:(ts.take (leftF ts)).length=leftF ts:=by rw[List.length_take]; omega
 have l2:(((ts.drop (leftF ts)).take s.toNat).map fun x=>x-s).length=s.toNat:=by rw[List.length_map,List.length_take,List.length_drop]; omega
 rcases Nat.lt_or_ge j (leftF ts) with z | z
 ·rw[if_neg (by omega),List.append_assoc,List.getElem?_append_left (by omega),List.getElem?_take_of_lt z]
 ·rcases Nat.lt_or_ge j (leftF ts+s.toNat) with w | w
  ·rw[if_pos (by omega),List.append_assoc,List.getElem?_append_right (by omega),List.getElem?_append_left (by omega),l1,List.getElem?_map,List.getElem?_take_of_lt (by omega),List.getElem?_drop,show leftF ts+(j-leftF ts)=j by omega,List.getElem?_eq_getElem (by omega)];rfl
  ·rw[if_neg (by omega),List.getElem?_append_right (by rw[List.length_append]; omega),List.length_append,l1,l2,List.getElem?_drop,show leftF ts+s.toNat+(j-(leftF ts+s.toNat))=j by omega]
theorem zoz(h:ts≠[])(R:RepB (fT ts) 0 (ts.length:Int) ps)(A:AdjB ps)(nb:¬badF ts s):RepB (fT (layF ts s)) 0 ((layF ts s).length:Int) (joinF (partsF ps s))/\AdjB (joinF (partsF ps s)):=by
 have n1:¬s<1:=fun z=>nb (.inl z)
 have n2:¬(spanF ts:Int)<s:=fun z=>nb (.inr (.inl z))
 have sp:=(zel ts).resolve_right h;have hl:leftF ts+s.toNat<=ts.length:=by omega
 have ln:(layF ts s).length=ts.length:=by rw[zpo]; exact zef hl
 obtain⟨as,bs,e,hf,ht,r1,r4⟩:=zid h R A;rw[ln];have w1:=zfe r4;have at_:∀{x:Int},0<=x->fT (layF ts s) x=if (leftF ts:Int)<=x/\x<(leftF ts:Int)+s then fT ts x-s else fT ts x:=fun h0=>lay_at hl (by omega) h0
 have on_:∀x:Int,(leftF ts:Int)<=x->x<(leftF ts:Int)+(spanF ts:Int)->fT ts x=maxL ts:=fun x x0 x1=>by
  obtain⟨j,rfl⟩:∃j:Nat,x=((leftF ts+j:Nat):Int):=⟨(x-(leftF ts:Int)).toNat,by omega⟩;exact zml (zem (by omega))
 have rp:RepB (fT (layF ts s)) 0 (ts.length:Int) (partsF ps s):=by
  unfold partsF;rw[hf,ht];subst e;rw[List.take_left,show(as++((leftF ts:Int),(leftF ts:Int)+(spanF ts:Int),maxL ts) :: bs).drop (as.length+1)=bs by rw[<-List.drop_drop,List.drop_left]; rfl];have ra:RepB (fT (layF ts s)) 0 (leftF ts:Int) as:=zen (fun x x0 x1=>by rw[at_ x0,if_neg (by omega)]) r1;have rb:RepB (fT (layF ts s)) ((leftF ts:Int)+(spanF ts:Int)) (ts.length:Int) bs:=zen (fun x x0 x1=>by rw[at_ (by omega),if_neg (by omega)]) r4;have rc:RepB (fT (layF ts s)) (leftF ts:Int) ((leftF ts:Int)+s) [((leftF ts:Int),(leftF ts:Int)+s,maxL ts-s)]:=⟨rfl,by show(leftF ts:Int)<(leftF ts:Int)+s; omega,fun x x0 x1=>by
   have x1:x<(leftF ts:Int)+s:=x1;rw[at_ (by omega),if_pos ⟨x0,x1⟩,on_ x x0 (by omega)],rfl⟩
  dsimp only;split
  ·rename_i z
   refine rep_app.mpr ⟨_,rep_app.mpr ⟨_,rep_app.mpr ⟨_,ra,rc⟩,rfl,z,fun x x0 x1=>?_,rfl⟩,rb⟩;have x1:x<(leftF ts:Int)+(spanF ts:Int):=x1;rw[at_ (by omega),if_neg (by omega)];exact on_ x (by omega) x1
  ·rename_i z
   rw[List.append_nil];refine rep_app.mpr ⟨_,rep_app.mpr ⟨_,ra,rc⟩,?_⟩;rw[show(leftF ts:Int)+s=(leftF ts:Int)+(spanF ts:Int) by omega];exact rb
 exact zit (acc:=[]) (a:=0) (m:=0) rfl trivial rp
theorem zkr{x:Nat}(hx:0<x)(y:Int):RepB (fT (List.replicate x y)) 0 ((List.replicate x y).length:Int) [(0,(x:Int),y)]:=by
 refine⟨rfl,by show(0:Int)<(x:Int); omega,fun z z0 z1=>?_,by show(x:Int)=_; rw[List.length_replicate]⟩;have z1:z<(x:Int):=z1
 have:=zj3 (ts:=List.replicate x y) z0 (by rw[List.length_replicate]; exact z1)
 rw[List.getElem?_replicate,if_pos (by omega)] at this;exact(Option.some.inj this).symm
def boxesF:List Int->List Int->List Box
 | _,[]=>[]
 | ts,s :: r=>((leftF ts:Int),maxL ts-s,(leftF ts:Int)+s,maxL ts) :: boxesF (layF ts s) r
end
end Mth
namespace My
open PySem L2 Mth
theorem za3{H:Hp}{p:Addr}(h:H p=none)(o:HO):Same H (upd H p o):=fun b u q=>by rw[upd_ne (ne_of_none q h)]; exact q
def SameB(x:Addr)(H H':Hp):Prop:=∀b o,b≠x->H b=some o->H' b=some o
theorem SameB.refl(x:Addr)(H:Hp):SameB x H H:=fun _ _ _ h=>h
theorem SameB.put{x:Addr}{H H':Hp}(h:SameB x H H')(o:HO):SameB x H (upd H' x o):=fun b u n q=>by rw[upd_ne n]; exact h b u n q
theorem SameB.trans{x:Addr}{H H1 H2:Hp}(a:SameB x H H1)(b:SameB x H1 H2):SameB x H H2:=fun c o n h=>b c o n (a c o n h)
theorem _root_.L2.Same.b{x:Addr}{H H':Hp}(h:Same H H'):SameB x H H':=fun b o _ q=>h b o q
theorem SameB.same{x:Addr}{H0 H H':Hp}(h:SameB x H H')(s:Same H0 H)(n:H0 x=none):Same H0 H':=fun b o q=>h b o (ne_of_none q n) (s b o q)
theorem SameB.one{x:Addr}{H:Hp}{o:HO}:SameB x H (upd H x o):=(SameB.refl x H).put o
theorem _root_.L2.Same.up{x:Addr}{H0 H:Hp}(s:Same H0 H)(n:H0 x=none)(o:HO):Same H0 (upd H x o):=SameB.one.same s n
theorem iteNN{c A B:Prop}[Decidable c](hc:¬c)(h:A):if (!decide c)=true then A else B:=by
 rw[decide_eq_false hc];exact iteT h
theorem iteDT{c A B:Prop}[Decidable c](hc:c)(h:A):if decide c=true then A else B:=by
 rw[decide_eq_true hc];exact iteT h
theorem iteDF{c A B:Prop}[Decidable c](hc:¬c)(h:B):if decide c=true then A else B:=by
 rw[decide_eq_false hc];exact iteF h
theorem iv{a b:Int}(h:a=b):V.int a=V.int b:=by rw[h]
theorem ivn{a b:Int}(h:a≠b):¬V.int a=V.int b:=fun z=>h (V.int.inj z)
theorem szl{n:Nat}(h:n<=100000):n<sizeLine:=by rw[sizeLine_eq]; omega
def TsA(H:Hp)(a:Addr)(bs:List Addr)(ts:List (List Int)):Prop :=
 H a=some (.tup (bs.map V.ref))/\bs.length=ts.length/\∀(i:Nat) (b:Addr) (row:List Int),bs[i]?=some b->ts[i]?=some row->H b=some (.tup (row.map V.int))
theorem TsA.keep{H H':Hp}{a:Addr}{bs:List Addr}{ts:List (List Int)}(h:TsA H a bs ts)(s:Same H H'):TsA H' a bs ts :=
 ⟨s _ _ h.1,h.2.1,fun i b row e1 e2=>s _ _ (h.2.2 i b row e1 e2)⟩
theorem int_at{row:List Int}{i:Nat}{x:V}(h:(row.map V.int)[i]?=some x):∃e,x=.int e/\row[i]?=some e:=by
 rw[List.getElem?_map] at h;cases q:row[i]? with
 | none=>rw[q] at h; cases h
 | some e =>
  rw[q] at h;exact⟨e,(Option.some.inj h).symm,rfl⟩
theorem zha{row:List Int}{i:Nat}{e:Int}(h:row[i]?=some e):(row.map V.int)[i]?=some (.int e):=by rw[List.getElem?_map,h]; rfl
theorem t3_0(x y z:V):atI [x,y,z] 0=some x:=zak (j:=0) rfl
theorem t3_1(x y z:V):atI [x,y,z] 1=some y:=zak (j:=1) rfl
theorem t3_2(x y z:V):atI [x,y,z] 2=some z:=zak (j:=2) rfl
theorem at0{x y:V}:atI [x,y] 0=some x:=zak (j:=0) rfl
theorem at1{x y:V}:atI [x,y] 1=some y:=zak (j:=1) rfl
theorem zeg(xs:List V){j:Nat}(h:j<=xs.length):cutV xs none (some (j:Int))=xs.take j:=by
 unfold cutV;have e1:HT.sIx xs.length 0 none=0:=rfl;have e2:HT.sIx xs.length xs.length (some (j:Int))=j:=by simp[HT.sIx]; rw[if_neg (by omega)]; omega
 rw[e1,e2]; simp
theorem zeh(xs:List V){j:Nat}(h:j<=xs.length):cutV xs (some (j:Int)) none=xs.drop j:=by
 unfold cutV;have e1:HT.sIx xs.length 0 (some (j:Int))=j:=by simp[HT.sIx]; rw[if_neg (by omega)]; omega
 have e2:HT.sIx xs.length xs.length none=xs.length:=rfl;rw[e1,e2,List.take_of_length_le]; simp
theorem szle{n:Nat}(h:n<=100000):n<=sizeLine:=Nat.le_of_lt (szl h)
def IntsT(H:Hp)(b:Addr)(ns:List Int):Prop:=H b=some (.tup (ns.map V.int))
theorem IntsT.del{H:Hp}{a b:Addr}{t:List Int}{ys:List V}(h:IntsT H b t)(e:H a=some (.lst ys)):IntsT (del H a) b t:=zcr h fun z=>by rw[z] at h; unfold IntsT at h; rw[e] at h; cases h
theorem ziv{n j:Nat}(h:j<n):ixN n ((j:Nat):Int)=some j:=by unfold ixN; rw[if_pos (by omega),if_pos (by omega)]; simp
theorem nx_go{D:Ends}{f:L2.St->Hp->Prop}{σ:L2.St}{H:Hp}(h:f σ H):({ D with nx:=f }:Ends).nx σ H:=h
theorem zo0{t u:L2.TS}{D:Ends}{σ:L2.St}{H:Hp}{G:L2.St->Hp->Prop}(m:(∀σ H,G σ H->u D σ H)->t { D with nx:=u D } σ H)(r:∀σ H,G σ H->u D σ H):tSeq t u D σ H:=m r
abbrev ScA(K:PySem.W.Frag)(H:Hp)(a:Addr)(ns:List Int):Prop:=SqL K H a (ns.map V.int)/\ns.length<=63
end My
namespace My
open PySem
def top(i:Nat):Stmt:=PySem.Challenge.pw_currentfloor_k53_sizes_refused.main.body.getD i (.Pass ⟨0,0,0,0⟩)
abbrev sCommon:Stmt:=top 7
abbrev sFraction:Stmt:=top 8
abbrev sMinus:Stmt:=top 9
abbrev sCBot:Stmt:=top 10
abbrev sWholes:Stmt:=top 11
abbrev zca:Stmt:=top 13
abbrev zbf:Stmt:=top 14
abbrev zb5:Stmt:=top 15
abbrev zbk:Stmt:=top 17
abbrev zd8:Stmt:=top 18
abbrev zck:Stmt:=top 19
abbrev zat:Stmt:=top 20
abbrev zcp:Stmt:=top 21
abbrev zau:Stmt:=top 22
abbrev zbw:Stmt:=top 23
abbrev zaz:Stmt:=top 24
abbrev zd7:Stmt:=top 25
abbrev zb3:Stmt:=top 26
abbrev zc7:Stmt:=top 28
abbrev zbv:Stmt:=top 29
abbrev zc9:Stmt:=top 31
abbrev zco:Stmt:=top 32
abbrev zcn:Stmt:=top 33
abbrev zas:Stmt:=top 34
abbrev zfd:Stmt:=top 35
abbrev zb2:Stmt:=top 36
abbrev zcm:Stmt:=top 37
abbrev zbr:Stmt:=top 38
abbrev zcb:Stmt:=top 39
abbrev sCellAt:Stmt:=top 41
abbrev zbi:Stmt:=top 42
abbrev zbs:Stmt:=top 43
abbrev zcl:Stmt:=top 44
abbrev zbj:Stmt:=top 45
abbrev zbu:Stmt:=top 46
abbrev zao:Stmt:=top 47
abbrev zbh:Stmt:=top 48
abbrev zb1:Stmt:=top 49
abbrev sSpot:Stmt:=top 52
abbrev zc8:Stmt:=top 53
abbrev zb0:Stmt:=top 54
abbrev zbg:Stmt:=top 55
abbrev zbt:Stmt:=top 56
abbrev zap:Stmt:=top 57
abbrev zb6:Stmt:=top 58
abbrev zar:Stmt:=top 59
abbrev sLaw:Stmt:=top 60
abbrev sNoFInit:Stmt:=L2.inClass (top 2) 0
abbrev sNoCInit:Stmt:=L2.inClass (top 3) 0
abbrev sNoSInit:Stmt:=L2.inClass (top 4) 0
end My
namespace My
open PySem L2 Mth
section
variable {P:Program} {w:World} {K:PySem.W.Frag} {mg:Str->Option Value} {base:Heap}
inductive SpGcdR(vs:List V)(H:Hp)(Q:VK):Prop
 | mk (a b:Int) (h_0:vs=[.int a,.int b]) (h_1:Q (.int (Int.gcd a b:Int)) H):SpGcdR vs H Q
def spGcd:Sp:=fun vs H Q _=>SpGcdR vs H Q
theorem znp{x:Int}{n:Nat}(h:Int.gcd x 0=n):(if x<0 then -x else x)=(n:Int):=by
 rw[<-h,Int.gcd_zero_right];split <;> omega
theorem scCP:FnScope ["one","other","rest"] ["one","other"] (defScope sCommon):=⟨rfl,rfl,rfl,by decide +kernel,rfl,by decide +kernel,by decide +kernel⟩
theorem zlg{f:Addr}{fd:FuncData}(F:Fun K "common_part" "common_part" sCommon f fd)(ma:mg "abs" = none):FnOk P w K mg base CX0 1 f fd ["one","other"] spGcd:=by
 refine F.ok scCP (fun vs H Q E h=>?_) (fun cdv A outer s H vs Q E hr h=>?_)
 ·obtain⟨a,b,rfl,_⟩:=h;rfl
 obtain⟨a,b,rfl,q⟩:=h;refine⟨_,za5 (zfu PassesOwn.never (zaf zod (pv 1) za4 (nomark _))
   (za5 (za9 (i:=2) scCP.nd rfl (Or.inl rfl) (zaa zqe (pv 0) (pv 1)))
   (za5 (za9 (i:=0) scCP.nd rfl (Or.inl rfl) (pv 1))
   (za6 (za9 (i:=1) scCP.nd rfl (Or.inl rfl) (pv 2))))))
  (za6 (zad (zag zj9 (by rfl) ma PyProof.Rows.boot_abs (za0 (pv 0) za2)))),?_⟩
 refine zfp (fun σ H2=>∃x y r,σ=[some (.int x),some (.int y),r]/\H2=H/\Int.gcd x y=Int.gcd a b) (fun σ _=>match σ with | [_,some (.int y),_]=>y.natAbs | _=>0) ⟨a,b,none,rfl,rfl,rfl⟩ ?_ ?_
 ·rintro σ H2 ⟨x,y,r,rfl,rfl,g⟩;refine⟨_,rfl,rfl,_,rfl,?_⟩;by_cases hy:y=0
  ·refine iteNS (iv hy) ?_;subst hy;refine⟨_,rfl,x,rfl,?_⟩;rw[znp g];exact q
  ·refine iteNN (ivn hy) ?_;exact⟨_,rfl,_,rfl,_,_,rfl,rfl,hy,_,rfl,_,rfl,⟨y,x.fmod y,some (.int (x.fmod y)),rfl,rfl,(zj0 x y).trans g⟩,zrb x y hy⟩
 ·rintro σ H2 Q1 Q2 hq ⟨v,e,sc,b,eb,z⟩;exact⟨v,e,sc,b,eb,hq _ _ z⟩
theorem ps_never{X:Cx}{st:Stmt}:PS X st (fun _ _ _=>False):=by
 intro pins s σ H D I h;exact False.elim h
inductive SpFracR(C:Addr)(vs:List V)(H:Hp)(Q:VK)(E:XK):Prop
 | mk (t b:Int) (h_0:vs=[.int t,.int b]) (h_1:Big b) (h_2:(b=0->False)) (h_3:(b≠0->∀p,H p=none->Q (.ref p) (upd H p (.tup [.int (frac t b).1,.int (frac t b).2])))):SpFracR C vs H Q E
def spFrac(C:Addr):Sp:=fun vs H Q E=>SpFracR C vs H Q E
theorem scF:FnScope ["top","bottom","part"] ["top","bottom"] (defScope sFraction):=⟨rfl,rfl,rfl,by decide +kernel,rfl,by decide +kernel,by decide +kernel⟩
theorem zhr{f g C:Addr}{fd gd:FuncData}(F:Fun K "fraction" "fraction" sFraction f fd)(G:FnOk P w K mg base CX0 1 g gd ["one","other"] spGcd)(bG:Binds K gd ["one","other"] [])(kG:PySem.W.keepIn K (.ref g)=true)(mG:mg "common_part" = some (.ref g)):FnOk P w K mg base CX0 2 f fd ["top","bottom"] (spFrac C):=by
 refine F.ok scF (fun vs H Q E h=>?_) (fun cdv A outer s H vs Q E hr h=>?_)
 ·obtain⟨a,b,rfl,_⟩:=h;rfl
 obtain⟨t,b,rfl,hb,h0,h1⟩:=h;refine⟨_,za5 (zaw (zaf zcj (pv 1) za4 (nomark _)) (za6 ps_never) zaj)
  (za5 (za9 (i:=2) scF.nd rfl (Or.inl rfl) (za7 (CX:=CX0) G hr (by rfl) mG kG bG .nil (pass0 (X:=_)) (za0 (pv 0) (za0 (pv 1) za2))))
  (za5 (zaw (zaf zf6 (pv 1) za4 (nomark _)) (za6 (za9 (i:=2) scF.nd rfl (Or.inl rfl) (zhp zej (pv 2)))) zaj)
  (za6 (zad (zac (za0 (zaa zda (pv 0) (pv 2)) (za0 (zaa zda (pv 1) (pv 2)) za2))))))),?_⟩
 refine⟨_,rfl,rfl,_,rfl,?_⟩;by_cases hz:b=0
 ·refine iteDT (iv hz) ?_;exact(h0 hz).elim
 refine iteDF (ivn hz) ?_;refine⟨_,rfl,_,rfl,t,b,rfl,?_⟩;refine⟨_,rfl,_,_,rfl,rfl,_,rfl,?_⟩;have fin:∀part,part=Mth.part t b->tRet (tTup (tCons (tOp (rI CDivB fun i j=>V.int (i.fdiv j)) (tVar 0) (tVar 2)) (tCons (tOp (rI CDivB fun i j=>V.int (i.fdiv j)) (tVar 1) (tVar 2)) tNil)))
   { nx:=fun _ H'=>Q .non H',rt:=Q } [some (.int t),some (.int b),some (.int part)] H:=by
  rintro part rfl;have hp:CDivB t (Mth.part t b):=⟨zfx t b hz,Nat.lt_of_le_of_lt (zl9 t b hz) hb⟩;exact⟨_,rfl,_,rfl,_,_,rfl,rfl,hp,_,rfl,_,rfl,_,_,rfl,rfl,hp,by show 2<=sizeLine; decide,h1 hz⟩
 by_cases hn:b<0
 ·refine iteDT hn ?_;exact⟨_,rfl,_,rfl,fin _ (by unfold Mth.part; rw[if_pos hn])⟩
 ·refine iteDF hn ?_;exact fin _ (by unfold Mth.part; rw[if_neg hn])
end
end My
namespace My
open PySem L2 Mth Wd
theorem zhe{x:Addr}{H0 H:Hp}(s:Same H0 H)(n:H0 x=none)(o:HO):Same H0 (upd H x o):=fun b u q=>by rw[upd_ne (ne_of_none q n)]; exact s b u q
theorem big2{i:Int}{n:Nat}(h:i.natAbs<=2 ^ n)(hn:n<8000):Big i:=Nat.lt_of_le_of_lt h (Nat.pow_lt_pow_right (by decide) hn)
theorem zi3{ns:List Int}{i:Nat}{v:V}(h:(ns.map V.int)[i]?=some v):∃e,v=.int e/\ns[i]?=some e:=by
 rw[List.getElem?_map] at h;cases q:ns[i]? with
 | none=>rw[q] at h; cases h
 | some e=>rw[q] at h; exact⟨e,(Option.some.inj h).symm,rfl⟩
theorem zg7{ns:List Int}{i:Nat}(h:i<ns.length):atI (ns.map V.int) (i:Int)=some (.int (ns.getD i 0)):=by
 refine zak ?_;rw[List.getElem?_map,List.getElem?_eq_getElem h,List.getD_eq_getElem?_getD,List.getElem?_eq_getElem h]; rfl
theorem zah{α:Type}{xs:List α}{i:Nat}{x:α}(h:xs[i]?=some x):xs.take (i+1)=xs.take i++[x]:=by
 rw[List.take_add_one,h]; rfl
section
variable {P:Program} {w:World} {K:PySem.W.Frag} {mg:Str->Option Value} {base:Heap} {f g h C:Addr} {fd gd hd:FuncData}
theorem scCB:FnScope ["row","common","one"] ["row"] (defScope sCBot):=⟨rfl,rfl,rfl,by decide +kernel,rfl,by decide +kernel,by decide +kernel⟩
inductive SpWholesR(vs:List V)(H:Hp)(Q:VK):Prop
 | mk (a:Addr) (qs:List Rat) (b:Int) (h_0:vs=[.ref a,.int b]) (h_1:TupR FrR H a qs) (h_2:qs.length<=1000) (h_3:(∀q∈qs,Big q.num/\Big (q.den:Int)/\Big (b.fdiv q.den))) (h_4:∀p H',Same H H'->H p=none->IntsL H' p (qs.map (wh b))->Q (.ref p) H'):SpWholesR vs H Q
def spWholes:Sp:=fun vs H Q _=>SpWholesR vs H Q
theorem scWs:FnScope ["row","bottom"] ["row","bottom"] (defScope sWholes):=⟨rfl,rfl,rfl,by decide +kernel,rfl,by decide +kernel,by decide +kernel⟩
theorem ndWs:(["one","bottom"]:List Str).Nodup:=by decide +kernel
theorem zle(F:Fun K "wholes" "wholes" sWholes f fd):FnOk P w K mg base CX0 1 f fd ["row","bottom"] spWholes:=by
 refine F.ok scWs (fun vs H Q E h=>?_) (fun cdv A outer s H vs Q E hr h=>?_)
 ·obtain⟨a,qs,b,rfl,_⟩:=h;rfl
 obtain⟨a,qs,b,rfl,⟨bs,ha,hA⟩,hn,hsz,q⟩:=h;refine⟨_,za6 (zad (zd1 (Nc:=["one","bottom"]) (cap:=[(1,1)]) (g:=gName 0) (te:=tOp (rI CMulB fun i j=>.int (i*j)) (tOp (rIxT K) (tVar 0) (tC (.int 0))) (tOp (rI CDivB fun i j=>.int (i.fdiv j)) (tVar 1) (tOp (rIxT K) (tVar 0) (tC (.int 1))))) rfl (zgh (pv 0))
   (zbe rfl rfl (by decide +kernel) (by decide +kernel) (List.forall_mem_cons.mpr ⟨⟨rfl,rfl⟩,List.forall_mem_nil _⟩) rfl (List.forall_mem_cons.mpr ⟨⟨_,_,rfl,rfl,rfl,rfl,rfl⟩,List.forall_mem_nil _⟩))
   (fun C fp pins s' H'=>zab (i:=0) ndWs rfl (Or.inl rfl)) (fun C fp pins s' H'=>zaa zdv (za8 zcf (pv 0) za4 (fun _ _=>rfl)) (zaa zda (pv 1) (za8 zcf (pv 0) za4 (fun _ _=>rfl)))))),?_⟩
 refine⟨_,rfl,a,rfl,⟨_,SqT.of ha⟩,fun acc hacc=>?_⟩;refine zay (zcz ha) (by rw[List.length_map,hA.1]; exact hn) hacc (fun i ys σ _=>ys=((qs.take i).map (wh b)).map V.int/\∃u,σ=[u,some (.int b)]) ⟨rfl,none,rfl⟩ ?_ ?_
 ·rintro i ys σ H2 x H3 hi sm hacc2 ⟨hys,u,rfl⟩ ⟨rfl,hx⟩ C hC;obtain⟨c,y,rfl,_,hy,hB⟩:=hA.ref hx;obtain⟨s1,s2,s3⟩:=hsz y (List.mem_of_getElem? hy);have hB3:=zba sm hB;have yd:=y.den_nz;refine⟨_,rfl,c,_,_,_,rfl,rfl,SqT.of hB3,at0,_,rfl,_,rfl,c,_,_,_,rfl,rfl,SqT.of hB3,at1,_,_,rfl,rfl,⟨by omega,s2⟩,_,_,rfl,rfl,⟨s1,s3⟩,?_⟩;refine hC _ _ _ (Same.refl _) ⟨?_,_,rfl⟩;rw[hys,zah hy,List.map_append,List.map_append]; rfl
 ·rintro ys σ H2 sm ha2 hl ⟨hys,_⟩;refine q acc H2 sm hacc ?_;rw[List.length_map,hA.1,List.take_length] at hys;unfold IntsL;rw[ha2,hys]
theorem bt_list:bootBuiltins "list" = some (.type "list"):=by decide +kernel
end
theorem fr_upd{H:Hp}{a:Addr}{bs:List Addr}{qs:List Rat}{ys:List V}(h:At FrR H bs qs)(e:H a=some (.lst ys))(o:HO):At FrR (upd H a o) bs qs:=(zpu e h).keep zba (del_up H a o)
theorem tfd{H:Hp}{a b:Addr}{r:List Rat}{ys:List V}(h:TupR FrR H b r)(e:H a=some (.lst ys)):TupR FrR (del H a) b r:=by
 obtain⟨cs,h1,h2⟩:=h;exact⟨cs,zcr h1 (fun z=>by rw[z,e] at h1; cases h1),zpu e h2⟩
theorem zcv:Mo (TupR FrR):=fun s h=>zgm (R:=FrR) (fun s h=>zba s h) s h
def FloorR(H:Hp)(a:Addr)(W U:Rat)(rows:List (List Rat)):Prop:=∃p q r,H a=some (.tup [.ref p,.ref q,.ref r])/\FrR H p W/\FrR H q U/\TupR (TupR FrR) H r rows
theorem zc5{H H':Hp}{a:Addr}{W U:Rat}{rows:List (List Rat)}(s:Same H H')(h:FloorR H a W U rows):FloorR H' a W U rows:=by
 obtain⟨p,q,r,h1,h2,h3,h4⟩:=h;exact⟨p,q,r,s _ _ h1,s _ _ h2,s _ _ h3,zgm (R:=TupR FrR) (fun s h=>zcv s h) s h4⟩
abbrev nums(W U:Rat)(rows:List (List Rat)):List Rat:=W :: U :: rows.flatten
theorem flat4:∀{rows:List (List Rat)},(∀r∈rows,r.length=4)->rows.flatten.length=4*rows.length
 | [],_=>rfl
 | r :: rows,h=>by
  rw[List.flatten_cons,List.length_append,h r (by simp),flat4 (fun x hx=>h x (by simp[hx])),List.length_cons]; omega
section
variable {P:Program} {w:World} {K:PySem.W.Frag} {mg:Str->Option Value} {base:Heap} {f g h C0 f1 f2 f3 f4 f5:Addr} {fd gd hd d1 d2 d3 d4 d5:FuncData}
inductive SpCBLR(vs:List V)(H:Hp)(Q:VK):Prop
 | mk (a:Addr) (qs:List Rat) (d:Nat) (h_0:vs=[.ref a]) (h_1:LstR FrR H a qs) (h_2:(∀q∈qs,q.den<=2 ^ d)) (h_3:d*qs.length+d<8000) (h_4:Q (.int (cb qs)) H):SpCBLR vs H Q
def spCBL:Sp:=fun vs H Q _=>SpCBLR vs H Q
theorem zoi(F:Fun K "common_bottom" "common_bottom" sCBot f fd)(G:FnOk P w K mg base CX0 1 g gd ["one","other"] spGcd)(bG:Binds K gd ["one","other"] [])(kG:PySem.W.keepIn K (.ref g)=true)(mG:mg "common_part" = some (.ref g)):
  FnOk P w K mg base CX0 2 f fd ["row"] spCBL:=by
 refine F.ok scCB (fun vs H Q E h=>?_) (fun cdv A outer s H vs Q E hr h=>?_)
 ·obtain⟨a,qs,d,rfl,_⟩:=h;rfl
 obtain⟨a,qs,d,rfl,⟨bs,ha,hA⟩,hd,hsz,q⟩:=h;refine⟨_,za5 (za9 (i:=1) scCB.nd rfl (Or.inl rfl) za4)
  (za5 (zb9 PassesOwn.never rfl (zhn (pv 0)) (zab (i:=2) scCB.nd rfl (Or.inl rfl))
   (za6 (za9 (i:=1) scCB.nd rfl (Or.inl rfl) (zaa zdv (zaa zda (pv 1) (za7 G hr (by rfl) mG kG bG .nil pass0 (za0 (pv 1) (za0 (za8 zcf (pv 2) za4 (fun _ _=>rfl)) za2)))) (za8 zcf (pv 2) za4 (fun _ _=>rfl))))))
  (za6 (zad (pv 1)))),?_⟩
 refine⟨_,rfl,a,rfl,⟨_,SqL.of ha⟩,?_⟩;refine zg1 (xs:=bs.map V.ref) (fun i σ H2=>∃u,H2=H/\σ=[some (.ref a),some (.int ((qs.take i).foldl cb1 1)),u]) ⟨none,rfl,rfl⟩ (fun i σ H2 _ ⟨_,e,_⟩=>by rw[e]; exact SqL.of ha) ?_ ?_
 ·rintro i x σ H2 hx ⟨u,rfl,rfl⟩;obtain⟨b,y,rfl,_,hy,hB⟩:=hA.ref hx;have hi:i<qs.length:=(List.getElem?_eq_some_iff.mp hy).1;have ym:y∈qs:=List.mem_of_getElem? hy;obtain⟨c1,c2,c3,c4⟩:=cb_ok (qs.take i) (c:=1) (D:=0) (d:=d) (by decide) (by decide) (fun p hp=>hd p (List.mem_of_mem_take hp));generalize hc:(qs.take i).foldl cb1 1=c at *;have lt:(qs.take i).length<=qs.length:=by simp; omega
  have mle:d*(qs.take i).length<=d*qs.length:=Nat.mul_le_mul_left d lt;have hdn:y.den<=2 ^ d:=hd y ym;have hg0:(Int.gcd c y.den:Int)≠0:=by have:=Int.gcd_pos_of_ne_zero_left (y.den:Int) (show c≠0 by omega); omega
  have hgb:Big (Int.gcd c y.den:Int):=by
   refine big2 (n:=d) ?_ (by omega);rw[Int.natAbs_natCast];refine Nat.le_trans (Nat.le_of_dvd ?_ (Int.ofNat_dvd_left.mp (Int.gcd_dvd_right c (y.den:Int)))) ?_
   ·have:=y.den_nz; omega
   ·simpa using hdn
  have hb1:Big (c.fdiv (Int.gcd c y.den:Int)):=by
   refine big2 (n:=0+d*(qs.take i).length) (Nat.le_trans ?_ c4) (by omega);rw[Int.fdiv_eq_ediv_of_dvd (Int.gcd_dvd_left c _)];exact Int.natAbs_ediv_le_natAbs c _
  have hb2:Big (y.den:Int):=big2 (n:=d) (by simpa using hdn) (by omega);refine⟨_,rfl,_,rfl,_,rfl,b,_,_,_,rfl,rfl,SqT.of hB,at1,c,y.den,rfl,_,_,rfl,rfl,⟨hg0,hgb⟩,_,rfl,b,_,_,_,rfl,rfl,SqT.of hB,at1,_,_,rfl,rfl,⟨hb1,hb2⟩,?_⟩;refine⟨some (.ref b),rfl,?_⟩;rw[zah hy,List.foldl_append];show _=[some (V.ref a),some (.int (cb1 ((qs.take i).foldl cb1 1) y)),some (.ref b)];rw[hc]; rfl
 ·rintro σ H2 ⟨u,rfl,rfl⟩;refine⟨_,rfl,?_⟩;rw[List.length_map,hA.1,List.take_length];exact q
inductive SpNumsR(vs:List V)(H:Hp)(Q:VK):Prop
 | mk (a:Addr) (W U:Rat) (rows:List (List Rat)) (h_0:vs=[.ref a]) (h_1:FloorR H a W U rows) (h_2:rows.length<=40) (h_3:(∀r∈rows,r.length=4)) (h_4:∀p H',Same H H'->LstR FrR H' p (nums W U rows)->Q (.ref p) H'):SpNumsR vs H Q
def spNums:Sp:=fun vs H Q _=>SpNumsR vs H Q
theorem scNo:FnScope ["floor","numbers","rectangle"] ["floor"] (defScope zbf):=⟨rfl,rfl,rfl,by decide +kernel,rfl,by decide +kernel,by decide +kernel⟩
theorem zqi(F:Fun K "numbers_of" "numbers_of" zbf f fd)(mli:mg "list" = none):FnOk P w K mg base CX0 1 f fd ["floor"] spNums:=by
 refine F.ok scNo (fun vs H Q E h=>?_) (fun cdv A outer s H vs Q E hr h=>?_)
 ·obtain⟨a,W,U,rows,rfl,_⟩:=h;rfl
 obtain⟨a,W,U,rows,rfl,⟨p,q0,r,ha,hW,hU,bs,hrr,hB⟩,hl,h4,q⟩:=h;refine⟨_,za5 (za9 (i:=1) scNo.nd rfl (Or.inl rfl) (zbl (za0 (za8 zcf (pv 0) za4 (fun _ _=>rfl)) (za0 (za8 zcf (pv 0) za4 (fun _ _=>rfl)) za2))))
  (za5 (zb9 PassesOwn.never rfl (zgh (za8 zcf (pv 0) za4 (fun _ _=>rfl))) (zab (i:=2) scNo.nd rfl (Or.inl rfl))
   (za6 (zdg (zd2 K PySem.F.plainAttrs_list PySem.F.slot_list_extend PySem.F.type_list_extend zlp (pv 1) (za0 (zbo zh2 (by rfl) mli bt_list (za0 (pv 2) za2)) za2)))))
  (za6 (zad (pv 1)))),?_⟩
 refine⟨_,rfl,a,_,_,_,rfl,rfl,SqT.of ha,t3_0 _ _ _,_,rfl,a,_,_,_,rfl,rfl,SqT.of ha,t3_1 _ _ _,by show 2<=sizeLine; decide,fun L hL=>?_⟩;have s1:=za3 hL (.lst [.ref p,.ref q0]);have e1:(upd H L (.lst [.ref p,.ref q0])) L=some (.lst ([p,q0].map V.ref)):=za1;generalize upd H L (.lst [.ref p,.ref q0])=H1 at s1 e1;have lb:bs.length=rows.length:=hB.1;refine⟨_,rfl,a,_,_,_,rfl,rfl,SqT.of (s1 _ _ ha),t3_2 _ _ _,r,rfl,⟨_,SqT.of (s1 _ _ hrr)⟩,?_⟩;refine zr9 (xs:=bs.map V.ref) (fun i σ H2=>Same H H2/\∃(u:Option V) (cs:List Addr),σ=[some (.ref a),some (.ref L),u]/\H2 L=some (.lst (cs.map V.ref))/\At FrR H2 cs (W :: U :: (rows.take i).flatten))
  ⟨s1,none,[p,q0],rfl,e1,(At.nil.snoc (R:=FrR) (b:=p) (x:=W) (s1 _ _ hW)).snoc (b:=q0) (x:=U) (s1 _ _ hU)⟩ (fun i σ H2 _ ⟨s2,_⟩=>SqT.of (s2 _ _ hrr)) ?_ ?_
 ·rintro i x σ H2 hx ⟨s2,u,cs,rfl,hcs,hC⟩;obtain⟨b,row,rfl,_,hrow,es,hes,hE⟩:=hB.ref hx;have hi:i<rows.length:=(List.getElem?_eq_some_iff.mp hrow).1;have le:es.length=4:=by rw[hE.1]; exact h4 row (List.mem_of_getElem? hrow)
  have lc:cs.length=2+4*i:=by
   rw[hC.1,List.length_cons,List.length_cons,flat4 (fun x hx=>h4 x (List.mem_of_mem_take hx)),List.length_take]; omega
  refine⟨_,rfl,.inl ⟨rfl,_,SqL.of hcs⟩,_,rfl,b,_,rfl,.inr (SqT.of (s2 _ _ hes)),fun lf hlf=>?_⟩;have s3:=za3 hlf (.lst (es.map V.ref));have e3:(upd H2 lf (.lst (es.map V.ref))) lf=some (.lst (es.map V.ref)):=za1;generalize upd H2 lf (.lst (es.map V.ref))=H3 at s3 e3;refine⟨L,lf,_,_,rfl,rfl,s3 _ _ hcs,e3,by rw[List.length_map,List.length_map]; exact szle (by omega),?_⟩;refine⟨zhe (s2.trans s3) hL _,_,cs++es,rfl,by rw[za1]; simp,?_⟩
  have:=(hC.keep zba s3).app (hE.keep zba (s2.trans s3))
  rw[zah hrow,List.flatten_append,List.flatten_cons,List.flatten_nil,List.append_nil];exact fr_upd this (s3 _ _ hcs) _
 ·rintro σ H2 ⟨s2,u,cs,rfl,hcs,hC⟩;rw[List.length_map,lb,List.take_length] at hC;exact⟨_,rfl,q L H2 s2 ⟨cs,hcs,hC⟩⟩
theorem sIxT2{n:Nat}(h:2<=n):HT.sIx n n (some 2)=2:=by simp[HT.sIx]; omega
inductive SpWFR(vs:List V)(H:Hp)(Q:VK):Prop
 | mk (a:Addr) (b:Int) (W U:Rat) (rows:List (List Rat)) (h_0:vs=[.ref a,.int b]) (h_1:FloorR H a W U rows) (h_2:rows.length<=40) (h_3:(∀r∈rows,r.length=4)) (h_4:(∀q∈nums W U rows,Big q.num/\Big (q.den:Int)/\Big (b.fdiv q.den))) (h_5:∀p l H',Same H H'->H' p=some (.tup [.int (wh b W),.int (wh b U),.ref l])->LstR IntsL H' l (rows.map fun r=>r.map (wh b))->Q (.ref p) H'):SpWFR vs H Q
def spWF:Sp:=fun vs H Q _=>SpWFR vs H Q
theorem scWF:FnScope ["floor","bottom","sides"] ["floor","bottom"] (defScope zb5):=⟨rfl,rfl,rfl,by decide +kernel,rfl,by decide +kernel,by decide +kernel⟩
theorem ndRB:(["rectangle","bottom"]:List Str).Nodup:=by decide +kernel
theorem ok_wf(F:Fun K "whole_floor" "whole_floor" zb5 f fd)(G1:FnOk P w K mg base CX0 1 f1 d1 ["row","bottom"] spWholes)(b1:Binds K d1 ["row","bottom"] [])(k1:PySem.W.keepIn K (.ref f1)=true)(m1:mg "wholes" = some (.ref f1)):
  FnOk P w K mg base CX0 2 f fd ["floor","bottom"] spWF:=by
 refine F.ok scWF (fun vs H Q E h=>?_) (fun cdv A outer s H vs Q E hr h=>?_)
 ·obtain⟨a,b,W,U,rows,rfl,_⟩:=h;rfl
 obtain⟨a,b,W,U,rows,rfl,⟨p,q0,r,ha,hW,hU,bs,hrr,hB⟩,hl,h4,hsz,q⟩:=h;refine⟨_,za5 (za9 (i:=2) scWF.nd rfl (Or.inl rfl) (za7 G1 hr (by rfl) m1 k1 b1 .nil pass0 (za0 (zaq zph (pv 0) zb8 (zb7 za4)) (za0 (pv 1) za2))))
  (za6 (zad (zac (za0 (za8 zi2 (pv 2) za4 (fun _ _=>rfl)) (za0 (za8 zi2 (pv 2) za4 (fun _ _=>rfl)) (za0
   (zd1 (Nc:=["rectangle","bottom"]) (cap:=[(1,1)]) (g:=gName 0) (te:=tCall spWholes [] E0 (tCons (tVar 0) (tCons (tVar 1) tNil))) rfl (zgh (za8 zcf (pv 0) za4 (fun _ _=>rfl)))
   (zbe rfl rfl (by decide +kernel) (by decide +kernel) (List.forall_mem_cons.mpr ⟨⟨rfl,rfl⟩,List.forall_mem_nil _⟩) rfl (List.forall_mem_cons.mpr ⟨⟨_,_,rfl,rfl,rfl,rfl,rfl⟩,List.forall_mem_nil _⟩))
   (fun C fp pins s' H'=>zab (i:=0) ndRB rfl (Or.inl rfl)) (fun C fp pins s' H'=>za7 G1 hr (by rfl) m1 k1 b1 .nil pass0 (za0 (pv 0) (za0 (pv 1) za2)))) za2)))))),?_⟩
 refine⟨_,rfl,2,rfl,a,_,rfl,SqT.of ha,fun z=>?_,fun p1 hp1=>?_⟩
 ·have:=z.2
  rw[sIxT2 (by show 2<=3; decide)] at this;cases this
 rw[show cutV [V.ref p,.ref q0,.ref r] none (some 2)=[p,q0].map V.ref by rw[show(some (2:Int))=some ((2:Nat):Int) from rfl,zeg _ (by show 2<=3; decide)]; rfl];have s1:=za3 hp1 (.tup ([p,q0].map V.ref));have e1:(upd H p1 (.tup ([p,q0].map V.ref))) p1=some (.tup ([p,q0].map V.ref)):=za1;generalize upd H p1 (.tup ([p,q0].map V.ref))=H1 at s1 e1;have a1:At FrR H1 [p,q0] [W,U]:=(At.nil.snoc (R:=FrR) (b:=p) (x:=W) (s1 _ _ hW)).snoc (b:=q0) (x:=U) (s1 _ _ hU);refine⟨_,rfl,p1,[W,U],b,rfl,⟨_,e1,a1⟩,by show 2<=1000; decide,fun y hy=>hsz y (by simp only[List.mem_cons,List.not_mem_nil,or_false] at hy; rcases hy with rfl | rfl <;> simp),fun l2 H2 s2 _ hl2=>?_⟩;have hl2':H2 l2=some (.lst [.int (wh b W),.int (wh b U)]):=hl2;have s12:=s1.trans s2;have lb:bs.length=rows.length:=hB.1;refine⟨_,rfl,l2,_,_,_,rfl,rfl,SqL.of hl2',at0,_,rfl,l2,_,_,_,rfl,rfl,SqL.of hl2',at1,?_⟩;refine⟨_,rfl,a,_,_,_,rfl,rfl,SqT.of (s12 _ _ ha),t3_2 _ _ _,r,rfl,⟨_,SqT.of (s12 _ _ hrr)⟩,fun acc hacc=>?_⟩;refine zay (zcz (s12 _ _ hrr)) (by rw[List.length_map]; omega) hacc (fun i ys σ hp=>∃gs:List Addr,ys=gs.map V.ref/\At IntsL hp gs ((rows.map fun r=>r.map (wh b)).take i)/\∃u,σ=[u,some (.int b)]) ⟨[],rfl,At.nil,none,rfl⟩ ?_ ?_
 ·rintro i ys σ H3 z H4 hi sm hac3 ⟨gs,rfl,hG,u,rfl⟩ ⟨rfl,hx⟩ Cc hC;obtain⟨c,row,rfl,_,hrow,hR⟩:=hB.ref hx;have rm:row∈rows:=List.mem_of_getElem? hrow;have hR3:=zcv (s12.trans sm) hR;refine⟨_,rfl,_,rfl,c,row,b,rfl,hR3,by rw[h4 row rm]; omega,fun y hy=>hsz y (by simp only[List.mem_cons]; exact .inr (.inr (List.mem_flatten.mpr ⟨row,rm,hy⟩))),fun p5 H5 s5 np hp=>?_⟩;refine hC _ _ _ s5 ⟨gs++[p5],by simp,?_,_,rfl⟩;have ne:p5≠acc:=fun z=>by rw[z,hac3] at np; cases np
  have e3:(rows.map fun r=>r.map (wh b))[i]?=some (row.map (wh b)):=by rw[List.getElem?_map,hrow]; rfl
  rw[zah e3];exact(hG.keep zht (zdd acc s5)).snoc (zcr hp ne)
 rintro ys σ2 H3 s3 hac3 hl3 ⟨gs,rfl,hG,u,rfl⟩;rw[List.length_map,lb,List.take_of_length_le (by rw[List.length_map]; omega)] at hG;refine⟨by show 3<=sizeLine; decide,fun pp hpp=>?_⟩;have s4:=za3 hpp (.tup [.int (wh b W),.int (wh b U),.ref acc]);exact q pp acc _ (s12.trans (s3.trans s4)) za1 ⟨gs,s4 _ _ hac3,(hG.keep zht (ze1 H3 acc)).keep zht s4⟩
end
end My
namespace My
open PySem L2 Mth Wd Fl
def BoxL(H:Hp)(a:Addr)(b:Box):Prop:=H a=some (.lst [.int b.l,.int b.d,.int b.r,.int b.u])
theorem ze6:Mo BoxL:=fun s h=>s _ _ h
def niB(b:Box):Bool:=decide (b.r<b.l) || (decide (b.u<b.d) || (decide (b.l=b.r) != decide (b.d=b.u)))
def outB(w h:Int)(b:Box):Bool:=decide (b.l<0) || (decide (b.d<0) || (decide (w<b.r) || decide (h<b.u)))
theorem ni_ok{b:Box}(h:okB b):niB b=false:=by
 rcases h with ⟨h1,h2⟩ | ⟨h1,h2⟩
 ·simp only[niB,decide_eq_false (show ¬b.r<b.l by omega),decide_eq_false (show ¬b.u<b.d by omega),decide_eq_false (show ¬b.l=b.r by omega),decide_eq_false (show ¬b.d=b.u by omega)]; rfl
 ·simp only[niB,decide_eq_false (show ¬b.r<b.l by omega),decide_eq_false (show ¬b.u<b.d by omega),decide_eq_true h1,decide_eq_true h2]; rfl
theorem q4_0{a b c d:V}:atI [a,b,c,d] 0=some a:=zak (j:=0) rfl
theorem q4_1{a b c d:V}:atI [a,b,c,d] 1=some b:=zak (j:=1) rfl
theorem q4_2{a b c d:V}:atI [a,b,c,d] 2=some c:=zak (j:=2) rfl
theorem q4_3{a b c d:V}:atI [a,b,c,d] 3=some d:=zak (j:=3) rfl
section
variable {P:Program} {w:World} {K:PySem.W.Frag} {mg:Str->Option Value} {base:Heap} {f g h C0 f1 f2 f3 f4 f5:Addr} {fd gd hd d1 d2 d3 d4 d5:FuncData}
inductive SpNiR(vs:List V)(H:Hp)(Q:VK):Prop
 | mk (a:Addr) (b:Box) (h_0:vs=[.ref a]) (h_1:BoxL H a b) (h_2:Q (.bl (niB b)) H):SpNiR vs H Q
def spNi:Sp:=fun vs H Q _=>SpNiR vs H Q
theorem scNi:FnScope ["rectangle"] ["rectangle"] (defScope zbk):=⟨rfl,rfl,rfl,by decide +kernel,rfl,by decide +kernel,by decide +kernel⟩
theorem ok_ni(F:Fun K "is_neither" "is_neither" zbk f fd):FnOk P w K mg base CX0 1 f fd ["rectangle"] spNi:=by
 refine F.ok scNi (fun vs H Q E h=>?_) (fun cdv A outer s H vs Q E hr h=>?_)
 ·obtain⟨a,b,rfl,_⟩:=h;rfl
 obtain⟨a,b,rfl,ha,q⟩:=h;refine⟨_,za5 (zaw (PW.pt (zhk (zaf zde (za8 (ixL (K:=K)) (pv 0) za4 (fun _ _=>rfl)) (za8 (ixL (K:=K)) (pv 0) za4 (fun _ _=>rfl)) (nomark _))
   (zgf (zaf zde (za8 (ixL (K:=K)) (pv 0) za4 (fun _ _=>rfl)) (za8 (ixL (K:=K)) (pv 0) za4 (fun _ _=>rfl)) (nomark _))))) (za6 (zad zl5)) zaj)
  (za6 (zad (zan zod (zan zcj (za8 (ixL (K:=K)) (pv 0) za4 (fun _ _=>rfl)) (za8 (ixL (K:=K)) (pv 0) za4 (fun _ _=>rfl)) (nomark _))
   (zan zcj (za8 (ixL (K:=K)) (pv 0) za4 (fun _ _=>rfl)) (za8 (ixL (K:=K)) (pv 0) za4 (fun _ _=>rfl)) (nomark _)) (nomark _)))),?_⟩
 refine⟨_,rfl,a,_,_,_,rfl,rfl,SqL.of ha,q4_0,_,rfl,a,_,_,_,rfl,rfl,SqL.of ha,q4_2,_,_,rfl,rfl,_,rfl,?_⟩
 (try dsimp only)
 by_cases h1:b.r<b.l
 ·rw[if_pos (decide_eq_true h1),if_pos rfl];rw[show niB b=true by simp only[niB,decide_eq_true h1]; rfl] at q;exact q
 rw[if_neg (by rw[decide_eq_false h1]; decide)];refine⟨_,rfl,a,_,_,_,rfl,rfl,SqL.of ha,q4_1,_,rfl,a,_,_,_,rfl,rfl,SqL.of ha,q4_3,_,_,rfl,rfl,_,rfl,?_⟩
 (try dsimp only)
 by_cases h2:b.u<b.d
 ·rw[if_pos (decide_eq_true h2)];rw[show niB b=true by simp only[niB,decide_eq_false h1,decide_eq_true h2]; rfl] at q;exact q
 rw[if_neg (by rw[decide_eq_false h2]; decide)];refine⟨_,rfl,a,_,_,_,rfl,rfl,SqL.of ha,q4_0,_,rfl,a,_,_,_,rfl,rfl,SqL.of ha,q4_2,rfl,_,rfl,a,_,_,_,rfl,rfl,SqL.of ha,q4_1,_,rfl,a,_,_,_,rfl,rfl,SqL.of ha,q4_3,rfl,rfl,?_⟩;rw[show niB b=(decide (b.l=b.r) != decide (b.d=b.u)) by simp only[niB,decide_eq_false h1,decide_eq_false h2]; rfl] at q;rw[zmv,zg3,zg3];rw[Bool.beq_eq_decide_eq,Bool.beq_eq_decide_eq];exact q
inductive SpOutR(vs:List V)(H:Hp)(Q:VK):Prop
 | mk (a:Addr) (b:Box) (m n:Int) (h_0:vs=[.ref a,.int m,.int n]) (h_1:BoxL H a b) (h_2:Q (.bl (outB m n b)) H):SpOutR vs H Q
def spOut:Sp:=fun vs H Q _=>SpOutR vs H Q
theorem scOut:FnScope ["rectangle","width","height"] ["rectangle","width","height"] (defScope zd8):=⟨rfl,rfl,rfl,by decide +kernel,rfl,by decide +kernel,by decide +kernel⟩
theorem ok_out(F:Fun K "is_out" "is_out" zd8 f fd):FnOk P w K mg base CX0 1 f fd ["rectangle","width","height"] spOut:=by
 refine F.ok scOut (fun vs H Q E h=>?_) (fun cdv A outer s H vs Q E hr h=>?_)
 ·obtain⟨a,b,m,n,rfl,_⟩:=h;rfl
 obtain⟨a,b,m,n,rfl,ha,q⟩:=h;refine⟨_,za6 (zad (zqb (zan zf6 (za8 (ixL (K:=K)) (pv 0) za4 (fun _ _=>rfl)) za4 (nomark _)) (zqb (zan zf6 (za8 (ixL (K:=K)) (pv 0) za4 (fun _ _=>rfl)) za4 (nomark _))
  (zqb (zan zde (za8 (ixL (K:=K)) (pv 0) za4 (fun _ _=>rfl)) (pv 1) (nomark _)) (zep (zan zde (za8 (ixL (K:=K)) (pv 0) za4 (fun _ _=>rfl)) (pv 2) (nomark _))))))),?_⟩
 refine⟨_,rfl,a,_,_,_,rfl,rfl,SqL.of ha,q4_0,_,_,rfl,rfl,_,rfl,?_⟩;by_cases h1:b.l<0
 ·rw[if_pos (decide_eq_true h1)];rw[show outB m n b=true by simp only[outB,decide_eq_true h1]; rfl] at q;exact q
 rw[if_neg (by rw[decide_eq_false h1]; decide)];refine⟨_,rfl,a,_,_,_,rfl,rfl,SqL.of ha,q4_1,_,_,rfl,rfl,_,rfl,?_⟩;by_cases h2:b.d<0
 ·rw[if_pos (decide_eq_true h2)];rw[show outB m n b=true by simp only[outB,decide_eq_false h1,decide_eq_true h2]; rfl] at q;exact q
 rw[if_neg (by rw[decide_eq_false h2]; decide)];refine⟨_,rfl,a,_,_,_,rfl,rfl,SqL.of ha,q4_2,_,rfl,_,_,rfl,rfl,_,rfl,?_⟩;by_cases h3:m<b.r
 ·rw[if_pos (decide_eq_true h3)];rw[show outB m n b=true by simp only[outB,decide_eq_false h1,decide_eq_false h2,decide_eq_true h3]; rfl] at q;exact q
 rw[if_neg (by rw[decide_eq_false h3]; decide)];refine⟨_,rfl,a,_,_,_,rfl,rfl,SqL.of ha,q4_3,_,rfl,_,_,rfl,rfl,?_⟩;rw[show outB m n b=decide (n<b.u) by simp only[outB,decide_eq_false h1,decide_eq_false h2,decide_eq_false h3]; rfl] at q;exact q
inductive SpOvR(vs:List V)(H:Hp)(Q:VK):Prop
 | mk (a c:Addr) (b d:Box) (h_0:vs=[.ref a,.ref c]) (h_1:BoxL H a b) (h_2:BoxL H c d) (h_3:Q (.bl (ovB b d)) H):SpOvR vs H Q
def spOv:Sp:=fun vs H Q _=>SpOvR vs H Q
theorem scOv:FnScope ["one","other","across","upward"] ["one","other"] (defScope zck):=⟨rfl,rfl,rfl,by decide +kernel,rfl,by decide +kernel,by decide +kernel⟩
theorem mx2(i j:Int):(if j > i then j else i)=max i j:=by split <;> omega
theorem mn2(i j:Int):(if j<i then j else i)=min i j:=by split <;> omega
theorem ok_ov(F:Fun K "overlap" "overlap" zck f fd)(mx:mg "max" = none)(mn:mg "min" = none):FnOk P w K mg base CX0 1 f fd ["one","other"] spOv:=by
 refine F.ok scOv (fun vs H Q E h=>?_) (fun cdv A outer s H vs Q E hr h=>?_)
 ·obtain⟨a,c,b,d,rfl,_⟩:=h;rfl
 obtain⟨a,c,b,d,rfl,ha,hc,q⟩:=h;refine⟨_,za5 (za9 (i:=2) scOv.nd rfl (Or.inl rfl) (zan zf6 (zag (zh1 rfl) (by rfl) mx zja (za0 (za8 (ixL (K:=K)) (pv 0) za4 (fun _ _=>rfl)) (za0 (za8 (ixL (K:=K)) (pv 1) za4 (fun _ _=>rfl)) za2)))
   (zag (zd5 rfl) (by rfl) mn zh4 (za0 (za8 (ixL (K:=K)) (pv 0) za4 (fun _ _=>rfl)) (za0 (za8 (ixL (K:=K)) (pv 1) za4 (fun _ _=>rfl)) za2))) (nomark _)))
  (za5 (za9 (i:=3) scOv.nd rfl (Or.inl rfl) (zan zf6 (zag (zh1 rfl) (by rfl) mx zja (za0 (za8 (ixL (K:=K)) (pv 0) za4 (fun _ _=>rfl)) (za0 (za8 (ixL (K:=K)) (pv 1) za4 (fun _ _=>rfl)) za2)))
   (zag (zd5 rfl) (by rfl) mn zh4 (za0 (za8 (ixL (K:=K)) (pv 0) za4 (fun _ _=>rfl)) (za0 (za8 (ixL (K:=K)) (pv 1) za4 (fun _ _=>rfl)) za2))) (nomark _)))
  (za6 (zad (zeq (pv 2) (zep (pv 3)))))),?_⟩
 refine⟨_,rfl,a,_,_,_,rfl,rfl,SqL.of ha,q4_0,_,rfl,c,_,_,_,rfl,rfl,SqL.of hc,q4_0,_,_,rfl,_,rfl,a,_,_,_,rfl,rfl,SqL.of ha,q4_2,_,rfl,c,_,_,_,rfl,rfl,SqL.of hc,q4_2,_,_,rfl,_,_,rfl,rfl,?_⟩;refine⟨_,rfl,a,_,_,_,rfl,rfl,SqL.of ha,q4_1,_,rfl,c,_,_,_,rfl,rfl,SqL.of hc,q4_1,_,_,rfl,_,rfl,a,_,_,_,rfl,rfl,SqL.of ha,q4_3,_,rfl,c,_,_,_,rfl,rfl,SqL.of hc,q4_3,_,_,rfl,_,_,rfl,rfl,?_⟩;rw[mx2,mn2,mx2,mn2];refine⟨_,rfl,_,rfl,?_⟩;by_cases h1:max b.l d.l<min b.r d.r
 ·rw[if_pos (decide_eq_true h1)];rw[show ovB b d=decide (max b.d d.d<min b.u d.u) by simp only[ovB,decide_eq_true h1]; rfl] at q;exact⟨_,rfl,q⟩
 ·rw[if_neg (by rw[decide_eq_false h1]; decide)];rw[show ovB b d=false by simp only[ovB,decide_eq_false h1]; rfl] at q;exact q
end
theorem zks{bs:List Addr}{i:Nat}{b:Addr}(h:bs[i]?=some b):(bs.map V.ref)[i]?=some (.ref b):=by rw[List.getElem?_map,h]; rfl
section
variable {P:Program} {w:World} {K:PySem.W.Frag} {mg:Str->Option Value} {base:Heap} {f g h C0 f1 f2 f3 f4 f5:Addr} {fd gd hd d1 d2 d3 d4 d5:FuncData}
inductive SpFOR(vs:List V)(H:Hp)(Q:VK):Prop
 | mk (a:Addr) (bs:List Box) (h_0:vs=[.ref a]) (h_1:LstR BoxL H a bs) (h_2:bs.length<=1000) (h_3:(∀(j k:Nat) (p:Addr) (H':Hp),Fst bs j k->Same H H'->H' p=some (.tup [.int j,.int k])->Q (.ref p) H')) (h_4:(NoOv bs->∀H',Same H H'->Q .non H')):SpFOR vs H Q
def spFO:Sp:=fun vs H Q _=>SpFOR vs H Q
theorem scFO:FnScope ["rectangles","j","one","k"] ["rectangles"] (defScope zat):=⟨rfl,rfl,rfl,by decide +kernel,rfl,by decide +kernel,by decide +kernel⟩
theorem ok_fo (F:Fun K "first_overlap" "first_overlap" zat f fd) (G:FnOk P w K mg base CX0 1 g gd ["one","other"] spOv) (bG:Binds K gd ["one","other"] []) (kG:PySem.W.keepIn K (.ref g)=true) (mG:mg "overlap" = some (.ref g))
  (me:mg "enumerate" = none) (mr:mg "range" = none) (ml:mg "len" = none):FnOk P w K mg base CX0 2 f fd ["rectangles"] spFO:=by
 refine F.ok scFO (fun vs H Q E h=>?_) (fun cdv A outer s H vs Q E hr h=>?_)
 ·obtain⟨a,bs,rfl,_⟩:=h;rfl
 obtain⟨a,bs,rfl,⟨cs,ha,hC⟩,hl,q1,q2⟩:=h;refine⟨_,za5 (zb9 PassesOwn.never rfl (zdo (by rfl) me (za0 (pv 0) za2)) (pgTup (n:=2) (K:=K) rfl (zae (zab (i:=1) scFO.nd rfl (Or.inl rfl)) (zae (zab (i:=2) scFO.nd rfl (Or.inl rfl)) zbd)))
   (za6 (zb9 PassesOwn.never rfl (zcd (by rfl) mr (za0 (zaa zal (pv 1) za4) (za0 (zag (callLen (K:=K)) (by rfl) ml zc4 (za0 (pv 0) za2)) za2))) (zab (i:=3) scFO.nd rfl (Or.inl rfl))
    (za6 (zaw (ze4 (za7 G hr (by rfl) mG kG bG .nil pass0 (za0 (pv 2) (za0 (za8 (ixL (K:=K)) (pv 0) (pv 3) (fun _ _=>rfl)) za2)))) (za6 (zad (zac (za0 (pv 1) (za0 (pv 3) za2))))) zaj)))))
  (za6 (zad zby)),?_⟩
 have lc:cs.length=bs.length:=hC.1;refine⟨_,rfl,a,_,rfl,ha,?_⟩;refine zd4 (xs:=cs.map V.ref) (fun i σ H2=>Same H H2/\(∃u1 u2 u3,σ=[some (.ref a),u1,u2,u3])/\∀(j' k':Nat) (x y:Box),j' < k'->j' < i->bs[j']?=some x->bs[k']?=some y->ovB x y=false)
  ⟨Same.refl _,⟨none,none,none,rfl⟩,fun _ _ _ _ _ z=>absurd z (Nat.not_lt_zero _)⟩ (fun i σ H2 _ ⟨s2,_⟩=>s2 _ _ ha) ?_ ?_
 ·rintro i x σ H2 p hx ⟨s2,⟨u1,u2,u3,rfl⟩,no⟩ hp;obtain⟨c,b,rfl,_,hy,fb⟩:=hC.ref hx;have bi:i<bs.length:=(List.getElem?_eq_some_iff.mp hy).1;have s3:=za3 hp (.tup [.int ((i:Nat):Int),.ref c]);have g3:(upd H2 p (.tup [.int ((i:Nat):Int),.ref c])) p=some (.tup [.int ((i:Nat):Int),.ref c]):=za1;generalize upd H2 p (.tup [.int ((i:Nat):Int),.ref c])=H3 at s3 g3;have s03:=s2.trans s3;refine⟨p,_,rfl,SqT.of g3,rfl,_,_,rfl,_,_,rfl,rfl,?_⟩;refine⟨_,rfl,_,_,rfl,rfl,_,rfl,a,_,rfl,.inl (SqL.of (s03 _ _ ha)),_,_,rfl,?_,?_⟩
  ·rw[List.length_map,lc]; omega
  rw[List.length_map,lc,show((bs.length:Int)-((i:Int)+1)).toNat=bs.length-(i+1) by omega];refine zbp (fun k σ H4=>H4=H3/\(∃u3,σ=[some (.ref a),some (.int ((i:Nat):Int)),some (.ref c),u3])/\∀(k':Nat) (y:Box),i<k'->k' < i+1+k->bs[k']?=some y->ovB b y=false)
   ⟨rfl,⟨u3,rfl⟩,fun k' y z1 z2=>by omega⟩ ?_ ?_
  ·rintro k σ H4 hk ⟨rfl,⟨u4,rfl⟩,nk⟩;have kl:i+1+k<bs.length:=by omega
   have hz:bs[i+1+k]?=some bs[i+1+k]:=List.getElem?_eq_getElem kl;obtain⟨cz,hcz,fz⟩:=hC.get hz;refine⟨_,rfl,_,rfl,_,rfl,a,_,_,_,rfl,rfl,SqL.of (s03 _ _ ha),zak (j:=i+1+k) (zks hcz),c,cz,b,_,rfl,s03 _ _ fb,s03 _ _ fz,_,rfl,?_⟩;refine ite2 (fun ov=>?_) (fun ov=>?_)
   ·refine⟨_,rfl,_,rfl,by show 2<=sizeLine; decide,fun t ht=>?_⟩;refine q1 i (i+1+k) t _ ⟨by omega,⟨b,_,hy,hz,ov⟩,?_⟩ (s03.trans (za3 ht _)) (by rw[za1]; rfl);rintro j' k' x y h1 h2 h3 (h4 | ⟨rfl,h4⟩)
    ·exact no j' k' x y h1 h4 h2 h3
    ·rw[hy] at h2; cases h2;exact nk k' y h1 h4 h3
   ·refine⟨rfl,⟨_,rfl⟩,fun k' y h1 h2 h3=>?_⟩;rcases Nat.lt_or_ge k' (i+1+k) with z | z
    ·exact nk k' y h1 z h3
    ·obtain rfl:k'=i+1+k:=by omega
     rw[hz] at h3; cases h3;simpa using ov
  ·rintro σ H4 ⟨rfl,⟨u4,rfl⟩,nk⟩;refine⟨s03,⟨_,_,_,rfl⟩,fun j' k' x y h1 h2 h3 h4=>?_⟩;rcases Nat.lt_or_ge j' i with z | z
   ·exact no j' k' x y h1 z h3 h4
   ·obtain rfl:j'=i:=by omega
    rw[hy] at h3; cases h3
    have:=(List.getElem?_eq_some_iff.mp h4).1
    exact nk k' y h1 (by omega) h4
 ·rintro σ H2 ⟨s2,⟨u1,u2,u3,rfl⟩,no⟩;rw[List.length_map,lc] at no;refine q2 ?_ _ s2;rw[NoOv,List.pairwise_iff_getElem];intro i j hi hj hij;exact no i j _ _ hij hi (List.getElem?_eq_getElem hi) (List.getElem?_eq_getElem hj)
end
end My
namespace L2
open PySem PySem.Spec PyProof.Rows
section
variable {X:Cx} {K:PySem.W.Frag} {P:Program} {w:World}
theorem callSet(hc:X.calm=true)(h:X.K=K:=by rfl)(hp:X.prog=P:=by rfl)(hw:X.w=w:=by rfl):CallR X (.type "set") (fun xs H Q=>∃(p:Addr) (ns:List Int),xs=[.ref p]/\SqL K H p (ns.map V.int)/\ns.length<=1000/\∀a,H a=none->Q (.ref a) (upd H a (setH P w a (addsK ns)))):=by
 subst h hp hw;exact zn4 hc
theorem callSrt(hc:X.calm=true)(hp:X.prog=P:=by rfl)(hw:X.w=w:=by rfl):CallR X (.builtin "sorted") (fun xs H Q=>∃(a:Addr) (ks:List Int),xs=[.ref a]/\H a=some (setH P w a ks)/\ks.length<64/\∀(l:Addr) (ms:List Int),H l=none->ms.Perm ks->ms.Pairwise (·<=·)->Q (.ref l) (upd H l (.lst (ms.map V.int)))):=by
 subst hp hw;exact zk2 hc
end
end L2
namespace My
open PySem L2 Mth Wd Fl
theorem bt_set:bootBuiltins "set" = some (.type "set"):=by decide +kernel
theorem znd:bootBuiltins "sorted" = some (.builtin "sorted"):=by decide +kernel
def loB(t:Nat)(b:Box):Int:=if t=0 then b.l else b.d
def hiB(t:Nat)(b:Box):Int:=if t=0 then b.r else b.u
def bothB(t:Nat)(bs:List Box):List Int:=bs.map (loB t)++bs.map (hiB t)
theorem both0(bs:List Box):bothB 0 bs=xsOf bs:=rfl
theorem both1(bs:List Box):bothB 1 bs=ysOf bs:=rfl
theorem at_lo{t:Nat}(h:t<=1)(b:Box):atI [V.int b.l,.int b.d,.int b.r,.int b.u] (t:Int)=some (.int (loB t b)):=by
 rcases(show t=0\/t=1 by omega) with rfl | rfl
 ·exact q4_0
 ·exact q4_1
theorem at_hi{t:Nat}(h:t<=1)(b:Box):atI [V.int b.l,.int b.d,.int b.r,.int b.u] ((t:Int)+2)=some (.int (hiB t b)):=by
 rcases(show t=0\/t=1 by omega) with rfl | rfl
 ·exact q4_2
 ·exact q4_3
theorem bd_of{m:Int}{vs ns ms:List Int}(e:∀v,v∈ns↔v=0\/v=m\/v∈vs)(p:ms.Perm (addsK ns))(srt:ms.Pairwise (·<=·)):Bd m vs ms:=by
 refine⟨?_,fun v=>by rw[p.mem_iff,zno,e]⟩;have nd:ms.Nodup:=p.nodup_iff.mpr (zi8 ns);exact(srt.and nd).imp fun ⟨a,b⟩=>by omega
section
variable {P:Program} {w:World} {K:PySem.W.Frag} {mg:Str->Option Value} {base:Heap} {f g h C0 f1 f2 f3 f4 f5:Addr} {fd gd hd d1 d2 d3 d4 d5:FuncData}
inductive SpBdR(vs:List V)(H:Hp)(Q:VK):Prop
 | mk (a:Addr) (bs:List Box) (t:Nat) (m:Int) (h_0:vs=[.ref a,.int t,.int m]) (h_1:LstR BoxL H a bs) (h_2:bs.length<=30) (h_3:t<=1) (h_4:∀l xs H',Same H H'->IntsL H' l xs->xs.length<=62->Bd m (bothB t bs) xs->Q (.ref l) H'):SpBdR vs H Q
def spBd:Sp:=fun vs H Q _=>SpBdR vs H Q
theorem scBd:FnScope ["rectangles","at","most","lesser","greater"] ["rectangles","at","most"] (defScope zcp):=⟨rfl,rfl,rfl,by decide +kernel,rfl,by decide +kernel,by decide +kernel⟩
theorem ndRA:(["rectangle","at"]:List Str).Nodup:=by decide +kernel
theorem ok_bd(F:Fun K "borders" "borders" zcp f fd)(mse:mg "set" = none)(mso:mg "sorted" = none):FnOk P w K mg base CX0 1 f fd ["rectangles","at","most"] spBd:=by
 refine F.ok scBd (fun vs H Q E h=>?_) (fun cdv A outer s H vs Q E hr h=>?_)
 ·obtain⟨a,bs,t,m,rfl,_⟩:=h;rfl
 obtain⟨a,bs,t,m,rfl,⟨cs,ha,hC⟩,hl,ht,q⟩:=h;refine⟨_,za5 (zbx (i:=3) scBd.nd rfl (Or.inl rfl) (Nc:=["rectangle","at"]) (cap:=[(1,1)]) (g:=gName 0) (te:=tOp (rIxL K) (tVar 0) (tVar 1)) rfl (piLst (K:=K) (pv 0))
   (zbe rfl rfl (by decide +kernel) (by decide +kernel) (List.forall_mem_cons.mpr ⟨⟨rfl,rfl⟩,List.forall_mem_nil _⟩) rfl (List.forall_mem_cons.mpr ⟨⟨_,_,rfl,rfl,rfl,rfl,rfl⟩,List.forall_mem_nil _⟩))
   (fun C fp pins s' H'=>zab (i:=0) ndRA rfl (Or.inl rfl)) (fun C fp pins s' H'=>za8 (ixL (K:=K)) (pv 0) (pv 1) (fun _ _=>rfl)))
  (za5 (zbx (i:=4) scBd.nd rfl (Or.inl rfl) (Nc:=["rectangle","at"]) (cap:=[(1,1)]) (g:=gName 0) (te:=tOp (rIxL K) (tVar 0) (tOp (rI0 fun i j=>.int (i+j)) (tVar 1) (tC (.int 2)))) rfl (piLst (K:=K) (pv 0))
   (zbe rfl rfl (by decide +kernel) (by decide +kernel) (List.forall_mem_cons.mpr ⟨⟨rfl,rfl⟩,List.forall_mem_nil _⟩) rfl (List.forall_mem_cons.mpr ⟨⟨_,_,rfl,rfl,rfl,rfl,rfl⟩,List.forall_mem_nil _⟩))
   (fun C fp pins s' H'=>zab (i:=0) ndRA rfl (Or.inl rfl)) (fun C fp pins s' H'=>za8 (ixL (K:=K)) (pv 0) (zaa zal (pv 1) za4) (fun _ _=>rfl)))
  (za6 (zad (zag (callSrt (P:=P) (w:=w) rfl) (by rfl) mso znd (za0 (zbo (callSet (K:=K) (P:=P) (w:=w) rfl) (by rfl) mse bt_set (za0 (zaa zc2 (zaa zc2 (zbl (za0 za4 (za0 (pv 2) za2))) (pv 3)) (pv 4)) za2)) za2))))),?_⟩
 have lc:cs.length=bs.length:=hC.1;refine⟨_,rfl,a,rfl,⟨_,SqL.of ha⟩,fun l1 h1=>?_⟩;refine zay (zdl ha) (by rw[List.length_map,lc]; omega) h1 (fun i ys σ _=>ys=((bs.take i).map (loB t)).map V.int/\∃u,σ=[u,some (.int (t:Int))]) ⟨rfl,none,rfl⟩ ?_ ?_
 ·rintro i ys σ H2 x H3 hi sm hacc2 ⟨hys,u,rfl⟩ ⟨rfl,hx⟩ C hC2;obtain⟨c,b,rfl,_,hy,hB⟩:=hC.ref hx;refine⟨_,rfl,_,rfl,c,_,_,_,rfl,rfl,SqL.of (sm _ _ hB),at_lo ht b,?_⟩;refine hC2 _ _ _ (Same.refl _) ⟨?_,_,rfl⟩;rw[hys,zah hy,List.map_append,List.map_append]; rfl
 rintro ys σ H1 s1 g1 _ ⟨hys,_⟩;rw[List.length_map,lc,List.take_length] at hys;subst hys;refine⟨_,rfl,a,rfl,⟨_,SqL.of (s1 _ _ ha)⟩,fun l2 h2=>?_⟩;refine zay (zdl (s1 _ _ ha)) (by rw[List.length_map,lc]; omega) h2 (fun i ys σ _=>ys=((bs.take i).map (hiB t)).map V.int/\∃u,σ=[u,some (.int (t:Int))]) ⟨rfl,none,rfl⟩ ?_ ?_
 ·rintro i ys σ H2 x H3 hi sm hacc2 ⟨hys,u,rfl⟩ ⟨rfl,hx⟩ C hC2;obtain⟨c,b,rfl,_,hy,hB⟩:=hC.ref hx;refine⟨_,rfl,_,rfl,_,_,rfl,rfl,c,_,_,_,rfl,rfl,SqL.of (sm _ _ (s1 _ _ hB)),at_hi ht b,?_⟩;refine hC2 _ _ _ (Same.refl _) ⟨?_,_,rfl⟩;rw[hys,zah hy,List.map_append,List.map_append]; rfl
 rintro ys σ H2 s2 g2 _ ⟨hys,_⟩;rw[List.length_map,lc,List.take_length] at hys;subst hys;have g1':=s2 _ _ g1;refine⟨_,rfl,by show 2<=sizeLine; decide,fun l3 h3=>?_⟩;have s3:=za3 h3 (.lst [.int 0,.int m]);have g3:(upd H2 l3 (.lst [.int 0,.int m])) l3=some (.lst [.int 0,.int m]):=za1;generalize upd H2 l3 (.lst [.int 0,.int m])=H3 at s3 g3;refine⟨_,rfl,l3,l1,_,_,rfl,rfl,g3,s3 _ _ g1',by rw[List.length_map,List.length_map]; exact szle (by show 2+bs.length<=_; omega),fun l4 h4=>?_⟩;have s4:=za3 h4 (.lst ([.int 0,.int m]++(bs.map (loB t)).map V.int));have g4:(upd H3 l4 (.lst ([.int 0,.int m]++(bs.map (loB t)).map V.int))) l4=some (.lst ([.int 0,.int m]++(bs.map (loB t)).map V.int)):=za1;generalize upd H3 l4 (.lst ([.int 0,.int m]++(bs.map (loB t)).map V.int))=H4 at s4 g4;have s24:=s3.trans s4;refine⟨_,rfl,l4,l2,_,_,rfl,rfl,g4,s24 _ _ g2,by rw[List.length_append,List.length_map,List.length_map,List.length_map,List.length_map]; exact szle (by show 2+bs.length+bs.length<=_; omega),fun l5 h5=>?_⟩;have e5:[V.int 0,.int m]++(bs.map (loB t)).map V.int++(bs.map (hiB t)).map V.int=((0:Int) :: m :: bothB t bs).map V.int:=by simp[bothB]
 rw[e5];have s5:=za3 h5 (.lst (((0:Int) :: m :: bothB t bs).map V.int));have g5:(upd H4 l5 (.lst (((0:Int) :: m :: bothB t bs).map V.int))) l5=some (.lst (((0:Int) :: m :: bothB t bs).map V.int)):=za1;generalize upd H4 l5 (.lst (((0:Int) :: m :: bothB t bs).map V.int))=H5 at s5 g5;have ln:((0:Int) :: m :: bothB t bs).length=2+2*bs.length:=by simp[bothB]; omega
 refine⟨l5,_,rfl,SqL.of g5,by rw[ln]; omega,fun l6 h6=>?_⟩;have s6:=za3 h6 (setH P w l6 (addsK ((0:Int) :: m :: bothB t bs)));have g6:(upd H5 l6 (setH P w l6 (addsK ((0:Int) :: m :: bothB t bs)))) l6=some (setH P w l6 (addsK ((0:Int) :: m :: bothB t bs))):=za1;generalize upd H5 l6 (setH P w l6 (addsK ((0:Int) :: m :: bothB t bs)))=H6 at s6 g6;have la:=zhc ((0:Int) :: m :: bothB t bs);refine⟨l6,_,rfl,g6,by omega,fun l7 ms h7 pm srt=>?_⟩;refine q l7 ms _ ((s1.trans s2).trans ((s24.trans (s5.trans s6)).trans (za3 h7 _))) za1 (by have:=pm.length_eq; omega) (bd_of (fun v=>?_) pm srt);simp only[List.mem_cons]
end
end My
namespace Fl
theorem getD_at{xs:List Int}{j:Nat}(h:j<xs.length):xs.getD j 0=xs[j]:=by rw[List.getD_eq_getElem?_getD,List.getElem?_eq_getElem h]; rfl
theorem zic{xs:List Int}(h:xs.Pairwise (· < ·)){i j:Nat}(hj:j<xs.length)(hij:i<j):xs.getD i 0<xs.getD j 0:=by
 rw[getD_at hj,getD_at (show i<xs.length by omega)];exact List.pairwise_iff_getElem.mp h i j (by omega) hj hij
theorem zfj{xs:List Int}{v:Int}(hv:v∈xs):xs.idxOf v<xs.length/\xs.getD (xs.idxOf v) 0=v:=by
 have hi:=List.idxOf_lt_length_iff.mpr hv;refine⟨hi,?_⟩;rw[getD_at hi];exact List.getElem_idxOf hi
theorem ziw{xs:List Int}(h:xs.Pairwise (· < ·)){j:Nat}(hj:j+1<xs.length){v:Int}(hv:v∈xs):xs.idxOf v<=j↔v<=xs.getD j 0:=by
 obtain⟨hi,e⟩:=zfj hv;constructor
 ·intro z;rcases Nat.lt_or_ge (xs.idxOf v) j with y | y
  ·have:=zic h (show j<xs.length by omega) y; omega
  ·obtain y':xs.idxOf v=j:=by omega
   rw[<-y',e]; exact Int.le_refl _
 ·intro z;rcases Nat.lt_or_ge j (xs.idxOf v) with y | y
  ·have:=zic h hi y; omega
  ·exact y
theorem zin{xs:List Int}(h:xs.Pairwise (· < ·)){j:Nat}(hj:j+1<xs.length){v:Int}(hv:v∈xs):j<xs.idxOf v↔xs.getD (j+1) 0<=v:=by
 obtain⟨hi,e⟩:=zfj hv;constructor
 ·intro z;rcases Nat.lt_or_ge (j+1) (xs.idxOf v) with y | y
  ·have:=zic h hi y; omega
  ·obtain y':xs.idxOf v=j+1:=by omega
   rw[<-y',e]; exact Int.le_refl _
 ·intro z;rcases Nat.lt_or_ge j (xs.idxOf v) with y | y
  ·exact y
  ·have:=zic h hj (show xs.idxOf v<j+1 by omega); omega
def cIn(xs ys:List Int)(b:Box)(j k:Nat):Prop:=xs.idxOf b.l<=j/\j<xs.idxOf b.r/\ys.idxOf b.d<=k/\k<ys.idxOf b.u
theorem cov_in{xs ys:List Int}{bs:List Box}(hx:xs.Pairwise (· < ·))(hy:ys.Pairwise (· < ·))(hb:∀b∈bs,b.l∈xs/\b.r∈xs/\b.d∈ys/\b.u∈ys){j k:Nat}(hj:j+1<xs.length)(hk:k+1<ys.length):
  covC bs xs ys j k=true↔∃b∈bs,cIn xs ys b j k:=by
 rw[covC,cov,List.any_eq_true];constructor
 ·rintro⟨b,m,z⟩;obtain⟨h1,h2,h3,h4⟩:=hb b m;simp only[Bool.and_eq_true,decide_eq_true_iff] at z;obtain⟨⟨z1,z2⟩,z3,z4⟩:=z;exact⟨b,m,(ziw hx hj h1).mpr z1,(zin hx hj h2).mpr z2,(ziw hy hk h3).mpr z3,(zin hy hk h4).mpr z4⟩
 ·rintro⟨b,m,z1,z2,z3,z4⟩;obtain⟨h1,h2,h3,h4⟩:=hb b m;refine⟨b,m,?_⟩;simp only[Bool.and_eq_true,decide_eq_true_iff];exact⟨⟨(ziw hx hj h1).mp z1,(zin hx hj h2).mp z2⟩,(ziw hy hk h3).mp z3,(zin hy hk h4).mp z4⟩
end Fl
namespace My
open PySem L2 Mth Wd Fl
def kC(j k:Nat):List Key:=[.inl (j:Int),.inl (k:Int)]
theorem kC_inj{j k j' k':Nat}:kC j k=kC j' k'↔j=j'/\k=k':=by
 constructor
 ·intro z;injection z with z1 z2
  injection z2 with z2 _
  injection z1 with z1
  injection z2 with z2
  omega
 ·rintro⟨rfl,rfl⟩; rfl
def Cells(kvs:List (List Key×V))(c:Nat->Nat->Prop):Prop:=∀j k,(valV kvs (kC j k)).isSome=true↔c j k
theorem zn1{kvs:List (List Key×V)}{c:Nat->Nat->Prop}(h:Cells kvs c)(j0 k0:Nat)(v:V):Cells (putK kvs (kC j0 k0) v) fun j k=>c j k\/(j=j0/\k=k0):=by
 intro j k;rw[znt];by_cases e:kC j k=kC j0 k0
 ·rw[if_pos e];exact⟨fun _=>.inr (kC_inj.mp e),fun _=>rfl⟩
 ·rw[if_neg e,h j k];exact⟨.inl,fun z=>z.elim id fun y=>absurd (kC_inj.mpr y) e⟩
theorem Cells.of{kvs:List (List Key×V)}{c c':Nat->Nat->Prop}(h:Cells kvs c)(e:∀j k,c j k↔c' j k):Cells kvs c':=fun j k=>(h j k).trans (e j k)
section
variable {P:Program} {w:World} {K:PySem.W.Frag} {mg:Str->Option Value} {base:Heap} {f g h C0 f1 f2 f3 f4 f5:Addr} {fd gd hd d1 d2 d3 d4 d5:FuncData}
inductive SpCovR(vs:List V)(H:Hp)(Q:VK):Prop
 | mk (c r a:Addr) (xs ys:List Int) (bs:List Box) (h_0:vs=[.ref c,.ref r,.ref a]) (h_1:IntsL H c xs) (h_2:IntsL H r ys) (h_3:LstR BoxL H a bs) (h_4:bs.length<=30) (h_5:xs.length<=62) (h_6:ys.length<=62) (h_7:(∀b∈bs,b.l∈xs/\b.r∈xs/\b.d∈ys/\b.u∈ys)) (h_8:∀p kvs H',Same H H'->H' p=some (.dT kvs)->Cells kvs (fun j k=>∃b∈bs,cIn xs ys b j k)->Q (.ref p) H'):SpCovR vs H Q
def spCov:Sp:=fun vs H Q _=>SpCovR vs H Q
theorem scCov:FnScope ["columns","rows","rectangles","covered","rectangle","column","row"] ["columns","rows","rectangles"] (defScope zau):=⟨rfl,rfl,rfl,by decide +kernel,rfl,by decide +kernel,by decide +kernel⟩
theorem ok_cov(F:Fun K "covered_cells" "covered_cells" zau f fd)(mr:mg "range" = none):FnOk P w K mg base CX0 1 f fd ["columns","rows","rectangles"] spCov:=by
 refine F.ok scCov (fun vs H Q E h=>?_) (fun cdv A outer s H vs Q E hr h=>?_)
 ·obtain⟨c,r,a,xs,ys,bs,rfl,_⟩:=h;rfl
 obtain⟨c,r,a,xs,ys,bs,rfl,hc,hrr,⟨cs,ha,hC⟩,hl,lx,ly,hm,q⟩:=h;have hu:=hu_of hr;refine⟨_,za5 (za9 (i:=3) scCov.nd rfl (Or.inl rfl) zo8)
  (za5 (zb9 PassesOwn.never rfl (piLst (K:=K) (pv 2)) (zab (i:=4) scCov.nd rfl (Or.inl rfl))
   (za6 (zb9 PassesOwn.never rfl (zcd (by rfl) mr
     (za0 (zd2 K PySem.F.plainAttrs_list PySem.F.slot_list_index PySem.F.type_list_index zdp (pv 0) (za0 (za8 (ixL (K:=K)) (pv 4) za4 (fun _ _=>rfl)) za2))
      (za0 (zd2 K PySem.F.plainAttrs_list PySem.F.slot_list_index PySem.F.type_list_index zdp (pv 0) (za0 (za8 (ixL (K:=K)) (pv 4) za4 (fun _ _=>rfl)) za2)) za2))) (zab (i:=5) scCov.nd rfl (Or.inl rfl))
    (za6 (zb9 PassesOwn.never rfl (zcd (by rfl) mr
      (za0 (zd2 K PySem.F.plainAttrs_list PySem.F.slot_list_index PySem.F.type_list_index zdp (pv 1) (za0 (za8 (ixL (K:=K)) (pv 4) za4 (fun _ _=>rfl)) za2))
       (za0 (zd2 K PySem.F.plainAttrs_list PySem.F.slot_list_index PySem.F.type_list_index zdp (pv 1) (za0 (za8 (ixL (K:=K)) (pv 4) za4 (fun _ _=>rfl)) za2)) za2))) (zab (i:=6) scCov.nd rfl (Or.inl rfl))
     (za6 (zqa hu (pv 3) (zac (za0 (pv 5) (za0 (pv 6) za2))) zl5 rfl)))))))
  (za6 (zad (pv 3)))),?_⟩
 have lc:cs.length=bs.length:=hC.1;refine fun D hD=>?_
 have s1:=za3 hD (.dT []);have g1:(upd H D (.dT [])) D=some (.dT []):=za1;generalize upd H D (.dT [])=H1 at s1 g1;refine⟨_,rfl,a,rfl,⟨_,SqL.of (s1 _ _ ha)⟩,?_⟩;refine zg1 (xs:=cs.map V.ref) (fun i σ H2=>Same H H2/\(∃u4 u5 u6,σ=[some (.ref c),some (.ref r),some (.ref a),some (.ref D),u4,u5,u6])/\∃kvs,H2 D=some (.dT kvs)/\kvs.length<=i*4000/\Cells kvs fun j k=>∃b∈bs.take i,cIn xs ys b j k)
  ⟨s1,⟨none,none,none,rfl⟩,[],g1,Nat.zero_le _,fun j k=>by simp[valV]⟩ (fun i σ H2 _ ⟨s2,_⟩=>SqL.of (s2 _ _ ha)) ?_ ?_
 ·rintro i x σ H2 hx ⟨s2,⟨u4,u5,u6,rfl⟩,kvs,hk,nk,ck⟩;obtain⟨cb,b,rfl,_,hy,fb⟩:=hC.ref hx;have bi:i<bs.length:=(List.getElem?_eq_some_iff.mp hy).1;obtain⟨m1,m2,m3,m4⟩:=hm b (List.mem_of_getElem? hy);have i1:=(zfj m1).1;have i2:=(zfj m2).1;have i3:=(zfj m3).1;have i4:=(zfj m4).1;refine⟨_,rfl,.inl ⟨rfl,_,SqL.of (s2 _ _ hc)⟩,_,rfl,cb,_,_,_,rfl,rfl,SqL.of (s2 _ _ fb),q4_0,c,xs,_,rfl,rfl,s2 _ _ hc,m1,by omega,?_⟩;refine⟨_,rfl,.inl ⟨rfl,_,SqL.of (s2 _ _ hc)⟩,_,rfl,cb,_,_,_,rfl,rfl,SqL.of (s2 _ _ fb),q4_2,c,xs,_,rfl,rfl,s2 _ _ hc,m2,by omega,?_⟩;refine⟨_,_,rfl,by omega,?_⟩;rw[show(((xs.idxOf b.r:Nat):Int)-((xs.idxOf b.l:Nat):Int)).toNat=xs.idxOf b.r-xs.idxOf b.l by omega];refine zbp (fun n σ H3=>Same H H3/\(∃u5 u6,σ=[some (.ref c),some (.ref r),some (.ref a),some (.ref D),some (.ref cb),u5,u6])/\∃kvs,H3 D=some (.dT kvs)/\kvs.length<=i*4000+n*62/\Cells kvs fun j k=>(∃b∈bs.take i,cIn xs ys b j k)\/(xs.idxOf b.l<=j/\j<xs.idxOf b.l+n/\ys.idxOf b.d<=k/\k<ys.idxOf b.u))
   ⟨s2,⟨u5,u6,rfl⟩,kvs,hk,by omega,ck.of fun j k=>⟨.inl,fun z=>z.elim id fun y=>by omega⟩⟩ ?_ ?_
  ·rintro n σ H3 hn ⟨s3,⟨u5,u6,rfl⟩,kvs,hk,nk,ck⟩;refine⟨_,rfl,.inl ⟨rfl,_,SqL.of (s3 _ _ hrr)⟩,_,rfl,cb,_,_,_,rfl,rfl,SqL.of (s3 _ _ fb),q4_1,r,ys,_,rfl,rfl,s3 _ _ hrr,m3,by omega,?_⟩;refine⟨_,rfl,.inl ⟨rfl,_,SqL.of (s3 _ _ hrr)⟩,_,rfl,cb,_,_,_,rfl,rfl,SqL.of (s3 _ _ fb),q4_3,r,ys,_,rfl,rfl,s3 _ _ hrr,m4,by omega,?_⟩;refine⟨_,_,rfl,by omega,?_⟩;rw[show(((ys.idxOf b.u:Nat):Int)-((ys.idxOf b.d:Nat):Int)).toNat=ys.idxOf b.u-ys.idxOf b.d by omega];refine zbp (fun t σ H4=>Same H H4/\(∃u6,σ=[some (.ref c),some (.ref r),some (.ref a),some (.ref D),some (.ref cb),some (.int (((xs.idxOf b.l:Nat):Int)+(n:Int))),u6])/\∃kvs,H4 D=some (.dT kvs)/\kvs.length<=i*4000+n*62+t /\
     Cells kvs fun j k=>((∃b∈bs.take i,cIn xs ys b j k)\/(xs.idxOf b.l<=j/\j<xs.idxOf b.l+n/\ys.idxOf b.d<=k/\k<ys.idxOf b.u))\/(j=xs.idxOf b.l+n/\ys.idxOf b.d<=k/\k<ys.idxOf b.d+t))
    ⟨s3,⟨u6,rfl⟩,kvs,hk,by omega,ck.of fun j k=>⟨.inl,fun z=>z.elim id fun y=>by omega⟩⟩ ?_ ?_
   ·rintro t σ H4 ht ⟨s4,⟨u6,rfl⟩,kvs,hk,nk,ck⟩;refine⟨_,rfl,_,rfl,_,rfl,by show 2<=sizeLine; decide,fun tp htp=>?_⟩;have s5:=za3 htp (.tup [.int (((xs.idxOf b.l:Nat):Int)+(n:Int)),.int (((ys.idxOf b.d:Nat):Int)+(t:Int))]);have g5:(upd H4 tp (.tup [.int (((xs.idxOf b.l:Nat):Int)+(n:Int)),.int (((ys.idxOf b.d:Nat):Int)+(t:Int))])) tp=some (.tup ((kC (xs.idxOf b.l+n) (ys.idxOf b.d+t)).map kV)):=za1;generalize upd H4 tp (.tup [.int (((xs.idxOf b.l:Nat):Int)+(n:Int)),.int (((ys.idxOf b.d:Nat):Int)+(t:Int))])=H5 at s5 g5;have hk5:=s5 _ _ hk;refine⟨D,_,rfl,DPut.t hk5 g5 (by rw[sizeLine_eq]; omega),zhe (s4.trans s5) hD _,⟨_,rfl⟩,_,za1,by have:=zdh kvs (kC (xs.idxOf b.l+n) (ys.idxOf b.d+t)) (V.bl true); omega,?_⟩;refine(zn1 ck _ _ _).of fun j k=>?_
    constructor
    ·rintro((z | z) | z)
     ·exact .inl z
     ·exact .inr (by omega)
     ·exact .inr (by omega)
    ·rintro(z | z)
     ·exact .inl (.inl z)
     ·rcases(show k<ys.idxOf b.d+t\/k=ys.idxOf b.d+t by omega) with y | y
      ·exact .inl (.inr ⟨z.1,z.2.1,y⟩)
      ·exact .inr ⟨z.1,y⟩
   ·rintro σ H4 ⟨s4,⟨u6,rfl⟩,kvs,hk,nk,ck⟩;refine⟨s4,⟨_,_,rfl⟩,kvs,hk,by omega,ck.of fun j k=>?_⟩;constructor
    ·rintro((z | z) | z)
     ·exact .inl z
     ·exact .inr (by omega)
     ·exact .inr (by omega)
    ·rintro(z | z)
     ·exact .inl (.inl z)
     ·rcases(show j<xs.idxOf b.l+n\/j=xs.idxOf b.l+n by omega) with y | y
      ·exact .inl (.inr ⟨z.1,y,z.2.2⟩)
      ·exact .inr ⟨y,by omega,by omega⟩
  ·rintro σ H3 ⟨s3,⟨u5,u6,rfl⟩,kvs,hk,nk,ck⟩;refine⟨s3,⟨_,_,_,rfl⟩,kvs,hk,by omega,ck.of fun j k=>?_⟩;rw[zah hy];constructor
   ·rintro(⟨b',mb,z⟩ | z)
    ·exact⟨b',List.mem_append_left _ mb,z⟩
    ·exact⟨b,by simp,by unfold cIn; omega⟩
   ·rintro⟨b',mb,z⟩;rcases List.mem_append.mp mb with y | y
    ·exact .inl ⟨b',y,z⟩
    ·rw[List.mem_singleton.mp y] at z;unfold cIn at z;exact .inr (by omega)
 ·rintro σ H2 ⟨s2,⟨u4,u5,u6,rfl⟩,kvs,hk,nk,ck⟩;rw[List.length_map,lc,List.take_length] at ck;exact⟨_,rfl,q D kvs H2 s2 hk ck⟩
end
end My
namespace Fl
theorem zhg{bs:List Box}{xs ys:List Int}{k:Nat}(h:∀j,j<xs.length-1->covC bs xs ys j k=true):rowGap bs xs ys k=none:=by
 rw[rowGap,List.find?_eq_none];intro j hj;rw[h j (List.mem_range.mp hj)]; decide
theorem zhf{bs:List Box}{xs ys:List Int}{j k:Nat}(hj:j<xs.length-1)(h:∀j',j' < j->covC bs xs ys j' k=true)(e:covC bs xs ys j k=false):rowGap bs xs ys k=some j:=by
 rw[rowGap,List.find?_range_eq_some];exact⟨by rw[e]; rfl,List.mem_range.mpr hj,fun j' z=>by rw[h j' z]; rfl⟩
theorem zmh{bs:List Box}{xs ys:List Int}(h:∀k,k<ys.length-1->rowGap bs xs ys k=none):gapF bs xs ys=none:=by
 rw[gapF,List.findSome?_eq_none_iff];intro k hk;rw[h k (List.mem_range.mp hk)]; rfl
theorem zmg{bs:List Box}{xs ys:List Int}{j k:Nat}(hk:k<ys.length-1)(h:∀k',k' < k->rowGap bs xs ys k'=none)(e:rowGap bs xs ys k=some j):gapF bs xs ys=some (cellB xs ys j k):=by
 rw[gapF,List.findSome?_eq_some_iff];refine⟨List.range k,k,(List.range (ys.length-1)).drop (k+1),?_,by rw[e]; rfl,fun x hx=>by rw[h x (List.mem_range.mp hx)]; rfl⟩;have hl:k<(List.range (ys.length-1)).length:=by rw[List.length_range]; exact hk
 have t1:(List.range (ys.length-1)).take k=List.range k:=by rw[List.take_range]; congr 1; omega
 have t2:(List.range (ys.length-1)).drop k=k :: (List.range (ys.length-1)).drop (k+1):=by rw[List.drop_eq_getElem_cons hl,List.getElem_range]
 rw[<-t1,<-t2,List.take_append_drop]
end Fl
namespace My
open PySem L2 Mth Wd Fl
section
variable {P:Program} {w:World} {K:PySem.W.Frag} {mg:Str->Option Value} {base:Heap} {f g h C0 f1 f2 f3 f4 f5:Addr} {fd gd hd d1 d2 d3 d4 d5:FuncData}
def boxV(b:Box):List V:=[.int b.l,.int b.d,.int b.r,.int b.u]
inductive SpFGR(vs:List V)(H:Hp)(Q:VK):Prop
 | mk (m n:Int) (a:Addr) (bs:List Box) (h_0:vs=[.int m,.int n,.ref a]) (h_1:LstR BoxL H a bs) (h_2:bs.length<=30) (h_3:∀xs ys,Bd m (xsOf bs) xs->Bd n (ysOf bs) ys->(∀b p H',gapF bs xs ys=some b->Same H H'->H' p=some (.tup (boxV b))->Q (.ref p) H')/\(gapF bs xs ys=none->∀H',Same H H'->Q .non H')):SpFGR vs H Q
def spFG:Sp:=fun vs H Q _=>SpFGR vs H Q
theorem scFG:FnScope ["width","height","rectangles","columns","rows","covered","row","column"] ["width","height","rectangles"] (defScope zbw):=⟨rfl,rfl,rfl,by decide +kernel,rfl,by decide +kernel,by decide +kernel⟩
theorem ok_fg (F : Fun K "first_gap" "first_gap" zbw f fd) (G1 : FnOk P w K mg base CX0 1 f1 d1 ["rectangles", "at", "most"] spBd) (b1 : Binds K d1 ["rectangles", "at", "most"] []) (k1 : PySem.W.keepIn K (.ref f1) = true) (m1 : mg "borders" = some (.ref f1))
    (G2 : FnOk P w K mg base CX0 1 f2 d2 ["columns", "rows", "rectangles"] spCov) (b2 : Binds K d2 ["columns", "rows", "rectangles"] []) (k2 : PySem.W.keepIn K (.ref f2) = true) (m2 : mg "covered_cells" = some (.ref f2))
    (mr : mg "range" = none) (ml : mg "len" = none) : FnOk P w K mg base CX0 2 f fd ["width", "height", "rectangles"] spFG := by
  refine F.ok scFG (fun vs H Q E h => ?_) (fun cdv A outer s H vs Q E hr h => ?_)
  · obtain⟨m, n, a, bs, rfl, _⟩ := h;rfl
  obtain⟨m, n, a, bs, rfl, hA, hl, q⟩ := h;have hu := hu_of hr;refine⟨_, za5 (za9 (i := 3) scFG.nd rfl (Or.inl rfl) (za7 G1 hr (by rfl) m1 k1 b1 .nil pass0 (za0 (pv 2) (za0 za4 (za0 (pv 0) za2)))))
    (za5 (za9 (i := 4) scFG.nd rfl (Or.inl rfl) (za7 G1 hr (by rfl) m1 k1 b1 .nil pass0 (za0 (pv 2) (za0 za4 (za0 (pv 1) za2)))))
    (za5 (za9 (i := 5) scFG.nd rfl (Or.inl rfl) (za7 G2 hr (by rfl) m2 k2 b2 .nil pass0 (za0 (pv 3) (za0 (pv 4) (za0 (pv 2) za2)))))
    (za5 (zb9 PassesOwn.never rfl (zdn (by rfl) mr (za0 (zaa zav (zag (callLen (K := K)) (by rfl) ml zc4 (za0 (pv 4) za2)) za4) za2)) (zab (i := 6) scFG.nd rfl (Or.inl rfl))
      (za6 (zb9 PassesOwn.never rfl (zdn (by rfl) mr (za0 (zaa zav (zag (callLen (K := K)) (by rfl) ml zc4 (za0 (pv 3) za2)) za4) za2)) (zab (i := 7) scFG.nd rfl (Or.inl rfl))
        (za6 (zaw (zkz (zl7 hu (zac (za0 (pv 7) (za0 (pv 6) za2))) (pv 5)))
          (za6 (zad (zac (za0 (za8 (ixL (K := K)) (pv 3) (pv 7) (fun _ _ => rfl)) (za0 (za8 (ixL (K := K)) (pv 4) (pv 6) (fun _ _ => rfl))
            (za0 (za8 (ixL (K := K)) (pv 3) (zaa zal (pv 7) za4) (fun _ _ => rfl)) (za0 (za8 (ixL (K := K)) (pv 4) (zaa zal (pv 6) za4) (fun _ _ => rfl)) za2))))))) zaj)))))
    (za6 (zad zby))))), ?_⟩
  refine⟨_, rfl, _, rfl, a, bs, 0, m, rfl, hA, hl, Nat.zero_le _, fun c xs H1 s1 hc lx bx => ?_⟩;have hA1 := zgn (R := BoxL) (fun s h => ze6 s h) s1 hA;refine⟨_, rfl, _, rfl, a, bs, 1, n, rfl, hA1, hl, Nat.le_refl _, fun r ys H2 s2 hrr ly by' => ?_⟩;have hA2 := zgn (R := BoxL) (fun s h => ze6 s h) s2 hA1;rw[both0] at bx;rw[both1] at by'
  have hm : ∀b ∈ bs, b.l ∈ xs /\ b.r ∈ xs /\ b.d ∈ ys /\ b.u ∈ ys := fun b hb =>
    ⟨(bx.mem _).mpr (.inr (.inr (List.mem_append_left _ (List.mem_map.mpr ⟨b, hb, rfl⟩)))), (bx.mem _).mpr (.inr (.inr (List.mem_append_right _ (List.mem_map.mpr ⟨b, hb, rfl⟩)))),
     (by'.mem _).mpr (.inr (.inr (List.mem_append_left _ (List.mem_map.mpr ⟨b, hb, rfl⟩)))), (by'.mem _).mpr (.inr (.inr (List.mem_append_right _ (List.mem_map.mpr ⟨b, hb, rfl⟩))))⟩
  refine⟨_, rfl, _, rfl, _, rfl, c, r, a, xs, ys, bs, rfl, s2 _ _ hc, hrr, hA2, hl, lx, ly, hm, fun D kvs H3 s3 hD ck => ?_⟩;obtain⟨q1, q2⟩ := q xs ys bx by'
  have hc3 : H3 c = some (.lst (xs.map V.int)) := s3 _ _ (s2 _ _ hc);have hr3 : H3 r = some (.lst (ys.map V.int)) := s3 _ _ hrr;have s03 := (s1.trans s2).trans s3;have cv : ∀j k, j < xs.length - 1 → k < ys.length - 1 → (valV kvs (kC j k)).isSome = covC bs xs ys j k := fun j k hj hk => by
    rw[Bool.eq_iff_iff, ck j k, cov_in bx.up by'.up hm (by omega) (by omega)]
  refine⟨_, rfl, r, _, rfl, .inl (SqL.of hr3), _, _, rfl, rfl, _, rfl, by rw[List.length_map]; omega, by rw[List.length_map]; omega, ?_⟩;rw[List.length_map, show((ys.length : Int) - 1).toNat = ys.length - 1 by omega];refine zbp (fun k σ H4 => Same H3 H4 /\ (∃u6 u7, σ = [some (.int m), some (.int n), some (.ref a), some (.ref c), some (.ref r), some (.ref D), u6, u7]) /\ ∀k', k' < k → rowGap bs xs ys k' = none)
    ⟨Same.refl _, ⟨none, none, rfl⟩, fun k' z => absurd z (Nat.not_lt_zero _)⟩ ?_ ?_
  · rintro k σ H4 hk ⟨s4, ⟨u6, u7, rfl⟩, nk⟩;rw[Int.zero_add];refine⟨_, rfl, c, _, rfl, .inl (SqL.of (s4 _ _ hc3)), _, _, rfl, rfl, _, rfl, by rw[List.length_map]; omega, by rw[List.length_map]; omega, ?_⟩;rw[List.length_map, show((xs.length : Int) - 1).toNat = xs.length - 1 by omega];refine zbp (fun j σ H5 => Same H3 H5 /\ (∃u7, σ = [some (.int m), some (.int n), some (.ref a), some (.ref c), some (.ref r), some (.ref D), some (.int (k : Int)), u7]) /\ ∀j', j' < j → covC bs xs ys j' k = true)
      ⟨s4, ⟨u7, rfl⟩, fun j' z => absurd z (Nat.not_lt_zero _)⟩ ?_ ?_
    · rintro j σ H5 hj ⟨s5, ⟨u7, rfl⟩, nj⟩;rw[Int.zero_add];refine⟨_, rfl, _, rfl, by show 2 <= sizeLine; decide, fun tp htp => ?_⟩;have s6 := za3 htp (.tup [.int (j : Int), .int (k : Int)]);have g6 : (upd H5 tp (.tup [.int (j : Int), .int (k : Int)])) tp = some (.tup ((kC j k).map kV)) := za1;generalize upd H5 tp (.tup [.int (j : Int), .int (k : Int)]) = H6 at s6 g6;have s36 := s5.trans s6;refine⟨_, rfl, D, _, rfl, DGet.t (s36 _ _ hD) g6, _, rfl, ?_⟩;rw[cv j k hj hk];refine ite2 (fun ov => ?_) (fun ov => ?_)
      · have e : covC bs xs ys j k = false := by simpa using ov
        refine⟨_, rfl, _, rfl, c, _, _, _, rfl, rfl, SqL.of (s36 _ _ hc3), zg7 (by omega), _, rfl, _, rfl, r, _, _, _, rfl, rfl, SqL.of (s36 _ _ hr3), zg7 (by omega), ?_⟩;refine⟨_, rfl, _, rfl, _, _, rfl, rfl, c, _, _, _, rfl, rfl, SqL.of (s36 _ _ hc3), zg7 (i := j + 1) (by omega), ?_⟩;refine⟨_, rfl, _, rfl, _, _, rfl, rfl, r, _, _, _, rfl, rfl, SqL.of (s36 _ _ hr3), zg7 (i := k + 1) (by omega), ?_⟩;refine⟨by show 4 <= sizeLine; decide, fun t ht => ?_⟩;exact q1 (cellB xs ys j k) t _ (zmg hk nk (zhf hj nj e)) ((s03.trans s36).trans (za3 ht _)) za1
      · have e : covC bs xs ys j k = true := by simpa using ov
        refine⟨s36, ⟨_, rfl⟩, fun j' z => ?_⟩;rcases(show j' < j \/ j' = j by omega) with y | rfl
        · exact nj j' y
        · exact e
    · rintro σ H5 ⟨s5, ⟨u7, rfl⟩, nj⟩;refine⟨s5, ⟨_, _, rfl⟩, fun k' z => ?_⟩;rcases(show k' < k \/ k' = k by omega) with y | rfl
      · exact nk k' y
      · exact zhg nj
  · rintro σ H4 ⟨s4, ⟨u6, u7, rfl⟩, nk⟩;exact q2 (zmh nk) _ (s03.trans s4)
end
inductive Look(m n:Int)(bs:List Box):List V->Prop
 | no (k:Nat) (b:Box):bs[k]?=some b->niB b=true->(∀k' b',k' < k->bs[k']?=some b'->niB b'=false)->Look m n bs [.str "no",.int (k:Int)]
 | out (k:Nat) (b:Box):(∀b∈bs,niB b=false)->bs[k]?=some b->outB m n b=true->(∀k' b',k' < k->bs[k']?=some b'->outB m n b'=false)->Look m n bs [.str "out",.int (k:Int)]
 | ov (j k:Nat):(∀b∈bs,niB b=false)->(∀b∈bs,outB m n b=false)->Fst bs j k->Look m n bs [.str "overlap",.int (j:Int),.int (k:Int)]
 | gap (b:Box) (xs ys:List Int):(∀b∈bs,niB b=false)->(∀b∈bs,outB m n b=false)->NoOv bs->Bd m (xsOf bs) xs->Bd n (ysOf bs) ys->gapF bs xs ys=some b->Look m n bs (.str "gap" :: boxV b)
 | cov (xs ys:List Int):(∀b∈bs,niB b=false)->(∀b∈bs,outB m n b=false)->NoOv bs->Bd m (xsOf bs) xs->Bd n (ysOf bs) ys->gapF bs xs ys=none->Look m n bs [.str "covers"]
theorem zpv{α:Type}{l:List α}{p:α->Prop}(h:∀(k:Nat) (b:α),k<l.length->l[k]?=some b->p b):∀b∈l,p b:=fun b hb=>by
 obtain⟨k,hk,rfl⟩:=List.getElem_of_mem hb;exact h k _ hk (List.getElem?_eq_getElem hk)
section
variable {P:Program} {w:World} {K:PySem.W.Frag} {mg:Str->Option Value} {base:Heap} {f g h C0 f1 f2 f3 f4 f5:Addr} {fd gd hd d1 d2 d3 d4 d5:FuncData}
inductive SpLWR(vs:List V)(H:Hp)(Q:VK):Prop
 | mk (m n:Int) (a:Addr) (bs:List Box) (h_0:vs=[.int m,.int n,.ref a]) (h_1:LstR BoxL H a bs) (h_2:bs.length<=30) (h_3:∀ws p H',Look m n bs ws->Same H H'->H' p=some (.tup ws)->Q (.ref p) H'):SpLWR vs H Q
def spLW:Sp:=fun vs H Q _=>SpLWR vs H Q
theorem scLW:FnScope ["width","height","rectangles","k","rectangle","pair","gap"] ["width","height","rectangles"] (defScope zaz):=⟨rfl,rfl,rfl,by decide +kernel,rfl,by decide +kernel,by decide +kernel⟩
theorem catT(h:X.K=K:=by rfl):OpR X (binaryOp .Add) (rCatT K):=h ▸ zqf
theorem ok_lw (F:Fun K "looked_whole" "looked_whole" zaz f fd) (G1:FnOk P w K mg base CX0 1 f1 d1 ["rectangle"] spNi) (b1:Binds K d1 ["rectangle"] []) (k1:PySem.W.keepIn K (.ref f1)=true) (m1:mg "is_neither" = some (.ref f1))
  (G2:FnOk P w K mg base CX0 1 f2 d2 ["rectangle","width","height"] spOut) (b2:Binds K d2 ["rectangle","width","height"] []) (k2:PySem.W.keepIn K (.ref f2)=true) (m2:mg "is_out" = some (.ref f2))
  (G3:FnOk P w K mg base CX0 2 f3 d3 ["rectangles"] spFO) (b3:Binds K d3 ["rectangles"] []) (k3:PySem.W.keepIn K (.ref f3)=true) (m3:mg "first_overlap" = some (.ref f3))
  (G4:FnOk P w K mg base CX0 2 f4 d4 ["width","height","rectangles"] spFG) (b4:Binds K d4 ["width","height","rectangles"] []) (k4:PySem.W.keepIn K (.ref f4)=true) (m4:mg "first_gap" = some (.ref f4))
  (me:mg "enumerate" = none):FnOk P w K mg base CX0 3 f fd ["width","height","rectangles"] spLW:=by
 refine F.ok scLW (fun vs H Q E h=>?_) (fun cdv A outer s H vs Q E hr h=>?_)
 ·obtain⟨m,n,a,bs,rfl,_⟩:=h;rfl
 obtain⟨m,n,a,bs,rfl,hA,hl,q⟩:=h;have r1:Room 1 _:=hr.mono (by decide);refine⟨_,za5 (zb9 PassesOwn.never rfl (zdo (by rfl) me (za0 (pv 2) za2)) (pgTup (n:=2) (K:=K) rfl (zae (zab (i:=3) scLW.nd rfl (Or.inl rfl)) (zae (zab (i:=4) scLW.nd rfl (Or.inl rfl)) zbd)))
   (za6 (zaw (ze4 (za7 G1 r1 (by rfl) m1 k1 b1 .nil pass0 (za0 (pv 4) za2))) (za6 (zad (zac (za0 zc1 (za0 (pv 3) za2))))) zaj)))
  (za5 (zb9 PassesOwn.never rfl (zdo (by rfl) me (za0 (pv 2) za2)) (pgTup (n:=2) (K:=K) rfl (zae (zab (i:=3) scLW.nd rfl (Or.inl rfl)) (zae (zab (i:=4) scLW.nd rfl (Or.inl rfl)) zbd)))
   (za6 (zaw (ze4 (za7 G2 r1 (by rfl) m2 k2 b2 .nil pass0 (za0 (pv 4) (za0 (pv 0) (za0 (pv 1) za2))))) (za6 (zad (zac (za0 zc1 (za0 (pv 3) za2))))) zaj)))
  (za5 (za9 (i:=5) scLW.nd rfl (Or.inl rfl) (za7 G3 hr (by rfl) m3 k3 b3 .nil pass0 (za0 (pv 2) za2)))
  (za5 (zaw (zkz (zl6 (pv 5))) (za6 (zad (zaa (catT (K:=K)) (zac (za0 zc1 za2)) (pv 5)))) zaj)
  (za5 (za9 (i:=6) scLW.nd rfl (Or.inl rfl) (za7 G4 hr (by rfl) m4 k4 b4 .nil pass0 (za0 (pv 0) (za0 (pv 1) (za0 (pv 2) za2)))))
  (za5 (zaw (zkz (zl6 (pv 6))) (za6 (zad (zaa (catT (K:=K)) (zac (za0 zc1 za2)) (pv 6)))) zaj)
  (za6 (zad (zac (za0 zc1 za2))))))))),?_⟩
 obtain⟨cs,ha,hC⟩:=id hA;have lc:cs.length=bs.length:=hC.1;refine⟨_,rfl,a,_,rfl,ha,?_⟩;refine zd4 (xs:=cs.map V.ref) (fun i σ H2=>Same H H2/\(∃u3 u4,σ=[some (.int m),some (.int n),some (.ref a),u3,u4,none,none])/\∀k' b',k' < i->bs[k']?=some b'->niB b'=false)
  ⟨Same.refl _,⟨none,none,rfl⟩,fun _ _ z=>absurd z (Nat.not_lt_zero _)⟩ (fun i σ H2 _ ⟨s2,_⟩=>s2 _ _ ha) ?_ ?_
 ·rintro i x σ H2 p hx ⟨s2,⟨u3,u4,rfl⟩,no⟩ hp;obtain⟨c,b,rfl,_,hy,fb⟩:=hC.ref hx;have s3:=za3 hp (.tup [.int ((i:Nat):Int),.ref c]);have g3:(upd H2 p (.tup [.int ((i:Nat):Int),.ref c])) p=some (.tup [.int ((i:Nat):Int),.ref c]):=za1;generalize upd H2 p (.tup [.int ((i:Nat):Int),.ref c])=H3 at s3 g3;have s03:=s2.trans s3;refine⟨p,_,rfl,SqT.of g3,rfl,_,_,rfl,_,_,rfl,rfl,?_⟩;refine⟨_,rfl,c,b,rfl,s03 _ _ fb,_,rfl,?_⟩;refine ite2 (fun e=>?_) (fun e=>?_)
  ·refine⟨_,rfl,by show 2<=sizeLine; decide,fun t ht=>?_⟩;exact q _ t _ (.no i b hy e no) (s03.trans (za3 ht _)) za1
  ·refine⟨s03,⟨_,_,rfl⟩,fun k' b' z1 z2=>?_⟩;rcases(show k' < i\/k'=i by omega) with y | rfl
   ·exact no k' b' y z2
   ·rw[hy] at z2; cases z2; simpa using e
 rintro σ H1 ⟨s1,⟨u3,u4,rfl⟩,no⟩;rw[List.length_map,lc] at no;have no':∀b∈bs,niB b=false:=zpv no;clear no;refine⟨_,rfl,a,_,rfl,s1 _ _ ha,?_⟩;refine zd4 (xs:=cs.map V.ref) (fun i σ H2=>Same H H2/\(∃u3 u4,σ=[some (.int m),some (.int n),some (.ref a),u3,u4,none,none])/\∀k' b',k' < i->bs[k']?=some b'->outB m n b'=false)
  ⟨s1,⟨u3,u4,rfl⟩,fun _ _ z=>absurd z (Nat.not_lt_zero _)⟩ (fun i σ H2 _ ⟨s2,_⟩=>s2 _ _ ha) ?_ ?_
 ·rintro i x σ H2 p hx ⟨s2,⟨u3,u4,rfl⟩,no⟩ hp;obtain⟨c,b,rfl,_,hy,fb⟩:=hC.ref hx;have s3:=za3 hp (.tup [.int ((i:Nat):Int),.ref c]);have g3:(upd H2 p (.tup [.int ((i:Nat):Int),.ref c])) p=some (.tup [.int ((i:Nat):Int),.ref c]):=za1;generalize upd H2 p (.tup [.int ((i:Nat):Int),.ref c])=H3 at s3 g3;have s03:=s2.trans s3;refine⟨p,_,rfl,SqT.of g3,rfl,_,_,rfl,_,_,rfl,rfl,?_⟩;refine⟨_,rfl,_,rfl,_,rfl,c,b,m,n,rfl,s03 _ _ fb,_,rfl,?_⟩;refine ite2 (fun e=>?_) (fun e=>?_)
  ·refine⟨_,rfl,by show 2<=sizeLine; decide,fun t ht=>?_⟩;exact q _ t _ (.out i b no' hy e no) (s03.trans (za3 ht _)) za1
  ·refine⟨s03,⟨_,_,rfl⟩,fun k' b' z1 z2=>?_⟩;rcases(show k' < i\/k'=i by omega) with y | rfl
   ·exact no k' b' y z2
   ·rw[hy] at z2; cases z2; simpa using e
 rintro σ H2 ⟨s2,⟨v3,v4,rfl⟩,no⟩;rw[List.length_map,lc] at no;have out':∀b∈bs,outB m n b=false:=zpv no;clear no;have hA2:=zgn (R:=BoxL) (fun s h=>ze6 s h) s2 hA;refine⟨_,rfl,a,bs,rfl,hA2,by omega,fun j k p H3 fst s3 hp=>?_,fun nov H3 s3=>?_⟩
 ·refine⟨_,rfl,_,rfl,?_⟩;refine iteT ?_;refine⟨by show 1<=sizeLine; decide,fun t ht=>?_⟩;have s4:=za3 ht (.tup [.str "overlap"]);have g4:(upd H3 t (.tup [.str "overlap"])) t=some (.tup [.str "overlap"]):=za1;generalize upd H3 t (.tup [.str "overlap"])=H4 at s4 g4;refine⟨_,rfl,t,p,_,_,rfl,rfl,SqT.of g4,SqT.of (s4 _ _ hp),by simp,by show 3<=sizeLine; decide,(fun z=>by cases z),fun _ t2 ht2=>?_⟩;exact q _ t2 _ (.ov j k no' out' fst) (s2.trans (s3.trans (s4.trans (za3 ht2 _)))) za1
 refine⟨_,rfl,_,rfl,?_⟩;refine iteF ?_;have hA3:=zgn (R:=BoxL) (fun s h=>ze6 s h) s3 hA2;refine⟨_,rfl,_,rfl,_,rfl,m,n,a,bs,rfl,hA3,hl,fun xs ys bx by'=>⟨fun b p H4 gp s4 hp=>?_,fun gp H4 s4=>?_⟩⟩
 ·refine⟨_,rfl,_,rfl,?_⟩;refine iteT ?_;refine⟨by show 1<=sizeLine; decide,fun t ht=>?_⟩;have s5:=za3 ht (.tup [.str "gap"]);have g5:(upd H4 t (.tup [.str "gap"])) t=some (.tup [.str "gap"]):=za1;generalize upd H4 t (.tup [.str "gap"])=H5 at s5 g5;refine⟨_,rfl,t,p,_,_,rfl,rfl,SqT.of g5,SqT.of (s5 _ _ hp),by simp,by show 5<=sizeLine; decide,(fun z=>by cases z),fun _ t2 ht2=>?_⟩;exact q _ t2 _ (.gap b xs ys no' out' nov bx by' gp) (s2.trans (s3.trans (s4.trans (s5.trans (za3 ht2 _))))) za1
 ·refine⟨_,rfl,_,rfl,?_⟩;refine iteF ?_;refine⟨by show 1<=sizeLine; decide,fun t ht=>?_⟩;exact q _ t _ (.cov xs ys no' out' nov bx by' gp) (s2.trans (s3.trans (s4.trans (za3 ht _)))) za1
end
def bx4(r:List Int):Box:=(r.getD 0 0,r.getD 1 0,r.getD 2 0,r.getD 3 0)
theorem zr8{r:List Int}(h:r.length=4):r=[(bx4 r).l,(bx4 r).d,(bx4 r).r,(bx4 r).u]:=by
 match r,h with
 | [a,b,c,d],_=>rfl
def boxesW(B:Int)(rows:List (List Rat)):List Box:=rows.map fun r=>bx4 (r.map (wh B))
theorem zls{H:Hp}{l:Addr}{B:Int}{rows:List (List Rat)}(four:∀r∈rows,r.length=4)(h:LstR IntsL H l (rows.map fun r=>r.map (wh B))):LstR BoxL H l (boxesW B rows):=by
 obtain⟨cs,h1,h2,h3⟩:=h;refine⟨cs,h1,by rw[h2,boxesW,List.length_map,List.length_map],fun i c b e1 e2=>?_⟩;rw[boxesW,List.getElem?_map] at e2;obtain⟨r,e3,rfl⟩:=Option.map_eq_some_iff.mp e2
 have:=h3 i c (r.map (wh B)) e1 (by rw[List.getElem?_map,e3]; rfl)
 have f4:=zr8 (r:=r.map (wh B)) (by rw[List.length_map]; exact four r (List.mem_of_getElem? e3));unfold IntsL at this;rw[f4] at this;exact this
structure LkK(W U:Rat)(rows:List (List Rat)):Prop where
 len:rows.length<=30
 four:∀r∈rows,r.length=4
 sz:∀q∈nums W U rows,q.den<=2 ^ 16/\q.num.natAbs<=2 ^ 64
theorem LkK.cnt{W U:Rat}{rows:List (List Rat)}(k:LkK W U rows):(nums W U rows).length<=122:=by
 have:=k.len
 rw[List.length_cons,List.length_cons,flat4 k.four]; omega
theorem LkK.cb{W U:Rat}{rows:List (List Rat)}(k:LkK W U rows):0<cb (nums W U rows)/\(∀q∈nums W U rows,(q.den:Int) ∣ cb (nums W U rows))/\(Mth.cb (nums W U rows)).natAbs<=2 ^ 1952:=by
 obtain⟨h1,_,h2,h3⟩:=cb_ok (nums W U rows) (c:=1) (D:=0) (d:=16) (by decide) (by decide) (fun q hq=>(k.sz q hq).1);exact⟨h1,h2,Nat.le_trans h3 (Nat.pow_le_pow_right (by decide) (by have:=k.cnt; omega))⟩
theorem LkK.big{W U:Rat}{rows:List (List Rat)}(k:LkK W U rows):∀q∈nums W U rows,Big q.num/\Big (q.den:Int)/\Big ((Mth.cb (nums W U rows)).fdiv q.den):=fun q hq=>by
 obtain⟨h1,h2,h3⟩:=k.cb;obtain⟨s1,s2⟩:=k.sz q hq;refine⟨big2 s2 (by decide),big2 (n:=16) (by rw[Int.natAbs_natCast]; exact s1) (by decide),big2 (n:=1952) (Nat.le_trans ?_ h3) (by decide)⟩;rw[Int.fdiv_eq_ediv_of_dvd (h2 q hq)];exact Int.natAbs_ediv_le_natAbs _ _
section
variable {P:Program} {w:World} {K:PySem.W.Frag} {mg:Str->Option Value} {base:Heap} {f g h C0 f1 f2 f3 f4 f5:Addr} {fd gd hd d1 d2 d3 d4 d5:FuncData}
def gap4(B:Int)(g:Box):List Rat:=[(g.l:Rat) / (B:Rat),(g.d:Rat) / (B:Rat),(g.r:Rat) / (B:Rat),(g.u:Rat) / (B:Rat)]
inductive SpLkR(vs:List V)(H:Hp)(Q:VK):Prop
 | mk (a:Addr) (W U:Rat) (rows:List (List Rat)) (h_0:vs=[.ref a]) (h_1:FloorR H a W U rows) (h_2:LkK W U rows) (h_3:(∀ws p H',Look (wh (cb (nums W U rows)) W) (wh (cb (nums W U rows)) U) (boxesW (cb (nums W U rows)) rows) ws->ws.head?≠some (.str "gap")->Same H H'->H' p=some (.tup ws)->Q (.ref p) H')) (h_4:(∀g p ts H',Look (wh (cb (nums W U rows)) W) (wh (cb (nums W U rows)) U) (boxesW (cb (nums W U rows)) rows) (.str "gap" :: boxV g)->Same H H'->H' p=some (.tup (.str "gap" :: ts.map V.ref))->At FrR H' ts (gap4 (cb (nums W U rows)) g)->Q (.ref p) H')):SpLkR vs H Q
def spLk:Sp:=fun vs H Q _=>SpLkR vs H Q
theorem scLk:FnScope ["floor","bottom","whole","found"] ["floor"] (defScope zd7):=⟨rfl,rfl,rfl,by decide +kernel,rfl,by decide +kernel,by decide +kernel⟩
theorem ndNB:(["number","bottom"]:List Str).Nodup:=by decide +kernel
theorem Look.head{m n:Int}{bs:List Box}{ws:List V}(h:Look m n bs ws):(∃s t,ws=.str s :: t/\s≠"gap")\/∃g,ws=.str "gap" :: boxV g:=by
 cases h with
 | no=>exact .inl ⟨_,_,rfl,by decide⟩
 | out=>exact .inl ⟨_,_,rfl,by decide⟩
 | ov=>exact .inl ⟨_,_,rfl,by decide⟩
 | gap b=>exact .inr ⟨b,rfl⟩
 | cov=>exact .inl ⟨_,_,rfl,by decide⟩
theorem hd0(x:V)(t:List V):atI (x :: t) 0=some x:=zak (j:=0) rfl
theorem sIx51:HT.sIx 5 0 (some 1)=1:=by simp[HT.sIx]
theorem zlf (F:Fun K "looked" "looked" zd7 f fd) (G1:FnOk P w K mg base CX0 1 f1 d1 ["floor"] spNums) (b1:Binds K d1 ["floor"] []) (k1:PySem.W.keepIn K (.ref f1)=true) (m1:mg "numbers_of" = some (.ref f1))
  (G2:FnOk P w K mg base CX0 2 f2 d2 ["top","bottom"] (spFrac C0)) (b2:Binds K d2 ["top","bottom"] []) (k2:PySem.W.keepIn K (.ref f2)=true) (m2:mg "fraction" = some (.ref f2))
  (G3:FnOk P w K mg base CX0 2 f3 d3 ["row"] spCBL) (b3:Binds K d3 ["row"] []) (k3:PySem.W.keepIn K (.ref f3)=true) (m3:mg "common_bottom" = some (.ref f3))
  (G4:FnOk P w K mg base CX0 3 f4 d4 ["width","height","rectangles"] spLW) (b4:Binds K d4 ["width","height","rectangles"] []) (k4:PySem.W.keepIn K (.ref f4)=true) (m4:mg "looked_whole" = some (.ref f4))
  (G5:FnOk P w K mg base CX0 2 f5 d5 ["floor","bottom"] spWF) (b5:Binds K d5 ["floor","bottom"] []) (k5:PySem.W.keepIn K (.ref f5)=true) (m5:mg "whole_floor" = some (.ref f5)) (mt:mg "tuple" = none) :
  FnOk P w K mg base CX0 4 f fd ["floor"] spLk:=by
 refine F.ok scLk (fun vs H Q E h=>?_) (fun cdv A outer s H vs Q E hr h=>?_)
 ·obtain⟨a,W,U,rows,rfl,_⟩:=h;rfl
 obtain⟨a,W,U,rows,rfl,hF,k,q1,q2⟩:=h;have r1:=hr.mono (show 1<=3 by decide);have r2:=hr.mono (show 2<=3 by decide);refine⟨_,za5 (za9 (i:=1) scLk.nd rfl (Or.inr rfl) (za7 G3 r2 (by rfl) m3 k3 b3 .nil pass0 (za0 (za7 G1 r1 (by rfl) m1 k1 b1 .nil pass0 (za0 (pv 0) za2)) za2)))
  (za5 (za9 (i:=2) scLk.nd rfl (Or.inl rfl) (za7 G5 r2 (by rfl) m5 k5 b5 .nil pass0 (za0 (pv 0) (za0 (pv 1) za2))))
  (za5 (za9 (i:=3) scLk.nd rfl (Or.inl rfl) (za7 G4 hr (by rfl) m4 k4 b4 .nil pass0 (za0 (za8 (ixT (K:=K)) (pv 2) za4 (fun _ _=>rfl)) (za0 (za8 (ixT (K:=K)) (pv 2) za4 (fun _ _=>rfl)) (za0 (za8 (ixT (K:=K)) (pv 2) za4 (fun _ _=>rfl)) za2)))))
  (za5 (zaw (zaf zcj (za8 (ixT (K:=K)) (pv 3) za4 (fun _ _=>rfl)) zc1 (nomark _))
   (za6 (zad (zaa (catT (K:=K)) (zac (za0 zc1 za2)) (zbo (callTup (K:=K)) (by rfl) mt zct (za0 (zd1 (Nc:=["number","bottom"]) (cap:=[(1,1)]) (g:=gName 0) (te:=tCall (spFrac C0) [] E0 (tCons (tVar 0) (tCons (tVar 1) tNil))) rfl (piTup (K:=K) (zaq (slT (K:=K)) (pv 3) (zb7 za4) zb8))
    (zbe rfl rfl (by decide +kernel) (by decide +kernel) (List.forall_mem_cons.mpr ⟨⟨rfl,rfl⟩,List.forall_mem_nil _⟩) rfl (List.forall_mem_cons.mpr ⟨⟨_,_,rfl,rfl,rfl,rfl,rfl⟩,List.forall_mem_nil _⟩))
    (fun C fp pins s' H'=>zab (i:=0) ndNB rfl (Or.inl rfl)) (fun C fp pins s' H'=>za7 (CX:=CX0) G2 r2 (by rfl) m2 k2 b2 .nil pass0 (za0 (pv 0) (za0 (pv 1) za2)))) za2))))) zaj)
  (za6 (zad (pv 3)))))),?_⟩
 have l40:=k.len;refine⟨_,rfl,a,W,U,rows,rfl,hF,by omega,k.four,fun pn H1 s1 hN=>⟨pn,_,16,rfl,hN,fun y hy=>(k.sz y hy).1,by have:=k.cnt; omega,?_⟩⟩;refine⟨_,rfl,_,rfl,a,_,W,U,rows,rfl,zc5 s1 hF,by omega,k.four,k.big,fun pw l H2 s2 hw hL=>?_⟩;have hB:=zls k.four hL;obtain⟨B0,_,BL⟩:=k.cb;generalize cb (nums W U rows)=B at *;have Bb:Big B:=big2 BL (by decide);have Bn:B≠0:=by omega
 refine⟨_,rfl,pw,_,_,_,rfl,rfl,SqT.of hw,t3_0 _ _ _,_,rfl,pw,_,_,_,rfl,rfl,SqT.of hw,t3_1 _ _ _,_,rfl,pw,_,_,_,rfl,rfl,SqT.of hw,t3_2 _ _ _,?_⟩;refine⟨_,_,l,_,rfl,hB,by rw[boxesW,List.length_map]; exact l40,fun ws p H3 lk s3 hp=>?_⟩;have s03:=(s1.trans s2).trans s3;rcases lk.head with ⟨z,t,rfl,ne⟩ | ⟨g,rfl⟩
 ·refine⟨_,rfl,p,_,_,_,rfl,rfl,SqT.of hp,hd0 _ _,rfl,_,rfl,iteDF (fun e=>ne (V.str.inj e)) ?_⟩;exact⟨_,rfl,q1 _ p _ lk (fun e=>ne (by injection e with e; injection e)) s03 hp⟩
 refine⟨_,rfl,p,_,_,_,rfl,rfl,SqT.of hp,hd0 _ _,rfl,_,rfl,iteDT rfl ?_⟩;refine⟨by show 1<=sizeLine; decide,fun t ht=>?_⟩;have s4:=za3 ht (.tup [.str "gap"]);have g4:(upd H3 t (.tup [.str "gap"])) t=some (.tup [.str "gap"]):=za1;generalize upd H3 t (.tup [.str "gap"])=H4 at s4 g4;refine⟨_,rfl,1,rfl,p,_,rfl,SqT.of (s4 _ _ hp),fun z=>?_,fun p1 hp1=>?_⟩
 ·have:=z.1
  rw[show(V.str "gap" :: boxV g).length=5 from rfl,sIx51] at this;cases this
 rw[show cutV (V.str "gap" :: boxV g) (some 1) none=[g.l,g.d,g.r,g.u].map V.int by rw[show(some (1:Int))=some ((1:Nat):Int) from rfl,zeh _ (by show 1<=5; decide)]; rfl];have s5:=za3 hp1 (.tup ([g.l,g.d,g.r,g.u].map V.int));have g5:(upd H4 p1 (.tup ([g.l,g.d,g.r,g.u].map V.int))) p1=some (.tup ([g.l,g.d,g.r,g.u].map V.int)):=za1;generalize upd H4 p1 (.tup ([g.l,g.d,g.r,g.u].map V.int))=H5 at s5 g5;refine⟨p1,rfl,⟨_,SqT.of g5⟩,fun acc hacc=>?_⟩;refine zay (zcz g5) (by show 4<=1000; decide) hacc (fun i ys σ hp=>∃ds:List Addr,ys=ds.map V.ref/\At FrR hp ds ((gap4 B g).take i)/\∃u,σ=[u,some (.int B)]) ⟨[],rfl,At.nil,none,rfl⟩ ?_ ?_
 ·rintro i ys σ H6 x H7 hi sm hac6 ⟨ds,rfl,hD,u,rfl⟩ ⟨rfl,hx⟩ Cc hC;obtain⟨e,rfl,he⟩:=zi3 hx;have eg:(gap4 B g)[i]?=some ((e:Rat) / (B:Rat)):=by
   have:gap4 B g=[g.l,g.d,g.r,g.u].map fun e:Int=>(e:Rat) / (B:Rat):=rfl
   rw[this,List.getElem?_map,he]; rfl
  refine⟨_,rfl,_,rfl,e,B,rfl,Bb,fun z=>absurd z Bn,fun _ p5 hp5=>?_⟩;have s8:=za3 hp5 (.tup [.int (frac e B).1,.int (frac e B).2]);have g8:FrR (upd H7 p5 (.tup [.int (frac e B).1,.int (frac e B).2])) p5 ((e:Rat) / (B:Rat)):=by
   rw[zdc e B Bn]; exact za1
  have ne:p5≠acc:=fun z=>by rw[z,hac6] at hp5; cases hp5
  refine hC _ _ _ s8 ⟨ds++[p5],by simp,?_,_,rfl⟩;rw[zah eg];exact(hD.keep zba (zdd acc s8)).snoc (zcr g8 ne)
 rintro ys σ2 H6 s6 hac6 _ ⟨ds,rfl,hD,u,rfl⟩;have ld:ds.length=4:=hD.1;rw[show(gap4 B g).take ([g.l,g.d,g.r,g.u].map V.int).length=gap4 B g from rfl] at hD;refine⟨acc,_,rfl,.inl ⟨SqL.of hac6,fun p7 hp7=>?_⟩⟩;have s7:=za3 hp7 (.tup (ds.map V.ref));have g7:(upd H6 p7 (.tup (ds.map V.ref))) p7=some (.tup (ds.map V.ref)):=za1;generalize upd H6 p7 (.tup (ds.map V.ref))=H7 at s7 g7;have s47:=(s5.trans s6).trans s7;refine⟨t,p7,_,_,rfl,rfl,SqT.of (s47 _ _ g4),SqT.of g7,by simp,by rw[List.length_map,ld]; show 5<=sizeLine; decide,(fun z=>by rw[List.map_eq_nil_iff] at z; rw[z] at ld; cases ld),fun _ p8 hp8=>?_⟩;refine q2 g p8 ds _ lk (s03.trans (s4.trans (s47.trans (za3 hp8 _)))) za1 ?_;exact((hD.keep zba (ze1 H6 acc)).keep zba s7).keep zba (za3 hp8 _)
end
def ptR(r:List Rat):Bool:=decide (r.getD 0 0=r.getD 2 0) && decide (r.getD 1 0=r.getD 3 0)
theorem zmk(a b:Rat):decide ([a.num,(a.den:Int)]=[b.num,(b.den:Int)])=decide (a=b):=by
 rw[decide_eq_decide];constructor
 ·intro h;simp only[List.cons.injEq,and_true] at h;exact Rat.ext h.1 (by have:=h.2; omega)
 ·rintro rfl; rfl
theorem tup4{H:Hp}{p:Addr}{r:List Rat}(h:TupR FrR H p r)(n:r.length=4):∃(c0 c1 c2 c3:Addr) (x0 x1 x2 x3:Rat),r=[x0,x1,x2,x3]/\H p=some (.tup [.ref c0,.ref c1,.ref c2,.ref c3])/\FrR H c0 x0/\FrR H c1 x1/\FrR H c2 x2/\FrR H c3 x3:=by
 obtain⟨cs,hp,hC⟩:=h;have lc:cs.length=4:=by rw[hC.1,n]
 match r,n,cs,lc with
 | [x0,x1,x2,x3],_,[c0,c1,c2,c3],_=>exact⟨c0,c1,c2,c3,x0,x1,x2,x3,rfl,hp,hC.2 0 _ _ rfl rfl,hC.2 1 _ _ rfl rfl,hC.2 2 _ _ rfl rfl,hC.2 3 _ _ rfl rfl⟩
section
variable {P:Program} {w:World} {K:PySem.W.Frag} {mg:Str->Option Value} {base:Heap} {f g h f1 f2 f3:Addr} {fd gd hd d1 d2 d3:FuncData}
inductive SpIsPR(vs:List V)(H:Hp)(Q:VK):Prop
 | mk (p:Addr) (r:List Rat) (h_0:vs=[.ref p]) (h_1:TupR FrR H p r) (h_2:r.length=4) (h_3:Q (.bl (ptR r)) H):SpIsPR vs H Q
def spIsP:Sp:=fun vs H Q _=>SpIsPR vs H Q
theorem scIP:FnScope ["rectangle"] ["rectangle"] (defScope zca):=⟨rfl,rfl,rfl,by decide +kernel,rfl,by decide +kernel,by decide +kernel⟩
theorem ok_isp(F:Fun K "is_point" "is_point" zca f fd):FnOk P w K mg base CX0 1 f fd ["rectangle"] spIsP:=by
 refine F.ok scIP (fun vs H Q E h=>?_) (fun cdv A outer s H vs Q E hr h=>?_)
 ·obtain⟨p,r,rfl,_⟩:=h;rfl
 obtain⟨p,r,rfl,hp,n4,q⟩:=h;obtain⟨c0,c1,c2,c3,x0,x1,x2,x3,rfl,hp,h0,h1,h2,h3⟩:=tup4 hp n4;refine⟨_,za6 (zad (zeq (zan (zes hr.units) (za8 (ixT (K:=K)) (pv 0) za4 (fun _ _=>rfl)) (za8 (ixT (K:=K)) (pv 0) za4 (fun _ _=>rfl)) (nomark _)) (zep (zan (zes hr.units) (za8 (ixT (K:=K)) (pv 0) za4 (fun _ _=>rfl)) (za8 (ixT (K:=K)) (pv 0) za4 (fun _ _=>rfl)) (nomark _))))),?_⟩;refine⟨_,rfl,p,_,_,_,rfl,rfl,SqT.of hp,q4_0,_,rfl,p,_,_,_,rfl,rfl,SqT.of hp,q4_2,c0,c2,[x0.num,(x0.den:Int)],[x2.num,(x2.den:Int)],rfl,rfl,h0,h2,_,rfl,?_⟩;rw[zmk];have e:ptR [x0,x1,x2,x3]=(decide (x0=x2) && decide (x1=x3)):=rfl;rw[e] at q;by_cases z:x0=x2
 ·refine iteDT z ?_;refine⟨_,rfl,p,_,_,_,rfl,rfl,SqT.of hp,q4_1,_,rfl,p,_,_,_,rfl,rfl,SqT.of hp,q4_3,c1,c3,[x1.num,(x1.den:Int)],[x3.num,(x3.den:Int)],rfl,rfl,h1,h3,?_⟩;rw[zmk];rw[decide_eq_true z,Bool.true_and] at q;exact q
 ·refine iteDF z ?_;rw[decide_eq_false z,Bool.false_and] at q
  first | exact q | (rw[decide_eq_false z]; exact q)
end
end My
namespace My
open PySem L2 Mth Wd
section
variable {P:Program} {w:World} {K:PySem.W.Frag} {mg:Str->Option Value} {base:Heap} {f g C:Addr} {fd gd:FuncData}
abbrev GivQ(H:Hp)(Q:VK)(q:Rat):Prop:=∀p,H p=none->Q (.ref p) (upd H p (.tup [.int q.num,.int q.den]))
abbrev Sf(q:Rat):Prop:=Sb 3900 3900 q
theorem Sf.n{q:Rat}(h:Sf q):Big q.num:=big2 h.1 (by decide)
theorem Sf.d{q:Rat}(h:Sf q):Big (q.den:Int):=big2 (n:=3900) (by simpa using h.2) (by decide)
theorem Sf.dd{p q:Rat}(h:Sf p)(g:Sf q):Big ((p.den:Int)*(q.den:Int)):=by
 refine big2 (n:=7800) ?_ (by decide);rw[Int.natAbs_mul,Int.natAbs_natCast,Int.natAbs_natCast];exact pmul h.2 g.2
inductive SpBinR(op:Rat->Rat->Rat)(vs:List V)(H:Hp)(Q:VK):Prop
 | mk (p q:Addr) (x y:Rat) (h_0:vs=[.ref p,.ref q]) (h_1:FrR H p x) (h_2:FrR H q y) (h_3:Sf x) (h_4:Sf y) (h_5:GivQ H Q (op x y)):SpBinR op vs H Q
def spBin(op:Rat->Rat->Rat):Sp:=fun vs H Q _=>SpBinR op vs H Q
theorem scMin:FnScope ["one","other"] ["one","other"] (defScope sMinus):=⟨rfl,rfl,rfl,by decide +kernel,rfl,by decide +kernel,by decide +kernel⟩
theorem zof(F:Fun K "minus" "minus" sMinus f fd)(G:FnOk P w K mg base CX0 2 g gd ["top","bottom"] (spFrac C))(bG:Binds K gd ["top","bottom"] [])(kG:PySem.W.keepIn K (.ref g)=true)(mG:mg "fraction" = some (.ref g)):
  FnOk P w K mg base CX0 3 f fd ["one","other"] (spBin fun x y=>x-y):=by
 refine F.ok scMin (fun vs H Q E h=>?_) (fun cdv A outer s H vs Q E hr h=>?_)
 ·obtain⟨p,q,x,y,rfl,_⟩:=h;rfl
 obtain⟨p,q,x,y,rfl,hp,hq,sx,sy,k⟩:=h;refine⟨_,za6 (zad (za7 (CX:=CX0) G hr (by rfl) mG kG bG .nil pass0 (za0 (zaa zav (zaa zdv (za8 zcf (pv 0) za4 (fun _ _=>rfl)) (za8 zcf (pv 1) za4 (fun _ _=>rfl))) (zaa zdv (za8 zcf (pv 1) za4 (fun _ _=>rfl)) (za8 zcf (pv 0) za4 (fun _ _=>rfl)))) (za0 (zaa zdv (za8 zcf (pv 0) za4 (fun _ _=>rfl)) (za8 zcf (pv 1) za4 (fun _ _=>rfl))) za2)))),?_⟩;refine⟨_,rfl,p,_,_,_,rfl,rfl,SqT.of hp,at0,_,rfl,q,_,_,_,rfl,rfl,SqT.of hq,at1,_,_,rfl,rfl,⟨sx.n,sy.d⟩,_,rfl,q,_,_,_,rfl,rfl,SqT.of hq,at0,_,rfl,p,_,_,_,rfl,rfl,SqT.of hp,at1,_,_,rfl,rfl,⟨sy.n,sx.d⟩,_,_,rfl,rfl,
  _,rfl,p,_,_,_,rfl,rfl,SqT.of hp,at1,_,rfl,q,_,_,_,rfl,rfl,SqT.of hq,at1,_,_,rfl,rfl,⟨sx.d,sy.d⟩,_,_,rfl,Sf.dd sx sy,fun z=>absurd z (dnz x y),fun _ t ht=>?_⟩
 have e:=zpq x y;have q1:=k t ht;have e1:=congrArg Prod.fst e;have e2:=congrArg Prod.snd e;simp only[fr] at e1 e2;rw[e1,e2];exact q1
end
end My
namespace My
open PySem L2 Mth Wd Fl
def fqD(q:Rat):PyData:=.tuple [.int q.num,.int (q.den:Int)]
theorem ziq(q:Rat):(fqD q).canLay0=true:=by
 simp only[fqD,PyData.canLay0];refine zbz fun d hd=>?_
 simp only[List.mem_cons,List.not_mem_nil,or_false] at hd;rcases hd with rfl | rfl <;> rfl
theorem zey(q:Rat):(fqD q).depth<=2:=by simp[fqD,PyData.depth,PyData.depthAll]
theorem zo4{H:Hp}{p:Addr}{q:Rat}(h:FrR H p q):RdD H (.ref p) (fqD q):=by
 refine .tup h rfl fun i x d e1 e2=>?_
 match i,e1,e2 with
 | 0,e1,e2=>cases e1; cases e2; exact .int _
 | 1,e1,e2=>cases e1; cases e2; exact .int _
 | n+2,e1,e2=>simp at e1
def covD:PyData:=.tuple [.str "covers"]
theorem zee:covD.canLay0=true:=by first | rfl | decide +kernel | (simp only[covD,PyData.canLay0,PyData.canLayAll0]; decide)
theorem zez:covD.depth<=64:=by first | decide | (simp[covD,PyData.depth,PyData.depthAll])
theorem zku{H:Hp}{p:Addr}(h:H p=some (.tup [.str "covers"])):RdD H (.ref p) covD:=by
 refine .tup h rfl fun i x d e1 e2=>?_
 match i,e1,e2 with
 | 0,e1,e2=>cases e1; cases e2; exact .str _
 | n+1,e1,e2=>simp at e1
def gapD(qs:List Rat):PyData:=.tuple (.str "gap" :: qs.map fqD)
theorem zoo(qs:List Rat):(gapD qs).canLay0=true:=by
 simp only[gapD,PyData.canLay0];refine zbz fun d hd=>?_
 rcases List.mem_cons.mp hd with rfl | hd
 ·first | rfl | decide +kernel | (simp only[PyData.canLay0]; decide)
 ·obtain⟨q,_,rfl⟩:=List.mem_map.mp hd; exact ziq q
theorem zms(qs:List Rat):(gapD qs).depth<=64:=by
 have:=zbq (n:=2) (ds:=.str "gap" :: qs.map fqD) fun d hd=>by
  rcases List.mem_cons.mp hd with rfl | hd
  ·simp[PyData.depth]
  ·obtain⟨q,_,rfl⟩:=List.mem_map.mp hd; exact zey q
 simp only[gapD,PyData.depth]; omega
theorem rd_gap{H:Hp}{p:Addr}{ts:List Addr}{qs:List Rat}(h:H p=some (.tup (.str "gap" :: ts.map V.ref)))(hT:At FrR H ts qs):RdD H (.ref p) (gapD qs):=by
 refine .tup h (by simp[hT.1]) fun i x d e1 e2=>?_
 cases i with
 | zero=>cases e1; cases e2; exact .str _
 | succ i =>
  rw[List.getElem?_cons_succ,List.getElem?_map] at e1 e2;obtain⟨c,ec,rfl⟩:=Option.map_eq_some_iff.mp e1;obtain⟨y,ey,rfl⟩:=Option.map_eq_some_iff.mp e2;exact zo4 (hT.2 i c y ec ey)
theorem gap_ne(qs:List Rat)(h:0<qs.length):PyData.eqv (gapD qs) covD=false:=by
 match qs,h with
 | q :: r,_=>simp[gapD,covD,PyData.eqv,PyData.eqvAll]
open PySem.Spec PyProof.Rows in
theorem zps:PyData.eqv covD covD=true:=SeqAt.eqv_refl _ zee
def tellD(s:Str)(is:List Int):PyData:=.tuple (.str s :: is.map PyData.int)
theorem zon{s:Str}(h:PyData.canLay0 (.str s)=true)(is:List Int):(tellD s is).canLay0=true:=by
 simp only[tellD,PyData.canLay0];refine zbz fun d hd=>?_
 rcases List.mem_cons.mp hd with rfl | hd
 ·exact h
 ·obtain⟨q,_,rfl⟩:=List.mem_map.mp hd; rfl
theorem zmq(s:Str)(is:List Int):(tellD s is).depth<=64:=by
 have:=zbq (n:=2) (ds:=.str s :: is.map PyData.int) fun d hd=>by
  rcases List.mem_cons.mp hd with rfl | hd
  ·simp[PyData.depth]
  ·obtain⟨q,_,rfl⟩:=List.mem_map.mp hd; simp[PyData.depth]
 simp only[tellD,PyData.depth]; omega
theorem zq8{H:Hp}{p:Addr}{s:Str}{is:List Int}(h:H p=some (.tup (.str s :: is.map V.int))):RdD H (.ref p) (tellD s is):=by
 refine .tup h (by simp) fun i x d e1 e2=>?_
 cases i with
 | zero=>cases e1; cases e2; exact .str _
 | succ i =>
  rw[List.getElem?_cons_succ,List.getElem?_map] at e1 e2;obtain⟨c,ec,rfl⟩:=Option.map_eq_some_iff.mp e1;obtain⟨y,ey,rfl⟩:=Option.map_eq_some_iff.mp e2;rw[ec] at ey;obtain rfl:=Option.some.inj ey;exact .int _
theorem zq3(s:Str)(is:List Int)(h:0<is.length):PyData.eqv (tellD s is) covD=false:=by
 match is,h with
 | q :: r,_=>simp[tellD,covD,PyData.eqv,PyData.eqvAll]
theorem Look.told{m n:Int}{bs:List Box}{ws:List V}(h:Look m n bs ws):ws=[.str "covers"]\/(∃(s:Str) (is:List Int),ws=.str s :: is.map V.int/\0<is.length/\s≠"gap"/\PyData.canLay0 (.str s)=true)\/∃g,ws=.str "gap" :: boxV g:=by
 cases h with
 | no k=>exact .inr (.inl ⟨"no",[(k:Int)],rfl,Nat.succ_pos _,by decide,by first | rfl | decide +kernel | (simp only[PyData.canLay0]; decide)⟩)
 | out k=>exact .inr (.inl ⟨"out",[(k:Int)],rfl,Nat.succ_pos _,by decide,by first | rfl | decide +kernel | (simp only[PyData.canLay0]; decide)⟩)
 | ov j k=>exact .inr (.inl ⟨"overlap",[(j:Int),(k:Int)],rfl,Nat.succ_pos _,by decide,by first | rfl | decide +kernel | (simp only[PyData.canLay0]; decide)⟩)
 | gap b=>exact .inr (.inr ⟨b,rfl⟩)
 | cov=>exact .inl rfl
theorem Fst.no{bs:List Box}{j k:Nat}(f:Fst bs j k)(n:NoOv bs):False:=by
 obtain⟨a,b,e1,e2,o⟩:=f.at_;obtain⟨hi,rfl⟩:=List.getElem?_eq_some_iff.mp e1;obtain⟨hj,rfl⟩:=List.getElem?_eq_some_iff.mp e2
 have:=List.pairwise_iff_getElem.mp n j k hi hj f.lt
 rw[this] at o; cases o
theorem Fst.same{bs:List Box}{j k j' k':Nat}(f:Fst bs j k)(g:Fst bs j' k'):j=j'/\k=k':=by
 obtain⟨a,b,e1,e2,o⟩:=f.at_;obtain⟨a',b',e1',e2',o'⟩:=g.at_;have l1:¬(j<j'\/(j=j'/\k<k')):=fun z=>by
  have:=g.none_ j k a b f.lt e1 e2 z
  rw[this] at o; cases o
 have l2:¬(j' < j\/(j'=j/\k' < k)):=fun z=>by
  have:=f.none_ j' k' a' b' g.lt e1' e2' z
  rw[this] at o'; cases o'
 omega
theorem zcg{bs:List Box}{p:Box->Bool}{k:Nat}{b:Box}(e:bs[k]?=some b)(t:p b=true)(n:∀b∈bs,p b=false):False:=by
 rw[n b (List.mem_of_getElem? e)] at t; cases t
theorem zj1 {bs:List Box} {p:Box->Bool} {k k2:Nat} {b b2:Box} (e:bs[k]?=some b) (t:p b=true) (n:∀k' b',k' < k->bs[k']?=some b'->p b'=false)
  (e2:bs[k2]?=some b2) (t2:p b2=true) (n2:∀k' b',k' < k2->bs[k']?=some b'->p b'=false):k=k2:=by
 rcases Nat.lt_trichotomy k k2 with z | z | z
 ·rw[n2 k b z e] at t; cases t
 ·exact z
 ·rw[n k2 b2 z e2] at t2; cases t2
theorem Look.uniq{m n:Int}{bs:List Box}{ws vs:List V}(h:Look m n bs ws)(g:Look m n bs vs):ws=vs:=by
 cases h with
 | no k b e t f =>
  cases g with
  | no k2 b2 e2 t2 f2=>rw[zj1 e t f e2 t2 f2]
  | out k2 b2 a=>exact(zcg e t a).elim
  | ov j k2 a=>exact(zcg e t a).elim
  | gap c xs ys a=>exact(zcg e t a).elim
  | cov xs ys a=>exact(zcg e t a).elim
 | out k b a e t f =>
  cases g with
  | no k2 b2 e2 t2 f2=>exact(zcg e2 t2 a).elim
  | out k2 b2 _ e2 t2 f2=>rw[zj1 e t f e2 t2 f2]
  | ov j k2 _ o=>exact(zcg e t o).elim
  | gap c xs ys _ o=>exact(zcg e t o).elim
  | cov xs ys _ o=>exact(zcg e t o).elim
 | ov j k a o f =>
  cases g with
  | no k2 b2 e2 t2 f2=>exact(zcg e2 t2 a).elim
  | out k2 b2 _ e2 t2 f2=>exact(zcg e2 t2 o).elim
  | ov j2 k2 _ _ f2=>obtain⟨rfl,rfl⟩:=Fst.same f f2; rfl
  | gap c xs ys _ _ z=>exact(Fst.no f z).elim
  | cov xs ys _ _ z=>exact(Fst.no f z).elim
 | gap b xs ys a o z b1 b2 e =>
  cases g with
  | no k2 c2 e2 t2 f2=>exact(zcg e2 t2 a).elim
  | out k2 c2 _ e2 t2 f2=>exact(zcg e2 t2 o).elim
  | ov j2 k2 _ _ f2=>exact(Fst.no f2 z).elim
  | gap c xs2 ys2 _ _ _ d1 d2 e2 =>
   rw[b1.uniq d1,b2.uniq d2,e2] at e;cases e; rfl
  | cov xs2 ys2 _ _ _ d1 d2 e2 =>
   rw[b1.uniq d1,b2.uniq d2,e2] at e;cases e
 | cov xs ys a o z b1 b2 e =>
  cases g with
  | no k2 c2 e2 t2 f2=>exact(zcg e2 t2 a).elim
  | out k2 c2 _ e2 t2 f2=>exact(zcg e2 t2 o).elim
  | ov j2 k2 _ _ f2=>exact(Fst.no f2 z).elim
  | gap c xs2 ys2 _ _ _ d1 d2 e2 =>
   rw[b1.uniq d1,b2.uniq d2,e2] at e;cases e
  | cov xs2 ys2 _ _ _ d1 d2 e2=>rfl
inductive LkD(m n B:Int)(bs:List Box):PyData->Prop
 | cov:Look m n bs [.str "covers"]->LkD m n B bs covD
 | tell (s:Str) (is:List Int):Look m n bs (.str s :: is.map V.int)->0<is.length->s≠"gap"->PyData.canLay0 (.str s)=true->LkD m n B bs (tellD s is)
 | gap (g:Box):Look m n bs (.str "gap" :: boxV g)->LkD m n B bs (gapD (gap4 B g))
theorem zlr:∀{a b:List Int},a.map V.int=b.map V.int->a=b
 | [],[],_=>rfl
 | [],_ :: _,h=>by cases h
 | _ :: _,[],h=>by cases h
 | x :: a,y :: b,h=>by
  simp only[List.map_cons,List.cons.injEq,V.int.injEq] at h;rw[h.1,zlr h.2]
theorem LkD.uniq{m n B:Int}{bs:List Box}{D E:PyData}(h:LkD m n B bs D)(g:LkD m n B bs E):D=E:=by
 cases h with
 | cov l =>
  cases g with
  | cov=>rfl
  | tell s is l2 h1 =>
   have:=Look.uniq l l2
   simp only[List.cons.injEq] at this;rw[List.map_eq_nil_iff.mp this.2.symm] at h1;exact absurd h1 (by decide)
  | gap g l2 =>
   have:=Look.uniq l l2
   simp[boxV] at this
 | tell s is l h1 h2 =>
  cases g with
  | cov l2 =>
   have:=Look.uniq l2 l
   simp only[List.cons.injEq] at this;rw[List.map_eq_nil_iff.mp this.2.symm] at h1;exact absurd h1 (by decide)
  | tell s2 is2 l2 =>
   have:=Look.uniq l l2
   simp only[List.cons.injEq,V.str.injEq] at this;rw[this.1,zlr this.2]
  | gap g l2 =>
   have:=Look.uniq l l2
   simp only[List.cons.injEq,V.str.injEq] at this;exact absurd this.1 h2
 | gap c l =>
  cases g with
  | cov l2 =>
   have:=Look.uniq l2 l
   simp[boxV] at this
  | tell s2 is2 l2 h1 h2 =>
   have:=Look.uniq l2 l
   simp only[List.cons.injEq,V.str.injEq] at this;exact absurd this.1 h2
  | gap d l2 =>
   have:=Look.uniq l l2
   simp only[boxV,List.cons.injEq,V.int.injEq,true_and,and_true] at this;obtain⟨e1,e2,e3,e4⟩:=this;unfold gap4;rw[e1,e2,e3,e4]
theorem LkD.lay{m n B:Int}{bs:List Box}{D:PyData}(h:LkD m n B bs D):D.canLay0=true/\D.depth<=64:=by
 cases h with
 | cov=>exact⟨zee,zez⟩
 | tell s is _ _ _ hl=>exact⟨zon hl is,zmq s is⟩
 | gap g=>exact⟨zoo _,zms _⟩
theorem LkD.eq{m n B:Int}{bs:List Box}{D:PyData}(h:LkD m n B bs D):(D=covD/\Look m n bs [.str "covers"]/\PyData.eqv D covD=true)\/(PyData.eqv D covD=false/\¬Look m n bs [.str "covers"]):=by
 cases h with
 | cov l=>exact .inl ⟨rfl,l,zps⟩
 | tell s is l h1 h2 =>
  refine .inr ⟨zq3 s is h1,fun l2=>?_⟩
  have:=Look.uniq l2 l
  simp only[List.cons.injEq] at this;rw[List.map_eq_nil_iff.mp this.2.symm] at h1;exact absurd h1 (by decide)
 | gap g l =>
  refine .inr ⟨gap_ne _ (by show 0<4; decide),fun l2=>?_⟩
  have:=Look.uniq l2 l
  simp[boxV] at this
abbrev LkF(W U:Rat)(rows:List (List Rat))(D:PyData):Prop:=LkD (wh (cb (nums W U rows)) W) (wh (cb (nums W U rows)) U) (cb (nums W U rows)) (boxesW (cb (nums W U rows)) rows) D
section
variable {P:Program} {w:World} {K:PySem.W.Frag} {mg:Str->Option Value} {base:Heap} {f g h C0 f1 f2 f3 f4 f5 fI CN:Addr} {fd gd hd d1 d2 d3 d4 d5 dI:FuncData}
theorem zqw{H:Hp}{Q:VK}{E:XK}{a:Addr}{W U:Rat}{rows:List (List Rat)}(hF:FloorR H a W U rows)(k:LkK W U rows)(q:∀o D H',Same H H'->LkF W U rows D->RdD H' (.ref o) D->Q (.ref o) H'):spLk [.ref a] H Q E:=by
 refine⟨a,W,U,rows,rfl,hF,k,fun ws p H' lk ng s' hp=>?_,fun g p ts H' lk s' hp hT=>?_⟩
 ·rcases Look.told lk with rfl | ⟨s,is,rfl,h1,h2,h3⟩ | ⟨g,rfl⟩
  ·exact q p _ H' s' (.cov lk) (zku hp)
  ·exact q p _ H' s' (.tell s is lk h1 h2 h3) (zq8 hp)
  ·exact absurd rfl ng
 ·exact q p _ H' s' (.gap g lk) (rd_gap hp hT)
end
theorem zjo{H1 H2:Hp}{e:Addr}{o1:HO}(he:H1 e=none)(k:∀b o,b≠e->(upd H1 e o1) b=some o->H2 b=some o):Same H1 (del H2 e):=fun b o q=>by
 have ne:b≠e:=ne_of_none q he;rw[zdf ne];exact k b o ne (by rw[upd_ne ne]; exact q)
abbrev bmV:List Value:=[.type "ValueError",.type "Exception",.type "BaseException",.type "object"]
def X1(C:Addr)(fl:Str)(H:Hp)(E:XK)(y:V):Prop:=∀d H',Same H H'->H' d=some (.xd [(fl,y)])->E (.ref C) (some d) H'
def sp1(C:Addr)(fl:Str):Sp:=fun vs H Q _=>∃(e t:Addr) (y:V),vs=[.ref e,y]/\H e=some (excN e C t)/\∀d H',H d=none->H' e=some (excF e C t d)->H' d=some (.xd [(fl,y)])->(∀b o,b≠e->H b=some o->H' b=some o)->Q .non H'
theorem rz1{C:Addr}{fl:Str}{H:Hp}{E:XK}{y:V}(q:X1 C fl H E y):([y]:List V).length<=sizeLine/\∀e t,H e=none->sp1 C fl (.ref e :: [y]) (upd H e (excN e C t)) (fun v H2=>v=.non/\∃d,H2 e=some (excF e C t d)/\E (.ref C) (some d) (del H2 e)) E0:=by
 refine⟨by show 1<=sizeLine; decide,fun e t he=>?_⟩;refine⟨e,t,y,rfl,za1,fun d H' _ h1 h2 h3=>⟨rfl,d,h1,q d _ (zjo he h3) ?_⟩⟩;exact zcr h2 fun z=>by rw[z,h1] at h2; cases h2
theorem X1.mono{C:Addr}{fl:Str}{H H':Hp}{E:XK}{y:V}(q:X1 C fl H E y)(s:Same H H'):X1 C fl H' E y:=fun d H2 s2 h=>q d H2 (s.trans s2) h
theorem zg6:bootBuiltins "ValueError" = some (.type "ValueError"):=by decide +kernel
section
variable {P:Program} {w:World} {K:PySem.W.Frag} {mg:Str->Option Value} {base:Heap} {f g h C0 f1 f2 f3 f4 f5 fI CF CN CM:Addr} {fd gd hd d1 d2 d3 d4 d5 dI:FuncData}
theorem init1{fl:Str}{H:Hp}{Q:VK}{e C t:Addr}{y:V}(x1:XStore K C fl)(he:H e=some (excN e C t))(q:∀d H',H d=none->H' e=some (excF e C t d)->H' d=some (.xd [(fl,y)])->(∀b o,b≠e->H b=some o->H' b=some o)->Q .non H'):sFldX K (tVar 0) (tVar 1) fl { nx:=fun _ H'=>Q .non H',rt:=Q } [some (.ref e),some y] H:=by
 refine⟨_,rfl,_,rfl,e,C,t,rfl,he,x1,fun d hd=>?_⟩;have ed:e≠d:=ne_of_none he hd;refine q d _ hd ?_ za1 fun b o n e'=>?_
 ·rw[upd_ne ed,za1]
 ·rw[upd_ne (ne_of_none e' hd),upd_ne n];exact e'
theorem scNoI:FnScope ["self","found"] ["self","found"] (defScope sNoFInit):=⟨rfl,rfl,rfl,by decide +kernel,rfl,by decide +kernel,by decide +kernel⟩
theorem zqk{C:Addr}(F:Fun K "__init__" "NoFloor.__init__" sNoFInit f fd)(x1:XStore K C "found"):FnOk P w K mg base CX0 1 f fd ["self","found"] (sp1 C "found"):=by
 refine F.ok scNoI (fun vs H Q E h=>?_) (fun cdv A outer s H vs Q E hr h=>?_)
 ·obtain⟨e,t,y,rfl,_⟩:=h;rfl
 obtain⟨e,t,y,rfl,he,q⟩:=h;exact⟨_,za6 (zhm (pv 0) (pv 1) rfl),init1 x1 he q⟩
inductive SpChkR(CN:Addr)(vs:List V)(H:Hp)(Q:VK)(E:XK):Prop
 | mk (a:Addr) (W U:Rat) (rows:List (List Rat)) (h_0:vs=[.ref a]) (h_1:FloorR H a W U rows) (h_2:LkK W U rows) (h_3:LkF W U rows covD->∀H',Same H H'->Q .non H') (h_4:∀D o H',LkF W U rows D->PyData.eqv D covD=false->Same H H'->RdD H' (.ref o) D->X1 CN "found" H' E (.ref o)):SpChkR CN vs H Q E
def spChk(CN:Addr):Sp:=fun vs H Q E=>SpChkR CN vs H Q E
theorem scCk:FnScope ["floor","found"] ["floor"] (defScope zb3):=⟨rfl,rfl,rfl,by decide +kernel,rfl,by decide +kernel,by decide +kernel⟩
set_option maxHeartbeats 4000000 in
theorem zoh (F:Fun K "check_covers" "check_covers" zb3 f fd) (G:FnOk P w K mg base CX0 4 g gd ["floor"] spLk) (bG:Binds K gd ["floor"] []) (kG:PySem.W.keepIn K (.ref g)=true) (mG:mg "looked" = some (.ref g))
  (GI:FnOk P w K mg base CX0 1 fI dI ["self","found"] (sp1 CN "found")) (bI:Binds K dI ["self","found"] []) (iI:PySem.W.isFn K (.ref fI)=true) (mC:mg "NoFloor" = some (.ref CN)) (xC:excI K CN bmV "ValueError.__new__" fI=true):FnOk P w K mg base (CXr P w) 5 f fd ["floor"] (spChk CN):=by
 refine okX F scCk (fun vs H Q E h=>?_) (fun cdv A outer s H vs Q E hr h=>?_)
 ·obtain⟨a,W,U,rows,rfl,_⟩:=h;rfl
 obtain⟨a,W,U,rows,rfl,hF,k,q1,q2⟩:=h;refine⟨_,za5 (za9 (i:=1) scCk.nd rfl (Or.inl rfl) (za7 G hr (by rfl) mG kG bG .nil pass0 (za0 (pv 0) za2)))
  (za6 (zaw (zaf (zpl hr.units) (pv 1) (zac (za0 zc1 za2)) (nomark _)) (za6 (zdm (by rfl) mC xC PySem.F.excBase_ValueError rfl zd9 GI (hr.mono (by decide)) bI iI (za0 (pv 1) za2))) zaj)),?_⟩
 refine⟨_,rfl,zqw (E:=E0) hF k fun o D H1 s1 lk rd=>?_⟩;refine⟨_,rfl,by show 1<=sizeLine; decide,fun c hc=>?_⟩;have s2:=za3 hc (.tup [.str "covers"]);have hc2:upd H1 c (.tup [.str "covers"]) c=some (.tup [.str "covers"]):=za1;generalize upd H1 c (.tup [.str "covers"])=H2 at s2 hc2;refine⟨D,covD,rd.keep s2,zku hc2,lk.lay,⟨zee,zez⟩,_,rfl,?_⟩;rcases lk.eq with ⟨e,l,z⟩ | ⟨z,_⟩
 ·rw[z];exact iteF (q1 (.cov l) _ (s1.trans s2))
 ·rw[z];exact iteT ⟨_,rfl,rz1 (q2 D o H2 lk z (s1.trans s2) (rd.keep s2))⟩
end
end My
namespace My
open PySem L2 Mth
def PcR(H:Hp)(b:Addr)(p:Pc):Prop:=H b=some (.tup [.int p.1,.int p.2.1,.int p.2.2])
theorem zdy:Mo PcR:=fun s h=>s _ _ h
theorem zi7{b:List Pc}{i:Nat}(h:i<b.length):b[i]?=some (b.getD i pd):=by rw[List.getD_eq_getElem?_getD,List.getElem?_eq_getElem h]; rfl
theorem zni{xs:List V}{q:V}:atI (xs++[q]) (-1)=some q:=by
 unfold atI ixN;rw[if_neg (by decide),if_pos (by simp; omega)];have e:(-1+(((xs++[q]).length:Nat):Int)).toNat=xs.length:=by simp; omega
 show(xs++[q])[(-1+(((xs++[q]).length:Nat):Int)).toNat]?=some q;rw[e];simp
theorem zow{xs:List V}{q:V}:ixN (xs++[q]).length (-1)=some xs.length:=by
 unfold ixN;rw[if_neg (by decide),if_pos (by simp; omega)];congr 1;simp; omega
theorem znx{xs:List V}{q v:V}:(xs++[q]).set xs.length v=xs++[v]:=by simp
theorem at_upd{α:Type}{R:Hp->Addr->α->Prop}{H:Hp}{l:Addr}{ys:List V}{o:HO}{gs:List Addr}{us:List α}(hR:∀{b:Addr} {x:α},R H b x->b≠l->R (upd H l o) b x)(hl:H l=some (.lst ys))(ht:∀{b:Addr} {x:α},R H b x->H b≠some (.lst ys))(h:At R H gs us):At R (upd H l o) gs us:=⟨h.1,fun i b x e1 e2=>hR (h.2 i b x e1 e2) fun z=>ht (h.2 i b x e1 e2) (by rw[z]; exact hl)⟩
theorem zfw{H:Hp}{l:Addr}{ys:List V}{o:HO}{gs:List Addr}{us:List Pc}(hl:H l=some (.lst ys))(h:At PcR H gs us):At PcR (upd H l o) gs us :=
 at_upd (R:=PcR) (fun {b x} h z=>by unfold PcR at h ⊢; rw[upd_ne z]; exact h) hl (fun {b x} h z=>by unfold PcR at h; rw[h] at z; cases z) h
section
variable {P:Program} {w:World} {K:PySem.W.Frag} {mg:Str->Option Value} {base:Heap} {f g h f1 f2 f3 f4:Addr} {fd gd hd d1 d2 d3 d4:FuncData}
inductive SpHighR(vs:List V)(H:Hp)(Q:VK):Prop
 | mk (a:Addr) (b:List Pc) (h_0:vs=[.ref a]) (h_1:LstR PcR H a b) (h_2:b≠[]) (h_3:∀H',Same H H'->Q (.int ((highF b:Nat):Int)) H'):SpHighR vs H Q
def spHigh:Sp:=fun vs H Q _=>SpHighR vs H Q
theorem scHi:FnScope ["border","found","k","piece"] ["border"] (defScope zcn):=⟨rfl,rfl,rfl,by decide +kernel,rfl,by decide +kernel,by decide +kernel⟩
theorem zqq(F:Fun K "highest" "highest" zcn f fd)(me:mg "enumerate" = none):FnOk P w K mg base CX0 1 f fd ["border"] spHigh:=by
 refine F.ok scHi (fun vs H Q E h=>?_) (fun cdv A outer s H vs Q E hr h=>?_)
 ·obtain⟨a,b,rfl,_⟩:=h;rfl
 obtain⟨a,b,rfl,⟨cs,ha,hB⟩,hb,q⟩:=h;refine⟨_,za5 (za9 (i:=1) scHi.nd rfl (Or.inl rfl) za4)
  (za5 (zb9 PassesOwn.never rfl (zdo (by rfl) me (za0 (pv 0) za2)) (pgTup (n:=2) (K:=K) rfl (zae (zab (i:=2) scHi.nd rfl (Or.inl rfl)) (zae (zab (i:=3) scHi.nd rfl (Or.inl rfl)) zbd)))
   (za6 (zaw (zaf zde (za8 (ixT (K:=K)) (pv 3) za4 (fun _ _=>rfl)) (za8 (ixT (K:=K)) (za8 (ixL (K:=K)) (pv 0) (pv 1) (fun _ _=>rfl)) za4 (fun _ _=>rfl)) (nomark _)) (za6 (za9 (i:=1) scHi.nd rfl (Or.inl rfl) (pv 2))) zaj)))
  (za6 (zad (pv 1)))),?_⟩
 refine⟨_,rfl,a,_,rfl,ha,?_⟩;refine zd4 (xs:=cs.map V.ref) (fun i σ H2=>∃u v,σ=[some (.ref a),some (.int ((hiF b i:Nat):Int)),u,v]/\Same H H2) ⟨none,none,rfl,Same.refl _⟩ (fun i σ H2 _ ⟨_,_,_,s2⟩=>s2 _ _ ha) ?_ ?_
 ·rintro i x σ H2 p hx ⟨u,v,rfl,s2⟩ hp;obtain⟨c,pc,rfl,hc,hy,hC⟩:=hB.ref hx;have s3:=s2.trans (za3 hp (.tup [.int i,.ref c]));refine⟨p,_,rfl,SqT.of za1,rfl,_,_,rfl,_,_,rfl,rfl,?_⟩;generalize upd H2 p (.tup [.int i,.ref c])=H3 at s3;have hi:i<b.length:=(List.getElem?_eq_some_iff.mp hy).1;have hf:=zfk hb i (by omega);obtain⟨d,hd,hD⟩:=hB.get (zi7 hf);have ey:b.getD i pd=pc:=by rw[List.getD_eq_getElem?_getD,hy]; rfl
  refine⟨_,rfl,c,_,_,_,rfl,rfl,SqT.of (s3 _ _ hC),t3_2 _ _ _,_,rfl,_,rfl,a,_,_,_,rfl,rfl,SqL.of (s3 _ _ ha),zak (zeo hd),d,_,_,_,rfl,rfl,SqT.of (s3 _ _ hD),t3_2 _ _ _,_,_,rfl,rfl,_,rfl,?_⟩;have e2:hiF b (i+1)=if (b.getD (hiF b i) pd).2.2<(b.getD i pd).2.2 then i else hiF b i:=rfl
  rw[ey] at e2;by_cases hlt:(b.getD (hiF b i) pd).2.2<pc.2.2
  ·refine iteDT hlt ⟨_,rfl,?_⟩;rw[if_pos hlt] at e2;exact⟨_,_,by rw[e2]; rfl,s3⟩
  ·refine iteDF hlt ?_;rw[if_neg hlt] at e2;exact⟨_,_,by rw[e2]; rfl,s3⟩
 ·rintro σ H2 ⟨u,v,rfl,s2⟩;refine⟨_,rfl,?_⟩;rw[List.length_map,hB.1];exact q H2 s2
inductive SpJoinR(vs:List V)(H:Hp)(Q:VK):Prop
 | mk (a:Addr) (ps:List Pc) (h_0:vs=[.ref a]) (h_1:LstR PcR H a ps) (h_2:ps.length<=1000) (h_3:∀l H',Same H H'->LstR PcR H' l (joinF ps)->Q (.ref l) H'):SpJoinR vs H Q
def spJoin:Sp:=fun vs H Q _=>SpJoinR vs H Q
theorem scJn:FnScope ["pieces","border","left","right","level"] ["pieces"] (defScope zas):=⟨rfl,rfl,rfl,by decide +kernel,rfl,by decide +kernel,by decide +kernel⟩
theorem zqn(F:Fun K "joined_pieces" "joined_pieces" zas f fd):FnOk P w K mg base CX0 1 f fd ["pieces"] spJoin:=by
 refine F.ok scJn (fun vs H Q E h=>?_) (fun cdv A outer s H vs Q E hr h=>?_)
 ·obtain⟨a,b,rfl,_⟩:=h;rfl
 obtain⟨a,ps,rfl,⟨cs,ha,hB⟩,hl,q⟩:=h;refine⟨_,za5 (za9 (i:=1) scJn.nd rfl (Or.inl rfl) (zbl za2))
  (za5 (zb9 PassesOwn.never rfl (piLst (K:=K) (pv 0)) (pgTup (n:=3) (K:=K) rfl (zae (zab (i:=2) scJn.nd rfl (Or.inl rfl)) (zae (zab (i:=3) scJn.nd rfl (Or.inl rfl)) (zae (zab (i:=4) scJn.nd rfl (Or.inl rfl)) zbd))))
   (za6 (zaw (PW.pt (zgg (zo5 (pv 1) (fun _=>rfl)) (zft (zaf zcj (za8 (ixT (K:=K)) (za8 (ixL (K:=K)) (pv 1) (zhp zej za4) (fun _ _=>rfl)) za4 (fun _ _=>rfl)) (pv 4) (nomark _)))))
    (za6 (ze5 (zac (za0 (za8 (ixT (K:=K)) (za8 (ixL (K:=K)) (pv 1) (zhp zej za4) (fun _ _=>rfl)) za4 (fun _ _=>rfl)) (za0 (pv 3) (za0 (pv 4) za2)))) (zl3 (pv 1) (zhp zej za4) zfr)))
    (za6 (zdg (zd2 K PySem.F.plainAttrs_list PySem.F.slot_list_append PySem.F.type_list_append zcq (pv 1) (za0 (zac (za0 (pv 2) (za0 (pv 3) (za0 (pv 4) za2)))) za2)))))))
  (za6 (zad (pv 1)))),?_⟩
 refine⟨by show 0<=sizeLine; decide,fun L hL=>?_⟩;have sL:=za3 hL (.lst []);have eL:(upd H L (.lst [])) L=some (.lst (([]:List Addr).map V.ref)):=za1;generalize upd H L (.lst [])=H1 at sL eL;refine⟨_,rfl,a,rfl,⟨_,SqL.of (sL _ _ ha)⟩,?_⟩;refine zg1 (xs:=cs.map V.ref) (fun i σ H2=>∃u v w gs,σ=[some (.ref a),some (.ref L),u,v,w]/\Same H H2/\H2 L=some (.lst (gs.map V.ref))/\At PcR H2 gs (joinF (ps.take i))) ⟨none,none,none,[],rfl,sL,eL,At.nil⟩ (fun i σ H2 _ ⟨_,_,_,_,_,s2,_⟩=>SqL.of (s2 _ _ ha)) ?_ ?_
 ·rintro i x σ H2 hx ⟨u,v,w',gs,rfl,s2,eL2,aG⟩;obtain⟨c,pc,rfl,hc,hy,hC⟩:=hB.ref hx;have hi:i<ps.length:=(List.getElem?_eq_some_iff.mp hy).1;have hC2:H2 c=some (.tup [.int pc.1,.int pc.2.1,.int pc.2.2]):=s2 _ _ hC;refine⟨c,_,rfl,SqT.of hC2,rfl,_,_,rfl,_,_,rfl,_,_,rfl,rfl,?_⟩;have ej:joinF (ps.take (i+1))=jnS (joinF (ps.take i)) pc:=by
   show(ps.take (i+1)).foldl jnS []=jnS ((ps.take i).foldl jnS []) pc;rw[zek hy,List.foldl_append];rfl
  have jl:=ziu (ps.take i);rw[List.length_take] at jl;have gl:=aG.1;have szg:(gs.map V.ref).length<sizeLine:=by rw[List.length_map,gl]; exact szl (by omega)
  rcases zc6 (joinF (ps.take i)) with hz | ⟨a0,q0,hz⟩
  ·rw[hz] at aG ej gl
   have:gs=[]:=List.length_eq_zero_iff.mp gl
   subst this;refine⟨_,rfl,false,.inl ⟨_,SqL.of eL2,rfl⟩,iteF (iteF ?_)⟩;refine⟨_,rfl,.inl ⟨rfl,_,SqL.of eL2⟩,_,rfl,_,rfl,_,rfl,by show 3<=sizeLine; decide,fun np hnp=>?_⟩;have s3:=za3 hnp (.tup [.int pc.1,.int pc.2.1,.int pc.2.2]);have e3:PcR (upd H2 np (.tup [.int pc.1,.int pc.2.1,.int pc.2.2])) np pc:=za1;generalize upd H2 np (.tup [.int pc.1,.int pc.2.1,.int pc.2.2])=H3 at s3 e3;refine⟨L,_,_,rfl,rfl,s3 _ _ eL2,szg,?_⟩;refine⟨_,_,_,[np],rfl,(s2.trans s3).up hL _,by rw[za1]; rfl,?_⟩;rw[ej];exact zfw (s3 _ _ eL2) (At.nil.snoc e3)
  ·rw[hz] at aG ej gl;rcases zc6 gs with rfl | ⟨g0,gq,rfl⟩
   ·simp at gl
   have hq:PcR H2 gq q0:=aG.2 a0.length gq q0 (by simp at gl; rw[List.getElem?_append_right (by omega),gl]; simp) (by simp);have a00:At PcR H2 g0 a0:=⟨by simpa using gl,fun j bb x e1 e2=>aG.2 j bb x (by rw[List.getElem?_append_left (List.getElem?_eq_some_iff.mp e1).1]; exact e1) (by rw[List.getElem?_append_left (List.getElem?_eq_some_iff.mp e2).1]; exact e2)⟩;have em:(g0++[gq]).map V.ref=g0.map V.ref++[.ref gq]:=by simp
   rw[em] at eL2 szg;have hq':H2 gq=some (.tup [.int q0.1,.int q0.2.1,.int q0.2.2]):=hq;refine⟨_,rfl,true,.inl ⟨_,SqL.of eL2,by simp⟩,iteT ?_⟩;refine⟨_,rfl,_,rfl,L,_,_,_,rfl,rfl,SqL.of eL2,zni,gq,_,_,_,rfl,rfl,SqT.of hq',t3_2 _ _ _,_,rfl,rfl,_,rfl,?_⟩;rw[zdq] at ej;by_cases heq:q0.2.2=pc.2.2
   ·rw[if_pos heq] at ej;refine iteDT (iv heq) ?_;refine⟨_,rfl,_,rfl,L,_,_,_,rfl,rfl,SqL.of eL2,zni,gq,_,_,_,rfl,rfl,SqT.of hq',t3_0 _ _ _,_,rfl,_,rfl,by show 3<=sizeLine; decide,fun np hnp=>?_⟩;have s3:=za3 hnp (.tup [.int q0.1,.int pc.2.1,.int pc.2.2]);have e3:PcR (upd H2 np (.tup [.int q0.1,.int pc.2.1,.int pc.2.2])) np (q0.1,pc.2.1,pc.2.2):=za1;generalize upd H2 np (.tup [.int q0.1,.int pc.2.1,.int pc.2.2])=H3 at s3 e3;refine⟨_,rfl,_,rfl,L,_,_,_,rfl,rfl,s3 _ _ eL2,zow,?_⟩;rw[znx];refine⟨_,_,_,g0++[np],rfl,(s2.trans s3).up hL _,by rw[za1]; simp,?_⟩;rw[ej];exact zfw (s3 _ _ eL2) ((a00.keep zdy s3).snoc e3)
   ·rw[if_neg heq] at ej;refine iteDF (ivn heq) ?_;refine⟨_,rfl,.inl ⟨rfl,_,SqL.of eL2⟩,_,rfl,_,rfl,_,rfl,by show 3<=sizeLine; decide,fun np hnp=>?_⟩;have s3:=za3 hnp (.tup [.int pc.1,.int pc.2.1,.int pc.2.2]);have e3:PcR (upd H2 np (.tup [.int pc.1,.int pc.2.1,.int pc.2.2])) np pc:=za1;generalize upd H2 np (.tup [.int pc.1,.int pc.2.1,.int pc.2.2])=H3 at s3 e3;refine⟨L,_,_,rfl,rfl,s3 _ _ eL2,szg,?_⟩;refine⟨_,_,_,g0++[gq]++[np],rfl,(s2.trans s3).up hL _,by rw[za1]; simp,?_⟩;rw[ej];exact zfw (s3 _ _ eL2) ((aG.keep zdy s3).snoc e3)
 ·rintro σ H2 ⟨u,v,w',gs,rfl,s2,eL2,aG⟩;rw[List.length_map,hB.1,List.take_of_length_le (Nat.le_refl _)] at aG;exact⟨_,rfl,q L H2 s2 ⟨gs,eL2,aG⟩⟩
inductive SpHungR(vs:List V)(H:Hp)(Q:VK):Prop
 | mk (a:Addr) (b:List Pc) (z:Int) (h_0:vs=[.ref a,.int z]) (h_1:LstR PcR H a b) (h_2:b≠[]) (h_3:b.length<=500) (h_4:(hungF b z=none->∀H',Same H H'->Q .non H')) (h_5:(∀c,hungF b z=some c->∀l H',Same H H'->LstR PcR H' l c->Q (.ref l) H')):SpHungR vs H Q
def spHung:Sp:=fun vs H Q _=>SpHungR vs H Q
theorem scHu:FnScope ["border","size","at","left","right","level","pieces"] ["border","size"] (defScope zfd):=⟨rfl,rfl,rfl,by decide +kernel,rfl,by decide +kernel,by decide +kernel⟩
theorem zqp (F:Fun K "hung" "hung" zfd f fd) (G1:FnOk P w K mg base CX0 1 f1 d1 ["border"] spHigh) (b1:Binds K d1 ["border"] []) (k1:PySem.W.keepIn K (.ref f1)=true) (m1:mg "highest" = some (.ref f1))
  (G2:FnOk P w K mg base CX0 1 f2 d2 ["pieces"] spJoin) (b2:Binds K d2 ["pieces"] []) (k2:PySem.W.keepIn K (.ref f2)=true) (m2:mg "joined_pieces" = some (.ref f2)):FnOk P w K mg base CX0 2 f fd ["border","size"] spHung:=by
 refine F.ok scHu (fun vs H Q E h=>?_) (fun cdv A outer s H vs Q E hr h=>?_)
 ·obtain⟨a,b,z,rfl,_⟩:=h;rfl
 obtain⟨a,b,z,rfl,⟨cs,ha,hB⟩,hb,hl,q1,q2⟩:=h;refine⟨_,za5 (za9 (i:=2) scHu.nd rfl (Or.inl rfl) (za7 G1 hr (by rfl) m1 k1 b1 .nil pass0 (za0 (pv 0) za2)))
  (za5 (za9 (i:=3) scHu.nd rfl (Or.inl rfl) (za8 (ixT (K:=K)) (za8 (ixL (K:=K)) (pv 0) (pv 2) (fun _ _=>rfl)) za4 (fun _ _=>rfl)))
  (za5 (za9 (i:=4) scHu.nd rfl (Or.inl rfl) (za8 (ixT (K:=K)) (za8 (ixL (K:=K)) (pv 0) (pv 2) (fun _ _=>rfl)) za4 (fun _ _=>rfl)))
  (za5 (za9 (i:=5) scHu.nd rfl (Or.inl rfl) (za8 (ixT (K:=K)) (za8 (ixL (K:=K)) (pv 0) (pv 2) (fun _ _=>rfl)) za4 (fun _ _=>rfl)))
  (za5 (zaw (PW.pt (zhk (zaf zf6 (pv 1) za4 (nomark _)) (zhk (zaf zde (pv 1) (zaa zav (pv 4) (pv 3)) (nomark _)) (zgf (zaf zde (pv 1) (pv 5) (nomark _)))))) (za6 (zad zby)) zaj)
  (za5 (za9 (i:=6) scHu.nd rfl (Or.inl rfl) (zaa zc2 (zaq (slL (K:=K)) (pv 0) zb8 (zb7 (pv 2))) (zbl (za0 (zac (za0 (pv 3) (za0 (zaa zal (pv 3) (pv 1)) (za0 (zaa zav (pv 5) (pv 1)) za2)))) za2))))
  (za5 (zaw (zaf zf6 (zaa zal (pv 3) (pv 1)) (pv 4) (nomark _)) (za6 (zdg (zd2 K PySem.F.plainAttrs_list PySem.F.slot_list_append PySem.F.type_list_append zcq (pv 6) (za0 (zac (za0 (zaa zal (pv 3) (pv 1)) (za0 (pv 4) (za0 (pv 5) za2)))) za2)))) zaj)
  (za6 (zad (za7 G2 hr (by rfl) m2 k2 b2 .nil pass0 (za0 (zaa zc2 (pv 6) (zaq (slL (K:=K)) (pv 0) (zb7 (zaa zal (pv 2) za4)) zb8)) za2)))))))))),?_⟩
 refine⟨_,rfl,a,b,rfl,⟨cs,ha,hB⟩,hb,fun H1 s1=>?_⟩;have hf:highF b<b.length:=zfk hb b.length (Nat.le_refl _);obtain⟨d,hd,hD⟩:=hB.get (zi7 hf);have ha1:=s1 _ _ ha;have hD1:H1 d=some (.tup [.int (topF b).1,.int (topF b).2.1,.int (topF b).2.2]):=s1 _ _ hD;have at1:atI (cs.map V.ref) ((highF b:Nat):Int)=some (.ref d):=zak (zeo hd);refine⟨_,rfl,_,rfl,a,_,_,_,rfl,rfl,SqL.of ha1,at1,d,_,_,_,rfl,rfl,SqT.of hD1,t3_0 _ _ _,?_⟩;refine⟨_,rfl,_,rfl,a,_,_,_,rfl,rfl,SqL.of ha1,at1,d,_,_,_,rfl,rfl,SqT.of hD1,t3_1 _ _ _,?_⟩;refine⟨_,rfl,_,rfl,a,_,_,_,rfl,rfl,SqL.of ha1,at1,d,_,_,_,rfl,rfl,SqT.of hD1,t3_2 _ _ _,?_⟩;have en:noFit b z->hungF b z=none:=fun n=>by unfold hungF; rw[if_pos n]
 refine⟨_,rfl,_,_,rfl,rfl,_,rfl,?_⟩;by_cases c1:z<1
 ·refine iteDT c1 (iteT ?_);exact q1 (en (.inl c1)) H1 s1
 refine iteDF c1 ?_;refine⟨_,rfl,_,rfl,_,rfl,_,_,rfl,rfl,_,_,rfl,rfl,_,rfl,?_⟩;by_cases c2:(topF b).2.1-(topF b).1<z
 ·refine iteDT c2 (iteT ?_);exact q1 (en (.inr (.inl c2))) H1 s1
 refine iteDF c2 ?_;refine⟨_,rfl,_,rfl,_,_,rfl,rfl,_,rfl,?_⟩;by_cases c3:(topF b).2.2<z
 ·refine iteDT c3 ?_;exact q1 (en (.inr (.inr c3))) H1 s1
 refine iteDF c3 ?_;have hs:hungF b z=some (joinF (partsF b z)):=by
  unfold hungF;rw[if_neg];rintro(n | n | n)
  ·exact c1 n
  ·exact c2 n
  ·exact c3 n
 have lcs:(cs.map V.ref).length=b.length:=by rw[List.length_map,hB.1]
 have B1:=hB.keep zdy s1;refine⟨_,rfl,_,rfl,_,rfl,a,_,rfl,SqL.of ha1,fun p1 hp1=>?_⟩;rw[zeg _ (by rw[lcs]; omega),<-List.map_take];have s2:=za3 hp1 (.lst ((cs.take (highF b)).map V.ref));have e2:(upd H1 p1 (.lst ((cs.take (highF b)).map V.ref))) p1=some (.lst ((cs.take (highF b)).map V.ref)):=za1;generalize upd H1 p1 (.lst ((cs.take (highF b)).map V.ref))=H2 at s2 e2;refine⟨_,rfl,_,rfl,_,rfl,_,_,rfl,rfl,_,rfl,_,rfl,_,_,rfl,rfl,by show 3<=sizeLine; decide,fun t1 ht1=>⟨by show 1<=sizeLine; decide,fun l1 hl1=>?_⟩⟩;have s3:=za3 ht1 (.tup [.int (topF b).1,.int ((topF b).1+z),.int ((topF b).2.2-z)]);have e3:PcR (upd H2 t1 (.tup [.int (topF b).1,.int ((topF b).1+z),.int ((topF b).2.2-z)])) t1 ((topF b).1,(topF b).1+z,(topF b).2.2-z):=za1;generalize upd H2 t1 (.tup [.int (topF b).1,.int ((topF b).1+z),.int ((topF b).2.2-z)])=H3 at s3 e3 hl1;have s4:=za3 hl1 (.lst [.ref t1]);have e4:(upd H3 l1 (.lst [.ref t1])) l1=some (.lst [.ref t1]):=za1;generalize upd H3 l1 (.lst [.ref t1])=H4 at s4 e4;refine⟨p1,l1,_,_,rfl,rfl,s4 _ _ (s3 _ _ e2),e4,by rw[List.length_map,List.length_take]; exact szle (by simp; omega),fun L hL=>?_⟩;have s14:=s2.trans (s3.trans s4);have em:(cs.take (highF b)).map V.ref++[.ref t1]=(cs.take (highF b)++[t1]).map V.ref:=by simp
 rw[em];have s5:=za3 hL (.lst ((cs.take (highF b)++[t1]).map V.ref));have e5:(upd H4 L (.lst ((cs.take (highF b)++[t1]).map V.ref))) L=some (.lst ((cs.take (highF b)++[t1]).map V.ref)):=za1;have s15:=s14.trans s5;have aL:At PcR (upd H4 L (.lst ((cs.take (highF b)++[t1]).map V.ref))) (cs.take (highF b)++[t1]) (b.take (highF b)++[((topF b).1,(topF b).1+z,(topF b).2.2-z)]):=((B1.keep zdy s15).take (highF b)).snoc (zdy (s4.trans s5) e3);have fL:H1 L=none:=s14.free hL;generalize upd H4 L (.lst ((cs.take (highF b)++[t1]).map V.ref))=H5 at s5 e5 s15 aL;have l5:(cs.take (highF b)++[t1]).length<=501:=by rw[List.length_append,List.length_take]; simp; omega
 generalize cs.take (highF b)++[t1]=gs at e5 aL l5;refine nx_go (zo0 (G:=fun σ H6=>σ=[some (.ref a),some (.int z),some (.int ((highF b:Nat):Int)),some (.int (topF b).1),some (.int (topF b).2.1),some (.int (topF b).2.2),some (.ref L)]/\Same H1 H6/\∃gs,gs.length<=502/\H6 L=some (.lst (gs.map V.ref)) /\
   At PcR H6 gs (b.take (highF b)++[((topF b).1,(topF b).1+z,(topF b).2.2-z)]++(if (topF b).1+z<(topF b).2.1 then [((topF b).1+z,(topF b).2.1,(topF b).2.2)] else []))) (fun r=>?_) ?_)
 ·refine⟨_,rfl,_,rfl,_,_,rfl,rfl,_,rfl,_,_,rfl,rfl,_,rfl,?_⟩;by_cases c4:(topF b).1+z<(topF b).2.1
  ·refine iteDT c4 ?_;refine⟨_,rfl,.inl ⟨rfl,_,SqL.of e5⟩,_,rfl,_,rfl,_,_,rfl,rfl,_,rfl,_,rfl,by show 3<=sizeLine; decide,fun np hnp=>?_⟩;have s6:=za3 hnp (.tup [.int ((topF b).1+z),.int (topF b).2.1,.int (topF b).2.2]);have e6:PcR (upd H5 np (.tup [.int ((topF b).1+z),.int (topF b).2.1,.int (topF b).2.2])) np ((topF b).1+z,(topF b).2.1,(topF b).2.2):=za1
   (try dsimp only)
   generalize upd H5 np (.tup [.int ((topF b).1+z),.int (topF b).2.1,.int (topF b).2.2])=H6 at s6 e6;refine⟨L,_,_,rfl,rfl,s6 _ _ e5,by rw[List.length_map]; exact szl (by omega),?_⟩;refine r _ _ ⟨rfl,(s15.trans s6).up fL _,gs++[np],by simp; omega,by rw[za1]; simp,?_⟩;rw[if_pos c4];exact zfw (s6 _ _ e5) ((aL.keep zdy s6).snoc e6)
  ·refine iteDF c4 ?_;refine r _ _ ⟨rfl,s15,gs,by omega,e5,?_⟩;rw[if_neg c4,List.append_nil];exact aL
 rintro σ H6 ⟨rfl,s6,gs,l6,e6,a6⟩;refine⟨_,rfl,_,rfl,_,rfl,_,_,rfl,rfl,_,rfl,a,_,rfl,SqL.of (s6 _ _ ha1),fun p2 hp2=>?_⟩
 (try dsimp only)
 rw[show((highF b:Nat):Int)+1=((highF b+1:Nat):Int) by omega,zeh _ (by rw[lcs]; omega),<-List.map_drop];have s7:=za3 hp2 (.lst ((cs.drop (highF b+1)).map V.ref));have e7:(upd H6 p2 (.lst ((cs.drop (highF b+1)).map V.ref))) p2=some (.lst ((cs.drop (highF b+1)).map V.ref)):=za1;generalize upd H6 p2 (.lst ((cs.drop (highF b+1)).map V.ref))=H7 at s7 e7;refine⟨L,p2,_,_,rfl,rfl,s7 _ _ e6,e7,by rw[List.length_map,List.length_map,List.length_drop,hB.1]; exact szle (by omega),fun p3 hp3=>?_⟩;rw[<-List.map_append];have s8:=za3 hp3 (.lst ((gs++cs.drop (highF b+1)).map V.ref));have e8:(upd H7 p3 (.lst ((gs++cs.drop (highF b+1)).map V.ref))) p3=some (.lst ((gs++cs.drop (highF b+1)).map V.ref)):=za1;have s68:=s7.trans s8;have a8:At PcR (upd H7 p3 (.lst ((gs++cs.drop (highF b+1)).map V.ref))) (gs++cs.drop (highF b+1)) (partsF b z):=(a6.keep zdy s68).app ((B1.keep zdy (s6.trans s68)).drop (highF b+1));generalize upd H7 p3 (.lst ((gs++cs.drop (highF b+1)).map V.ref))=H8 at s8 e8 s68 a8;have pl:=(zgi hb z).2;refine⟨p3,_,rfl,⟨_,e8,a8⟩,by omega,fun l H9 s9 h9=>?_⟩;exact q2 _ hs l H9 (s1.trans (s6.trans (s68.trans s9))) h9
inductive SpFirstR(vs:List V)(H:Hp)(Q:VK):Prop
 | mk (x y:Int) (h_0:vs=[.int x,.int y]) (h_1:∀l H',Same H H'->LstR PcR H' l [(0,x,y)]->Q (.ref l) H'):SpFirstR vs H Q
def spFirst:Sp:=fun vs H Q _=>SpFirstR vs H Q
theorem scFs:FnScope ["width","height"] ["width","height"] (defScope zb2):=⟨rfl,rfl,rfl,by decide +kernel,rfl,by decide +kernel,by decide +kernel⟩
theorem zog(F:Fun K "first_border" "first_border" zb2 f fd):FnOk P w K mg base CX0 1 f fd ["width","height"] spFirst:=by
 refine F.ok scFs (fun vs H Q E h=>?_) (fun cdv A outer s H vs Q E hr h=>?_)
 ·obtain⟨x,y,rfl,_⟩:=h;rfl
 obtain⟨x,y,rfl,q⟩:=h;refine⟨_,za6 (zad (zbl (za0 (zac (za0 za4 (za0 (pv 0) (za0 (pv 1) za2)))) za2))),?_⟩;refine⟨_,rfl,_,rfl,by show 3<=sizeLine; decide,fun t ht=>⟨by show 1<=sizeLine; decide,fun l hl=>?_⟩⟩;have s1:=za3 ht (.tup [.int 0,.int x,.int y]);have e1:PcR (upd H t (.tup [.int 0,.int x,.int y])) t (0,x,y):=za1;generalize upd H t (.tup [.int 0,.int x,.int y])=H1 at s1 e1 hl;have s2:=za3 hl (.lst [.ref t]);exact q l _ (s1.trans s2) ⟨[t],za1,At.nil.snoc (zdy s2 e1)⟩
inductive SpFullR(vs:List V)(H:Hp)(Q:VK):Prop
 | mk (a:Addr) (b:List Pc) (h_0:vs=[.ref a]) (h_1:LstR PcR H a b) (h_2:b≠[]) (h_3:∀H',Same H H'->Q (.bl (decide ((topF b).2.2=0))) H'):SpFullR vs H Q
def spFull:Sp:=fun vs H Q _=>SpFullR vs H Q
theorem scFu:FnScope ["border"] ["border"] (defScope zcm):=⟨rfl,rfl,rfl,by decide +kernel,rfl,by decide +kernel,by decide +kernel⟩
theorem zqr(F:Fun K "is_full" "is_full" zcm f fd)(G1:FnOk P w K mg base CX0 1 f1 d1 ["border"] spHigh)(b1:Binds K d1 ["border"] [])(k1:PySem.W.keepIn K (.ref f1)=true)(m1:mg "highest" = some (.ref f1)):FnOk P w K mg base CX0 2 f fd ["border"] spFull:=by
 refine F.ok scFu (fun vs H Q E h=>?_) (fun cdv A outer s H vs Q E hr h=>?_)
 ·obtain⟨a,b,rfl,_⟩:=h;rfl
 obtain⟨a,b,rfl,⟨cs,ha,hB⟩,hb,q⟩:=h;refine⟨_,za6 (zad (zan zcj (za8 (ixT (K:=K)) (za8 (ixL (K:=K)) (pv 0) (za7 G1 hr (by rfl) m1 k1 b1 .nil pass0 (za0 (pv 0) za2)) (fun _ _=>rfl)) za4 (fun _ _=>rfl)) za4 (nomark _))),?_⟩;refine⟨_,rfl,_,rfl,a,b,rfl,⟨cs,ha,hB⟩,hb,fun H1 s1=>?_⟩;have hf:highF b<b.length:=zfk hb b.length (Nat.le_refl _);obtain⟨d,hd,hD⟩:=hB.get (zi7 hf);have hD1:H1 d=some (.tup [.int (topF b).1,.int (topF b).2.1,.int (topF b).2.2]):=s1 _ _ hD;refine⟨a,_,_,_,rfl,rfl,SqL.of (s1 _ _ ha),zak (zeo hd),d,_,_,_,rfl,rfl,SqT.of hD1,t3_2 _ _ _,rfl,?_⟩;have e:decide (V.int (topF b).2.2=V.int 0)=decide ((topF b).2.2=0):=by
  rw[Bool.eq_iff_iff,decide_eq_true_eq,decide_eq_true_eq];exact⟨fun z=>V.int.inj z,iv⟩
 rw[e];exact q H1 s1
end
end My
namespace My
open PySem L2 Mth Wd Fl
def wdR(r:List Rat):Rat:=r.getD 2 0-r.getD 0 0
def sqR(r:List Rat):Bool:=!ptR r && decide (wdR r=r.getD 3 0-r.getD 1 0)
section
variable {P:Program} {w:World} {K:PySem.W.Frag} {mg:Str->Option Value} {base:Heap} {f g h C0 f1 f2 f3 f4 f5:Addr} {fd gd hd d1 d2 d3 d4 d5:FuncData}
inductive SpWdR(vs:List V)(H:Hp)(Q:VK):Prop
 | mk (p:Addr) (r:List Rat) (h_0:vs=[.ref p]) (h_1:TupR FrR H p r) (h_2:r.length=4) (h_3:(∀x∈r,Sf x)) (h_4:GivQ H Q (wdR r)):SpWdR vs H Q
def spWd:Sp:=fun vs H Q _=>SpWdR vs H Q
theorem scWd:FnScope ["rectangle"] ["rectangle"] (defScope zc7):=⟨rfl,rfl,rfl,by decide +kernel,rfl,by decide +kernel,by decide +kernel⟩
theorem ok_wd(F:Fun K "width_of" "width_of" zc7 f fd)(G:FnOk P w K mg base CX0 3 g gd ["one","other"] (spBin fun x y=>x-y))(bG:Binds K gd ["one","other"] [])(kG:PySem.W.keepIn K (.ref g)=true)(mG:mg "minus" = some (.ref g)):FnOk P w K mg base CX0 4 f fd ["rectangle"] spWd:=by
 refine F.ok scWd (fun vs H Q E h=>?_) (fun cdv A outer s H vs Q E hr h=>?_)
 ·obtain⟨p,r,rfl,_⟩:=h;rfl
 obtain⟨p,r,rfl,hp,n4,sf,q⟩:=h;obtain⟨c0,c1,c2,c3,x0,x1,x2,x3,rfl,hp,h0,h1,h2,h3⟩:=tup4 hp n4;refine⟨_,za6 (zad (za7 G hr (by rfl) mG kG bG .nil pass0 (za0 (za8 (ixT (K:=K)) (pv 0) za4 (fun _ _=>rfl)) (za0 (za8 (ixT (K:=K)) (pv 0) za4 (fun _ _=>rfl)) za2)))),?_⟩;exact⟨_,rfl,p,_,_,_,rfl,rfl,SqT.of hp,q4_2,_,rfl,p,_,_,_,rfl,rfl,SqT.of hp,q4_0,c2,c0,x2,x0,rfl,h2,h0,sf _ (by simp),sf _ (by simp),q⟩
inductive SpSqR(vs:List V)(H:Hp)(Q:VK):Prop
 | mk (p:Addr) (r:List Rat) (h_0:vs=[.ref p]) (h_1:TupR FrR H p r) (h_2:r.length=4) (h_3:(∀x∈r,Sf x)) (h_4:∀H',Same H H'->Q (.bl (sqR r)) H'):SpSqR vs H Q
def spSq:Sp:=fun vs H Q _=>SpSqR vs H Q
theorem scSq:FnScope ["rectangle"] ["rectangle"] (defScope zbv):=⟨rfl,rfl,rfl,by decide +kernel,rfl,by decide +kernel,by decide +kernel⟩
theorem ok_sq (F:Fun K "is_square" "is_square" zbv f fd) (G1:FnOk P w K mg base CX0 1 f1 d1 ["rectangle"] spIsP) (b1:Binds K d1 ["rectangle"] []) (k1:PySem.W.keepIn K (.ref f1)=true) (m1:mg "is_point" = some (.ref f1))
  (G2:FnOk P w K mg base CX0 4 f2 d2 ["rectangle"] spWd) (b2:Binds K d2 ["rectangle"] []) (k2:PySem.W.keepIn K (.ref f2)=true) (m2:mg "width_of" = some (.ref f2))
  (G3:FnOk P w K mg base CX0 3 f3 d3 ["one","other"] (spBin fun x y=>x-y)) (b3:Binds K d3 ["one","other"] []) (k3:PySem.W.keepIn K (.ref f3)=true) (m3:mg "minus" = some (.ref f3)):FnOk P w K mg base CX0 5 f fd ["rectangle"] spSq:=by
 refine F.ok scSq (fun vs H Q E h=>?_) (fun cdv A outer s H vs Q E hr h=>?_)
 ·obtain⟨p,r,rfl,_⟩:=h;rfl
 obtain⟨p,r,rfl,hp0,n4,sf,q⟩:=h;obtain⟨c0,c1,c2,c3,x0,x1,x2,x3,rfl,hp,h0,h1,h2,h3⟩:=tup4 hp0 n4;have r1:=hr.mono (show 1<=4 by decide);have r3:=hr.mono (show 3<=4 by decide);refine⟨_,za6 (zad (zeq (zpj (za7 G1 r1 (by rfl) m1 k1 b1 .nil pass0 (za0 (pv 0) za2))) (zep (zan (zes hr.units) (za7 G2 hr (by rfl) m2 k2 b2 .nil pass0 (za0 (pv 0) za2)) (za7 G3 r3 (by rfl) m3 k3 b3 .nil pass0 (za0 (za8 (ixT (K:=K)) (pv 0) za4 (fun _ _=>rfl)) (za0 (za8 (ixT (K:=K)) (pv 0) za4 (fun _ _=>rfl)) za2))) (nomark _))))),?_⟩;refine⟨_,rfl,p,_,rfl,hp0,n4,_,rfl,_,rfl,?_⟩;have e:sqR [x0,x1,x2,x3]=(!ptR [x0,x1,x2,x3] && decide (x2-x0=x3-x1)):=rfl;rw[e] at q;cases z:ptR [x0,x1,x2,x3] with
 | true =>
  rw[z,Bool.not_true,Bool.false_and] at q;exact iteF (q _ (Same.refl _))
 | false =>
  rw[z,Bool.not_false,Bool.true_and] at q;refine iteT ?_;refine⟨_,rfl,p,_,rfl,hp0,n4,sf,fun t ht=>?_⟩;have s1:=za3 ht (.tup [.int (x2-x0).num,.int ((x2-x0).den:Int)]);have ht2:FrR (upd H t (.tup [.int (x2-x0).num,.int ((x2-x0).den:Int)])) t (x2-x0):=za1;have ew:wdR [x0,x1,x2,x3]=x2-x0:=rfl;rw[ew];generalize upd H t (.tup [.int (x2-x0).num,.int ((x2-x0).den:Int)])=H1 at s1 ht2;refine⟨_,rfl,p,_,_,_,rfl,rfl,SqT.of (s1 _ _ hp),q4_3,_,rfl,p,_,_,_,rfl,rfl,SqT.of (s1 _ _ hp),q4_1,c3,c1,x3,x1,rfl,s1 _ _ h3,s1 _ _ h1,sf _ (by simp),sf _ (by simp),fun u hu=>?_⟩;have s2:=za3 hu (.tup [.int (x3-x1).num,.int ((x3-x1).den:Int)]);refine⟨t,u,[(x2-x0).num,((x2-x0).den:Int)],[(x3-x1).num,((x3-x1).den:Int)],rfl,rfl,s2 _ _ ht2,za1,?_⟩;rw[zmk];exact q _ (s1.trans s2)
theorem scIW:FnScope ["rectangle"] ["rectangle"] (defScope zc9):=⟨rfl,rfl,rfl,by decide +kernel,rfl,by decide +kernel,by decide +kernel⟩
theorem ndNum:(["number"]:List Str).Nodup:=by decide +kernel
inductive SpSqAtR(vs:List V)(H:Hp)(Q:VK):Prop
 | mk (a:Addr) (b:List Pc) (z:Int) (h_0:vs=[.ref a,.int z]) (h_1:LstR PcR H a b) (h_2:b≠[]) (h_3:∀p H',Same H H'->TupR FrR H' p [(((topF b).1:Int):Rat),((((topF b).2.2-z:Int)):Rat),((((topF b).1+z:Int)):Rat),(((topF b).2.2:Int):Rat)]->Q (.ref p) H'):SpSqAtR vs H Q
def spSqAt:Sp:=fun vs H Q _=>SpSqAtR vs H Q
theorem scSA:FnScope ["border","size","left","level"] ["border","size"] (defScope zbr):=⟨rfl,rfl,rfl,by decide +kernel,rfl,by decide +kernel,by decide +kernel⟩
theorem zqg(F:Fun K "square_at" "square_at" zbr f fd)(G1:FnOk P w K mg base CX0 1 f1 d1 ["border"] spHigh)(b1:Binds K d1 ["border"] [])(k1:PySem.W.keepIn K (.ref f1)=true)(m1:mg "highest" = some (.ref f1)):FnOk P w K mg base CX0 2 f fd ["border","size"] spSqAt:=by
 refine F.ok scSA (fun vs H Q E h=>?_) (fun cdv A outer s H vs Q E hr h=>?_)
 ·obtain⟨a,b,z,rfl,_⟩:=h;rfl
 obtain⟨a,b,z,rfl,hL,ne,q⟩:=h;refine⟨_,za5 (za9 (i:=2) scSA.nd rfl (Or.inl rfl) (za8 (ixT (K:=K)) (za8 (ixL (K:=K)) (pv 0) (za7 G1 hr (by rfl) m1 k1 b1 .nil pass0 (za0 (pv 0) za2)) (fun _ _=>rfl)) za4 (fun _ _=>rfl)))
  (za5 (za9 (i:=3) scSA.nd rfl (Or.inl rfl) (za8 (ixT (K:=K)) (za8 (ixL (K:=K)) (pv 0) (za7 G1 hr (by rfl) m1 k1 b1 .nil pass0 (za0 (pv 0) za2)) (fun _ _=>rfl)) za4 (fun _ _=>rfl)))
  (za6 (zad (zac (za0 (zac (za0 (pv 2) (za0 za4 za2))) (za0 (zac (za0 (zaa zav (pv 3) (pv 1)) (za0 za4 za2))) (za0 (zac (za0 (zaa zal (pv 2) (pv 1)) (za0 za4 za2))) (za0 (zac (za0 (pv 3) (za0 za4 za2))) za2)))))))),?_⟩
 have hlt:highF b<b.length:=zfk ne b.length (Nat.le_refl _);have et:b[highF b]?=some (topF b):=by
  show b[highF b]?=some (b.getD (highF b) pd);rw[List.getD_eq_getElem?_getD,List.getElem?_eq_getElem hlt]; rfl
 obtain⟨bs,hb,hB⟩:=id hL;obtain⟨c,hc,hcR⟩:=hB.get et;refine⟨_,rfl,_,rfl,a,b,rfl,hL,ne,fun H1 s1=>?_⟩;refine⟨a,_,_,_,rfl,rfl,SqL.of (s1 _ _ hb),zak (zeo hc),c,_,_,_,rfl,rfl,SqT.of (s1 _ _ hcR),t3_0 _ _ _,?_⟩;refine⟨_,rfl,_,rfl,a,b,rfl,⟨bs,s1 _ _ hb,hB.keep zdy s1⟩,ne,fun H2 s2=>?_⟩;have s12:=s1.trans s2;refine⟨a,_,_,_,rfl,rfl,SqL.of (s12 _ _ hb),zak (zeo hc),c,_,_,_,rfl,rfl,SqT.of (s12 _ _ hcR),t3_2 _ _ _,?_⟩;refine⟨_,rfl,by show 2<=sizeLine; decide,fun p0 h0=>?_⟩;have t0:=za3 h0 (.tup [.int (topF b).1,.int 1]);have e0:FrR (upd H2 p0 (.tup [.int (topF b).1,.int 1])) p0 (((topF b).1:Int):Rat):=za1;generalize upd H2 p0 (.tup [.int (topF b).1,.int 1])=H3 at t0 e0;refine⟨_,rfl,_,rfl,_,_,rfl,rfl,by show 2<=sizeLine; decide,fun p1 h1=>?_⟩;have t1:=za3 h1 (.tup [.int ((topF b).2.2-z),.int 1]);have e1:FrR (upd H3 p1 (.tup [.int ((topF b).2.2-z),.int 1])) p1 ((((topF b).2.2-z:Int)):Rat):=za1;generalize upd H3 p1 (.tup [.int ((topF b).2.2-z),.int 1])=H4 at t1 e1;refine⟨_,rfl,_,rfl,_,_,rfl,rfl,by show 2<=sizeLine; decide,fun p2 h2=>?_⟩;have t2:=za3 h2 (.tup [.int ((topF b).1+z),.int 1]);have e2:FrR (upd H4 p2 (.tup [.int ((topF b).1+z),.int 1])) p2 ((((topF b).1+z:Int)):Rat):=za1;generalize upd H4 p2 (.tup [.int ((topF b).1+z),.int 1])=H5 at t2 e2;refine⟨_,rfl,by show 2<=sizeLine; decide,fun p3 h3=>?_⟩;have t3:=za3 h3 (.tup [.int (topF b).2.2,.int 1]);have e3:FrR (upd H5 p3 (.tup [.int (topF b).2.2,.int 1])) p3 (((topF b).2.2:Int):Rat):=za1;generalize upd H5 p3 (.tup [.int (topF b).2.2,.int 1])=H6 at t3 e3;refine⟨by show 4<=sizeLine; decide,fun p hp=>?_⟩;have t4:=za3 hp (.tup [.ref p0,.ref p1,.ref p2,.ref p3]);refine q p _ (s12.trans (t0.trans (t1.trans (t2.trans (t3.trans t4))))) ⟨[p0,p1,p2,p3],za1,?_⟩;exact At.snoc (bs:=[p0,p1,p2]) (xs:=[_,_,_]) (At.snoc (bs:=[p0,p1]) (xs:=[_,_]) (At.snoc (bs:=[p0]) (xs:=[_]) (At.snoc (bs:=[]) (xs:=[]) At.nil (zba (t1.trans (t2.trans (t3.trans t4))) e0)) (zba (t2.trans (t3.trans t4)) e1)) (zba (t3.trans t4) e2)) (zba t4 e3)
end
end My
namespace My
open PySem L2 Mth
section
variable {P:Program} {w:World} {K:PySem.W.Frag} {mg:Str->Option Value} {base:Heap} {f g h f1 f2 f3 f4:Addr} {fd gd hd d1 d2 d3 d4:FuncData}
inductive SpSpotR(vs:List V)(H:Hp)(Q:VK):Prop
 | mk (a:Addr) (ts:List Int) (h_0:vs=[.ref a]) (h_1:H a=some (.lst (ts.map V.int))) (h_2:ts≠[]) (h_3:ts.length<=1000) (h_4:∀p H',Same H H'->H' p=some (.tup [.int ((leftF ts:Nat):Int),.int ((spanF ts:Nat):Int)])->Q (.ref p) H'):SpSpotR vs H Q
def spSpot:Sp:=fun vs H Q _=>SpSpotR vs H Q
theorem scSp:FnScope ["_law_tops","_law_most","_law_left","_law_wide"] ["_law_tops"] (defScope sSpot):=⟨rfl,rfl,rfl,by decide +kernel,rfl,by decide +kernel,by decide +kernel⟩
theorem zqh(F:Fun K "_law_spot" "_law_spot" sSpot f fd)(mx:mg "max" = none)(ml:mg "len" = none):FnOk P w K mg base CX0 1 f fd ["_law_tops"] spSpot:=by
 refine F.ok scSp (fun vs H Q E h=>?_) (fun cdv A outer s H vs Q E hr h=>?_)
 ·obtain⟨a,ts,rfl,_⟩:=h;rfl
 obtain⟨a,ts,rfl,ha,hne,hl,q⟩:=h;refine⟨_,za5 (za9 (i:=1) scSp.nd rfl (Or.inl rfl) (zag (zh0 rfl) (by rfl) mx zja (za0 (pv 0) za2)))
  (za5 (za9 (i:=2) scSp.nd rfl (Or.inl rfl) (zd2 K PySem.F.plainAttrs_list PySem.F.slot_list_index PySem.F.type_list_index zdp (pv 0) (za0 (pv 1) za2)))
  (za5 (za9 (i:=3) scSp.nd rfl (Or.inl rfl) za4)
  (za5 (zfu PassesOwn.never (PW.pt (zgg (zaf zf6 (zaa zal (pv 2) (pv 3)) (zag (callLen (K:=K)) (by rfl) ml zc4 (za0 (pv 0) za2)) (nomark _)) (zft (zaf zcj (za8 (ixL (K:=K)) (pv 0) (zaa zal (pv 2) (pv 3)) (fun _ _=>rfl)) (pv 1) (nomark _)))))
   (za6 (za9 (i:=3) scSp.nd rfl (Or.inl rfl) (zaa zal (pv 3) za4))))
  (za6 (zad (zac (za0 (pv 2) (za0 (pv 3) za2)))))))),?_⟩
 refine⟨_,rfl,a,ts,rfl,ha,List.length_pos_iff.mpr hne,fun m mm mle=>?_⟩;obtain rfl:=zlq mm mle;refine⟨_,rfl,.inl ⟨rfl,_,SqL.of ha⟩,_,rfl,a,ts,_,rfl,rfl,ha,mm,by omega,?_⟩;have hlt:=zdi hne;have wl:=zk9 (maxL ts) (ts.drop (leftF ts));rw[List.length_drop] at wl;have wl':leftF ts+spanF ts<=ts.length:=by show _+wideF _ _<=_; omega
 refine zfp (fun σ H2=>H=H2/\∃j:Nat,j<=spanF ts/\σ=[some (.ref a),some (.int (maxL ts)),some (.int ((leftF ts:Nat):Int)),some (.int ((j:Nat):Int))]) (fun σ _=>match σ with | [_,_,_,some (.int z)]=>spanF ts-z.toNat | _=>0) ⟨rfl,0,Nat.zero_le _,rfl⟩ ?_ ?_
 ·rintro σ _ ⟨rfl,j,hj,rfl⟩;refine⟨_,rfl,_,rfl,_,_,rfl,rfl,_,rfl,a,_,rfl,.inl (SqL.of ha),_,_,rfl,rfl,_,rfl,?_⟩;have done:j=spanF ts->∀(Hx:Hp),Hx=H->∃v,[some (V.ref a),some (.int (maxL ts)),some (.int ((leftF ts:Nat):Int)),some (.int ((j:Nat):Int))][2]?=some (some v)/\True:=fun _ _ _=>⟨_,rfl,trivial⟩
  clear done;rw[List.length_map];have fin:j=spanF ts->((tRet (tTup (tCons (tVar 2) (tCons (tVar 3) tNil)))):TS) { nx:=fun _ H'=>Q .non H',rt:=Q } [some (.ref a),some (.int (maxL ts)),some (.int ((leftF ts:Nat):Int)),some (.int ((j:Nat):Int))] H:=fun e=>by
   subst e;refine⟨_,rfl,_,rfl,by show 2<=sizeLine; decide,fun p hp=>?_⟩;exact q p _ (za3 hp _) za1
  by_cases h1:((leftF ts:Nat):Int)+((j:Nat):Int)<(ts.length:Int)
  ·refine iteDT h1 ?_;have hx:ts[leftF ts+j]?=some ts[leftF ts+j]:=List.getElem?_eq_getElem (by omega);have wa:=zfo (m:=maxL ts) (l:=ts.drop (leftF ts)) (j:=j) hj;rw[List.getElem?_drop] at wa;generalize ts[leftF ts+j]'(by omega)=x at hx;rw[hx] at wa;have at1:atI (ts.map V.int) (((leftF ts:Nat):Int)+((j:Nat):Int))=some (.int x):=by
    have:=zak (zha hx)
    rwa [show((leftF ts+j:Nat):Int)=((leftF ts:Nat):Int)+((j:Nat):Int) by omega] at this
   refine⟨_,rfl,_,rfl,_,rfl,_,_,rfl,rfl,a,_,_,_,rfl,rfl,SqL.of ha,at1,_,rfl,rfl,_,rfl,?_⟩;by_cases h2:x=maxL ts
   ·refine iteDT (iv h2) ?_;have hj2:j<spanF ts:=wa.mpr (by rw[h2]);refine⟨_,rfl,_,_,rfl,rfl,⟨rfl,j+1,hj2,rfl⟩,?_⟩;show spanF ts-((j:Int)+1).toNat<spanF ts-((j:Nat):Int).toNat;omega
   ·refine iteDF (ivn h2) ?_;have hj2:¬j<spanF ts:=fun z=>h2 (Option.some.inj (wa.mp z))
    exact fin (by omega)
  ·refine iteDF h1 ?_;exact fin (by omega)
 ·rintro σ H2 Q1 Q2 hq ⟨v,e,v',e',i,j,e1,e2,p,z,ys,e3,e4,e5,i',j',e6,e7,b,eb,r⟩;refine⟨v,e,v',e',i,j,e1,e2,p,z,ys,e3,e4,e5,i',j',e6,e7,b,eb,?_⟩;cases b with
  | false =>
   have r':=r;exact hq _ _ r'
  | true =>
   obtain⟨a1,b1,a2,b2,a3,b3,a4,a5,a6,a7,c1,c2,c3,c4,c5,c6,c7,c8,c9,c10,c11,c12,c13,r2⟩:=r;exact⟨a1,b1,a2,b2,a3,b3,a4,a5,a6,a7,c1,c2,c3,c4,c5,c6,c7,c8,c9,c10,c11,c12,c13,hq _ _ r2⟩
end
end My
namespace My
open PySem L2 Mth Wd Fl
abbrev CellR(z:Int):Prop:=0<=z/\z<2147483629
theorem joinP{T R:Prop}(m:T->R)(r:T):R:=m r
abbrev Bx:Type:=Box
def BoxR(H:Hp)(p:Addr)(b:Bx):Prop:=H p=some (.tup [.int b.1,.int b.2.1,.int b.2.2.1,.int b.2.2.2])
theorem zce:Mo BoxR:=fun s h=>s _ _ h
theorem BoxR.del{H:Hp}{a p:Addr}{b:Bx}{ys:List V}(h:BoxR H p b)(e:H a=some (.lst ys)):BoxR (del H a) p b:=zcr h (fun z=>by rw[z] at h; unfold BoxR at h; rw[e] at h; cases h)
theorem zln{H:Hp}{p:Addr}(hp:H p=none)(a b c d:Int):∃H',upd H p (.tup [.int a,.int b,.int c,.int d])=H'/\Same H H'/\BoxR H' p (a,b,c,d):=⟨_,rfl,za3 hp _,za1⟩
theorem t4_0(x y z u:V):atI [x,y,z,u] 0=some x:=zak (j:=0) rfl
theorem t4_2(x y z u:V):atI [x,y,z,u] 2=some z:=zak (j:=2) rfl
theorem t4_3(x y z u:V):atI [x,y,z,u] 3=some u:=zak (j:=3) rfl
section
variable {P:Program} {w:World} {K:PySem.W.Frag} {mg:Str->Option Value} {base:Heap} {f g h f1 f2 f3:Addr} {fd gd hd d1 d2 d3:FuncData}
inductive SpCellR(K:PySem.W.Frag)(vs:List V)(H:Hp)(Q:VK):Prop
 | mk (a:Addr) (ns:List Int) (k:Int) (h_0:vs=[.ref a,.int k]) (h_1:ScA K H a ns) (h_2:0<=k) (h_3:∀z,CellR z->Q (.int z) H):SpCellR K vs H Q
def spCell(K:PySem.W.Frag):Sp:=fun vs H Q _=>SpCellR K vs H Q
theorem scCe:FnScope ["_law_script","_law_k","_law_cell"] ["_law_script","_law_k"] (defScope sCellAt):=⟨rfl,rfl,rfl,by decide +kernel,rfl,by decide +kernel,by decide +kernel⟩
theorem zqs(F:Fun K "_law_cell_at" "_law_cell_at" sCellAt f fd)(ml:mg "len" = none):FnOk P w K mg base CX0 1 f fd ["_law_script","_law_k"] (spCell K):=by
 refine F.ok scCe (fun vs H Q E h=>?_) (fun cdv A outer s H vs Q E hr h=>?_)
 ·obtain⟨a,ns,k,rfl,_⟩:=h;rfl
 obtain⟨a,ns,k,rfl,⟨hS,hl⟩,h0,q⟩:=h;refine⟨_,za5 (za9 (i:=2) scCe.nd rfl (Or.inl rfl) za4)
  (za5 (zaw (zaf zf6 (pv 1) (zag (callLen (K:=K)) (by rfl) ml zc4 (za0 (pv 0) za2)) (nomark _))
   (za6 (za9 (i:=2) scCe.nd rfl (Or.inl rfl) (zaa zb4 (za8 (ixL (K:=K)) (pv 0) (pv 1) (fun _ _=>rfl)) (zaa op_pow za4 za4)))) zaj)
  (za6 (zad (zaa zb4 (zaa zld (zaa zb4 (zaa zal (zaa zld (pv 2) za4) (zaa zld za4 (pv 1))) za4) za4) za4)))),?_⟩
 refine⟨_,rfl,_,rfl,a,_,rfl,.inl hS,_,_,rfl,rfl,_,rfl,?_⟩;have fin:∀x:Int,tRet (tOp (rI (fun _ j=>0<j) fun i j=>.int (i % j)) (tOp (rI CMul fun i j=>.int (i*j)) (tOp (rI (fun _ j=>0<j) fun i j=>.int (i % j)) (tOp (rI0 fun i j=>.int (i+j)) (tOp (rI CMul fun i j=>.int (i*j)) (tVar 2) (tC (.int 48271))) (tOp (rI CMul fun i j=>.int (i*j)) (tC (.int 16807)) (tVar 1))) (tC (.int 2147483647))) (tC (.int 69621))) (tC (.int 2147483629)))
   { nx:=fun _ H'=>Q .non H',rt:=Q } [some (.ref a),some (.int k),some (.int x)] H:=fun x =>
  ⟨_,rfl,_,_,rfl,rfl,.inr ⟨by decide,by decide⟩,_,rfl,_,_,rfl,rfl,.inl ⟨by decide,by decide⟩,_,_,rfl,rfl,_,_,rfl,rfl,(show(0:Int)<2147483647 by decide),_,_,rfl,rfl,.inr ⟨by decide,by decide⟩,_,_,rfl,rfl,(show(0:Int)<2147483629 by decide),q _ ⟨Int.emod_nonneg _ (by decide),Int.emod_lt_of_pos _ (by decide)⟩⟩
 by_cases hk:k<(((ns.map V.int).length:Nat):Int)
 ·refine iteDT hk ?_;rw[List.length_map] at hk;have hk':k.toNat<ns.length:=by omega
  have e:atI (ns.map V.int) ((k.toNat:Nat):Int)=some (.int ns[k.toNat]):=zak (by rw[List.getElem?_map,List.getElem?_eq_getElem hk']; rfl);rw[show((k.toNat:Nat):Int)=k by omega] at e;exact⟨_,rfl,_,rfl,a,_,_,_,rfl,rfl,hS,e,_,_,rfl,rfl,⟨by decide,by decide,by decide⟩,_,_,rfl,rfl,(show(0:Int)<10 ^ ((18:Int).toNat) by decide),fin _⟩
 ·exact iteDF hk (fin _)
inductive SpLowR(vs:List V)(H:Hp)(Q:VK):Prop
 | mk (t b:Int) (h_0:vs=[.int t,.int b]) (h_1:0<b) (h_2:Big b) (h_3:GivQ H Q ((t:Rat) / (b:Rat))):SpLowR vs H Q
def spLow:Sp:=fun vs H Q _=>SpLowR vs H Q
theorem scLo:FnScope ["_law_top","_law_bottom","_law_a","_law_b","_law_rest"] ["_law_top","_law_bottom"] (defScope zbi):=⟨rfl,rfl,rfl,by decide +kernel,rfl,by decide +kernel,by decide +kernel⟩
theorem abs_eq(a:Int):(if a<0 then -a else a)=(a.natAbs:Int):=by split <;> omega
theorem zp9{x y:Int}(hy:0<y):Int.gcd y (x % y)=Int.gcd x y:=by
 have:=zj0 x y
 rwa [Int.fmod_eq_emod_of_nonneg x (Int.le_of_lt hy)] at this
theorem ok_low(F:Fun K "_law_lowest" "_law_lowest" zbi f fd)(ma:mg "abs" = none):FnOk P w K mg base CX0 1 f fd ["_law_top","_law_bottom"] spLow:=by
 refine F.ok scLo (fun vs H Q E h=>?_) (fun cdv A outer s H vs Q E hr h=>?_)
 ·obtain⟨t,b,rfl,_⟩:=h;rfl
 obtain⟨t,b,rfl,hb,bb,q⟩:=h;refine⟨_,za5 (za9 (i:=2) scLo.nd rfl (Or.inl rfl) (zag zj9 (by rfl) ma bt_abs (za0 (pv 0) za2)))
  (za5 (za9 (i:=3) scLo.nd rfl (Or.inl rfl) (pv 1))
  (za5 (zfu PassesOwn.never (zaf zde (pv 3) za4 (nomark _))
   (za5 (za9 (i:=4) scLo.nd rfl (Or.inl rfl) (zaa zb4 (pv 2) (pv 3)))
   (za5 (za9 (i:=2) scLo.nd rfl (Or.inl rfl) (pv 3))
   (za6 (za9 (i:=3) scLo.nd rfl (Or.inl rfl) (pv 4))))))
  (za6 (zad (zac (za0 (zaa zda (pv 0) (pv 2)) (za0 (zaa zda (pv 1) (pv 2)) za2))))))),?_⟩
 refine⟨_,rfl,t,rfl,_,rfl,?_⟩;rw[abs_eq];refine zfp (fun σ H2=>∃x y r,σ=[some (.int t),some (.int b),some (.int x),some (.int y),r]/\H2=H/\0<=x/\0<=y/\Int.gcd x y=Int.gcd t b) (fun σ _=>match σ with | [_,_,_,some (.int y),_]=>y.natAbs | _=>0) ⟨_,_,none,rfl,rfl,by omega,by omega,by unfold Int.gcd; simp⟩ ?_ ?_
 ·rintro σ H2 ⟨x,y,r,rfl,rfl,x0,y0,gg⟩;refine⟨_,rfl,_,_,rfl,rfl,_,rfl,?_⟩;by_cases hy:(0:Int)<y
  ·refine iteDT hy ?_;have m0:=Int.emod_nonneg x (Int.ne_of_gt hy);have m1:=Int.emod_lt_of_pos x hy;refine⟨_,rfl,_,rfl,_,_,rfl,rfl,hy,_,rfl,_,rfl,⟨y,x % y,_,rfl,rfl,y0,m0,(zp9 hy).trans gg⟩,?_⟩;show(x % y).natAbs<y.natAbs;omega
  ·refine iteDF hy ?_;have hy:y=0:=by omega
   subst hy;have gx:x=(Int.gcd t b:Int):=by
    have:=znp gg
    rw[if_neg (by omega)] at this;exact this
   have pe:Mth.part t b=x:=by unfold Mth.part; rw[if_neg (by omega),gx]
   have gp:0<Int.gcd t b:=Mth.zg0 t b (by omega);have hx:CDivB t x:=⟨by omega,by rw[<-pe]; exact Nat.lt_of_le_of_lt (zl9 t b (by omega)) bb⟩;have ef:=zdc t b (by omega);unfold frac at ef;rw[pe] at ef;have e1:=congrArg Prod.fst ef;have e2:=congrArg Prod.snd ef;simp only at e1 e2;refine⟨_,rfl,_,rfl,_,_,rfl,rfl,hx,_,rfl,_,rfl,_,_,rfl,rfl,hx,by show 2<=sizeLine; decide,?_⟩
   (try dsimp only)
   rw[e1,e2];exact q
 ·rintro σ H2 Q1 Q2 hq ⟨v,e,i,j,e1,e2,b,eb,z⟩;exact⟨v,e,i,j,e1,e2,b,eb,hq _ _ z⟩
inductive SpTwoR(vs:List V)(H:Hp)(Q:VK):Prop
 | mk (lo hi c:Int) (h_0:vs=[.int lo,.int hi,.int c]) (h_1:lo+3<=hi) (h_2:∀x y:Int,lo<x->x<y->y<hi->∀p,H p=none->Q (.ref p) (upd H p (.tup [.int x,.int y]))):SpTwoR vs H Q
def spTwo:Sp:=fun vs H Q _=>SpTwoR vs H Q
theorem scTw:FnScope ["_law_low","_law_high","_law_cell","_law_first"] ["_law_low","_law_high","_law_cell"] (defScope zcl):=⟨rfl,rfl,rfl,by decide +kernel,rfl,by decide +kernel,by decide +kernel⟩
theorem ok_two(F:Fun K "_law_two" "_law_two" zcl f fd):FnOk P w K mg base CX0 1 f fd ["_law_low","_law_high","_law_cell"] spTwo:=by
 refine F.ok scTw (fun vs H Q E h=>?_) (fun cdv A outer s H vs Q E hr h=>?_)
 ·obtain⟨lo,hi,c,rfl,_⟩:=h;rfl
 obtain⟨lo,hi,c,rfl,hlh,q⟩:=h;refine⟨_,za5 (za9 (i:=3) scTw.nd rfl (Or.inl rfl) (zaa zal (zaa zal (pv 0) za4) (zaa zb4 (pv 2) (zaa zav (zaa zav (pv 1) (pv 0)) za4))))
  (za6 (zad (zac (za0 (pv 3) (za0 (zaa zal (zaa zal (pv 3) za4) (zaa zb4 (zaa zer (pv 2) za4) (zaa zav (zaa zav (pv 1) (pv 3)) za4))) za2))))),?_⟩
 have h1:(0:Int)<hi-lo-2:=by omega
 have a0:=Int.emod_nonneg c (Int.ne_of_gt h1);have a1:=Int.emod_lt_of_pos c h1;refine⟨_,rfl,_,_,rfl,rfl,_,rfl,_,rfl,_,rfl,_,_,rfl,rfl,_,_,rfl,rfl,_,_,rfl,rfl,h1,_,_,rfl,rfl,?_⟩
 (try dsimp only)
 generalize hx:lo+1+c % (hi-lo-2)=x;have h2:(0:Int)<hi-x-1:=by omega
 have b0:=Int.emod_nonneg (c / 7) (Int.ne_of_gt h2);have b1:=Int.emod_lt_of_pos (c / 7) h2;exact⟨_,rfl,_,rfl,_,_,rfl,rfl,_,rfl,_,_,rfl,rfl,⟨by decide,by decide⟩,_,rfl,_,rfl,_,_,rfl,rfl,_,_,rfl,rfl,_,_,rfl,rfl,h2,_,_,rfl,rfl,by show 2<=sizeLine; decide,q x _ (by omega) (by omega) (by omega)⟩
abbrev PtQ(H:Hp)(Q:VK)(b:Bx)(n m:Nat):Prop:=∀(p:Addr) (H':Hp) (bs:List Bx),Same H H'->LstR BoxR H' p bs->n<=bs.length->bs.length<=m->Parts b bs->Q (.ref p) H'
inductive SpWheelR(vs:List V)(H:Hp)(Q:VK):Prop
 | mk (pb px py:Addr) (b:Bx) (x0 x1 y0 y1 way:Int) (h_0:vs=[.ref pb,.ref px,.ref py,.int way]) (h_1:BoxR H pb b) (h_2:H px=some (.tup [.int x0,.int x1])) (h_3:H py=some (.tup [.int y0,.int y1])) (h_4:(b.l<x0/\x0<x1/\x1<b.r/\b.d<y0/\y0<y1/\y1<b.u)) (h_5:PtQ H Q b 5 5):SpWheelR vs H Q
def spWheel:Sp:=fun vs H Q _=>SpWheelR vs H Q
theorem scWl:FnScope ["_law_box","_law_x","_law_y","_law_way","_law_left","_law_low","_law_right","_law_high","_law_outer"] ["_law_box","_law_x","_law_y","_law_way"] (defScope zbs):=⟨rfl,rfl,rfl,by decide +kernel,rfl,by decide +kernel,by decide +kernel⟩
set_option maxHeartbeats 4000000 in
theorem zoe(F:Fun K "_law_wheel" "_law_wheel" zbs f fd):FnOk P w K mg base CX0 1 f fd ["_law_box","_law_x","_law_y","_law_way"] spWheel:=by
 refine F.ok scWl (fun vs H Q E h=>?_) (fun cdv A outer s H vs Q E hr h=>?_)
 ·obtain⟨pb,px,py,b,x0,x1,y0,y1,way,rfl,_⟩:=h;rfl
 obtain⟨pb,px,py,⟨l,lo,r,hi⟩,x0,x1,y0,y1,way,rfl,hb,hx,hy,⟨i1,i2,i3,i4,i5,i6⟩,q⟩:=h;dsimp only[Box.l,Box.d,Box.r,Box.u] at i1 i2 i3 i4 i5 i6;refine⟨_,za5 (ze5 (pv 0) (pgTup (n:=4) (K:=K) rfl (zae (zab (i:=4) scWl.nd rfl (Or.inl rfl)) (zae (zab (i:=5) scWl.nd rfl (Or.inl rfl)) (zae (zab (i:=6) scWl.nd rfl (Or.inl rfl)) (zae (zab (i:=7) scWl.nd rfl (Or.inl rfl)) zbd))))))
  (za5 (zaw (zaf zcj (pv 3) za4 (nomark _))
   (za6 (za9 (i:=8) scWl.nd rfl (Or.inl rfl) (zbl (za0 (zac (za0 (pv 4) (za0 (pv 5) (za0 (za8 (ixT (K:=K)) (pv 1) za4 (fun _ _=>rfl)) (za0 (za8 (ixT (K:=K)) (pv 2) za4 (fun _ _=>rfl)) za2)))))
    (za0 (zac (za0 (za8 (ixT (K:=K)) (pv 1) za4 (fun _ _=>rfl)) (za0 (pv 5) (za0 (pv 6) (za0 (za8 (ixT (K:=K)) (pv 2) za4 (fun _ _=>rfl)) za2)))))
    (za0 (zac (za0 (za8 (ixT (K:=K)) (pv 1) za4 (fun _ _=>rfl)) (za0 (za8 (ixT (K:=K)) (pv 2) za4 (fun _ _=>rfl)) (za0 (pv 6) (za0 (pv 7) za2)))))
    (za0 (zac (za0 (pv 4) (za0 (za8 (ixT (K:=K)) (pv 2) za4 (fun _ _=>rfl)) (za0 (za8 (ixT (K:=K)) (pv 1) za4 (fun _ _=>rfl)) (za0 (pv 7) za2))))) za2)))))))
   (za6 (za9 (i:=8) scWl.nd rfl (Or.inl rfl) (zbl (za0 (zac (za0 (za8 (ixT (K:=K)) (pv 1) za4 (fun _ _=>rfl)) (za0 (pv 5) (za0 (pv 6) (za0 (za8 (ixT (K:=K)) (pv 2) za4 (fun _ _=>rfl)) za2)))))
    (za0 (zac (za0 (za8 (ixT (K:=K)) (pv 1) za4 (fun _ _=>rfl)) (za0 (za8 (ixT (K:=K)) (pv 2) za4 (fun _ _=>rfl)) (za0 (pv 6) (za0 (pv 7) za2)))))
    (za0 (zac (za0 (pv 4) (za0 (za8 (ixT (K:=K)) (pv 2) za4 (fun _ _=>rfl)) (za0 (za8 (ixT (K:=K)) (pv 1) za4 (fun _ _=>rfl)) (za0 (pv 7) za2)))))
    (za0 (zac (za0 (pv 4) (za0 (pv 5) (za0 (za8 (ixT (K:=K)) (pv 1) za4 (fun _ _=>rfl)) (za0 (za8 (ixT (K:=K)) (pv 2) za4 (fun _ _=>rfl)) za2))))) za2))))))))
  (za6 (zad (zaa zc2 (pv 8) (zbl (za0 (zac (za0 (za8 (ixT (K:=K)) (pv 1) za4 (fun _ _=>rfl)) (za0 (za8 (ixT (K:=K)) (pv 2) za4 (fun _ _=>rfl)) (za0 (za8 (ixT (K:=K)) (pv 1) za4 (fun _ _=>rfl)) (za0 (za8 (ixT (K:=K)) (pv 2) za4 (fun _ _=>rfl)) za2))))) za2)))))),?_⟩
 refine⟨_,rfl,pb,_,rfl,SqT.of hb,rfl,_,_,rfl,_,_,rfl,_,_,rfl,_,_,rfl,rfl,?_⟩;have fin:∀(H1:Hp) (p:Addr) (cs:List Addr) (bs:List Bx),Same H H1->H1 p=some (.lst (cs.map V.ref))->At BoxR H1 cs bs->bs.length=4->Parts (l,lo,r,hi) (bs++[(x0,y0,x1,y1)]) →
   tRet (tOp rCat (tVar 8) (tLst (tCons (tTup (tCons (tOp (rIxT K) (tVar 1) (tC (.int 0))) (tCons (tOp (rIxT K) (tVar 2) (tC (.int 0))) (tCons (tOp (rIxT K) (tVar 1) (tC (.int 1))) (tCons (tOp (rIxT K) (tVar 2) (tC (.int 1))) tNil))))) tNil)))
   { nx:=fun _ H'=>Q .non H',rt:=Q } [some (.ref pb),some (.ref px),some (.ref py),some (.int way),some (.int l),some (.int lo),some (.int r),some (.int hi),some (.ref p)] H1:=by
  intro H1 p cs bs s1 hp hA h4 hk;refine⟨_,rfl,_,rfl,px,_,_,_,rfl,rfl,SqT.of (s1 _ _ hx),at0,_,rfl,py,_,_,_,rfl,rfl,SqT.of (s1 _ _ hy),at0,_,rfl,px,_,_,_,rfl,rfl,SqT.of (s1 _ _ hx),at1,_,rfl,py,_,_,_,rfl,rfl,SqT.of (s1 _ _ hy),at1,by show 4<=sizeLine; decide,fun c hc=>?_⟩;have s2:=za3 hc (.tup [.int x0,.int y0,.int x1,.int y1]);have f2:BoxR (upd H1 c (.tup [.int x0,.int y0,.int x1,.int y1])) c (x0,y0,x1,y1):=za1
  (try dsimp only)
  generalize upd H1 c (.tup [.int x0,.int y0,.int x1,.int y1])=H2 at s2 f2;refine⟨by show 1<=sizeLine; decide,fun c2 hc2=>?_⟩;have s3:=za3 hc2 (.lst [.ref c]);have f3:(upd H2 c2 (.lst [.ref c])) c2=some (.lst [.ref c]):=za1
  try dsimp only
  generalize upd H2 c2 (.lst [.ref c])=H3 at s3 f3;have s23:=s2.trans s3;have lc:cs.length=4:=by rw[hA.1]; exact h4
  refine⟨p,c2,_,_,rfl,rfl,s23 _ _ hp,f3,by rw[List.length_map]; exact szle (by simp; omega),fun c4 hc4=>?_⟩;have s4:=za3 hc4 (.lst (cs.map V.ref++[.ref c]));refine q c4 _ (bs++[(x0,y0,x1,y1)]) (s1.trans (s23.trans s4)) ⟨cs++[c],by rw[za1]; simp,((hA.keep zce s23).snoc (s3 _ _ f2)).keep zce s4⟩ (by simp[h4]) (by simp[h4]) hk
 refine⟨_,rfl,rfl,_,rfl,?_⟩;refine ite2 (fun _=>?_) (fun _=>?_)
 ·refine⟨_,rfl,_,rfl,_,rfl,px,_,_,_,rfl,rfl,SqT.of hx,at1,_,rfl,py,_,_,_,rfl,rfl,SqT.of hy,at0,by show 4<=sizeLine; decide,fun c1 hc1=>?_⟩;have s1:=za3 hc1 (.tup [.int l,.int lo,.int x1,.int y0]);have g1:BoxR (upd H c1 (.tup [.int l,.int lo,.int x1,.int y0])) c1 (l,lo,x1,y0):=za1
  (try dsimp only)
  generalize upd H c1 (.tup [.int l,.int lo,.int x1,.int y0])=H1 at s1 g1;refine⟨_,rfl,px,_,_,_,rfl,rfl,SqT.of (s1 _ _ hx),at1,_,rfl,_,rfl,_,rfl,py,_,_,_,rfl,rfl,SqT.of (s1 _ _ hy),at1,by show 4<=sizeLine; decide,fun c2 hc2=>?_⟩;have s2:=za3 hc2 (.tup [.int x1,.int lo,.int r,.int y1]);have g2:BoxR (upd H1 c2 (.tup [.int x1,.int lo,.int r,.int y1])) c2 (x1,lo,r,y1):=za1
  (try dsimp only)
  generalize upd H1 c2 (.tup [.int x1,.int lo,.int r,.int y1])=H2 at s2 g2;have s12:=s1.trans s2;refine⟨_,rfl,px,_,_,_,rfl,rfl,SqT.of (s12 _ _ hx),at0,_,rfl,py,_,_,_,rfl,rfl,SqT.of (s12 _ _ hy),at1,_,rfl,_,rfl,by show 4<=sizeLine; decide,fun c3 hc3=>?_⟩;have s3:=za3 hc3 (.tup [.int x0,.int y1,.int r,.int hi]);have g3:BoxR (upd H2 c3 (.tup [.int x0,.int y1,.int r,.int hi])) c3 (x0,y1,r,hi):=za1
  (try dsimp only)
  generalize upd H2 c3 (.tup [.int x0,.int y1,.int r,.int hi])=H3 at s3 g3;have s13:=s12.trans s3;refine⟨_,rfl,_,rfl,py,_,_,_,rfl,rfl,SqT.of (s13 _ _ hy),at0,_,rfl,px,_,_,_,rfl,rfl,SqT.of (s13 _ _ hx),at0,_,rfl,by show 4<=sizeLine; decide,fun c4 hc4=>?_⟩;have s4:=za3 hc4 (.tup [.int l,.int y0,.int x0,.int hi]);have g4:BoxR (upd H3 c4 (.tup [.int l,.int y0,.int x0,.int hi])) c4 (l,y0,x0,hi):=za1
  (try dsimp only)
  generalize upd H3 c4 (.tup [.int l,.int y0,.int x0,.int hi])=H4 at s4 g4;refine⟨by show 4<=sizeLine; decide,fun c5 hc5=>?_⟩;have s5:=za3 hc5 (.lst [.ref c1,.ref c2,.ref c3,.ref c4]);have g5:(upd H4 c5 (.lst [.ref c1,.ref c2,.ref c3,.ref c4])) c5=some (.lst [.ref c1,.ref c2,.ref c3,.ref c4]):=za1
  try dsimp only
  generalize upd H4 c5 (.lst [.ref c1,.ref c2,.ref c3,.ref c4])=H5 at s5 g5;have A:At BoxR H5 [c1,c2,c3,c4] [(l,lo,x1,y0),(x1,lo,r,y1),(x0,y1,r,hi),(l,y0,x0,hi)] :=
   (((At.nil.snoc (R:=BoxR) (b:=c1) (x:=(l,lo,x1,y0)) ((s2.trans (s3.trans (s4.trans s5))) _ _ g1)).snoc (b:=c2) (x:=(x1,lo,r,y1)) ((s3.trans (s4.trans s5)) _ _ g2)).snoc (b:=c3) (x:=(x0,y1,r,hi)) ((s4.trans s5) _ _ g3)).snoc (b:=c4) (x:=(l,y0,x0,hi)) (s5 _ _ g4)
  refine fin H5 c5 [c1,c2,c3,c4] _ (s13.trans (s4.trans s5)) g5 A rfl (cut_5 (b:=(l,lo,r,hi)) i1 i2 i3 i4 i5 i6)
 ·refine⟨_,rfl,px,_,_,_,rfl,rfl,SqT.of hx,at0,_,rfl,_,rfl,_,rfl,py,_,_,_,rfl,rfl,SqT.of hy,at0,by show 4<=sizeLine; decide,fun c1 hc1=>?_⟩;have s1:=za3 hc1 (.tup [.int x0,.int lo,.int r,.int y0]);have g1:BoxR (upd H c1 (.tup [.int x0,.int lo,.int r,.int y0])) c1 (x0,lo,r,y0):=za1
  (try dsimp only)
  generalize upd H c1 (.tup [.int x0,.int lo,.int r,.int y0])=H1 at s1 g1;refine⟨_,rfl,px,_,_,_,rfl,rfl,SqT.of (s1 _ _ hx),at1,_,rfl,py,_,_,_,rfl,rfl,SqT.of (s1 _ _ hy),at0,_,rfl,_,rfl,by show 4<=sizeLine; decide,fun c2 hc2=>?_⟩;have s2:=za3 hc2 (.tup [.int x1,.int y0,.int r,.int hi]);have g2:BoxR (upd H1 c2 (.tup [.int x1,.int y0,.int r,.int hi])) c2 (x1,y0,r,hi):=za1
  (try dsimp only)
  generalize upd H1 c2 (.tup [.int x1,.int y0,.int r,.int hi])=H2 at s2 g2;have s12:=s1.trans s2;refine⟨_,rfl,_,rfl,py,_,_,_,rfl,rfl,SqT.of (s12 _ _ hy),at1,_,rfl,px,_,_,_,rfl,rfl,SqT.of (s12 _ _ hx),at1,_,rfl,by show 4<=sizeLine; decide,fun c3 hc3=>?_⟩;have s3:=za3 hc3 (.tup [.int l,.int y1,.int x1,.int hi]);have g3:BoxR (upd H2 c3 (.tup [.int l,.int y1,.int x1,.int hi])) c3 (l,y1,x1,hi):=za1
  (try dsimp only)
  generalize upd H2 c3 (.tup [.int l,.int y1,.int x1,.int hi])=H3 at s3 g3;have s13:=s12.trans s3;refine⟨_,rfl,_,rfl,_,rfl,px,_,_,_,rfl,rfl,SqT.of (s13 _ _ hx),at0,_,rfl,py,_,_,_,rfl,rfl,SqT.of (s13 _ _ hy),at1,by show 4<=sizeLine; decide,fun c4 hc4=>?_⟩;have s4:=za3 hc4 (.tup [.int l,.int lo,.int x0,.int y1]);have g4:BoxR (upd H3 c4 (.tup [.int l,.int lo,.int x0,.int y1])) c4 (l,lo,x0,y1):=za1
  (try dsimp only)
  generalize upd H3 c4 (.tup [.int l,.int lo,.int x0,.int y1])=H4 at s4 g4;refine⟨by show 4<=sizeLine; decide,fun c5 hc5=>?_⟩;have s5:=za3 hc5 (.lst [.ref c1,.ref c2,.ref c3,.ref c4]);have g5:(upd H4 c5 (.lst [.ref c1,.ref c2,.ref c3,.ref c4])) c5=some (.lst [.ref c1,.ref c2,.ref c3,.ref c4]):=za1
  try dsimp only
  generalize upd H4 c5 (.lst [.ref c1,.ref c2,.ref c3,.ref c4])=H5 at s5 g5;have A:At BoxR H5 [c1,c2,c3,c4] [(x0,lo,r,y0),(x1,y0,r,hi),(l,y1,x1,hi),(l,lo,x0,y1)] :=
   (((At.nil.snoc (R:=BoxR) (b:=c1) (x:=(x0,lo,r,y0)) ((s2.trans (s3.trans (s4.trans s5))) _ _ g1)).snoc (b:=c2) (x:=(x1,y0,r,hi)) ((s3.trans (s4.trans s5)) _ _ g2)).snoc (b:=c3) (x:=(l,y1,x1,hi)) ((s4.trans s5) _ _ g3)).snoc (b:=c4) (x:=(l,lo,x0,y1)) (s5 _ _ g4)
  refine fin H5 c5 [c1,c2,c3,c4] _ (s13.trans (s4.trans s5)) g5 A rfl (cut_5' (b:=(l,lo,r,hi)) i1 i2 i3 i4 i5 i6)
inductive SpBrokenR(vs:List V)(H:Hp)(Q:VK):Prop
 | mk (pb:Addr) (b:Bx) (c:Int) (h_0:vs=[.ref pb,.int c]) (h_1:BoxR H pb b) (h_2:b.l<b.r) (h_3:b.d<b.u) (h_4:PtQ H Q b 1 5):SpBrokenR vs H Q
def spBroken:Sp:=fun vs H Q _=>SpBrokenR vs H Q
theorem scBk:FnScope ["_law_box","_law_cell","_law_left","_law_low","_law_right","_law_high","_law_how","_law_x","_law_y"] ["_law_box","_law_cell"] (defScope zbj):=⟨rfl,rfl,rfl,by decide +kernel,rfl,by decide +kernel,by decide +kernel⟩
set_option maxHeartbeats 4000000 in
theorem zlh (F:Fun K "_law_broken" "_law_broken" zbj f fd) (G1:FnOk P w K mg base CX0 1 f1 d1 ["_law_low","_law_high","_law_cell"] spTwo) (b1:Binds K d1 ["_law_low","_law_high","_law_cell"] []) (k1:PySem.W.keepIn K (.ref f1)=true) (m1:mg "_law_two" = some (.ref f1))
  (G2:FnOk P w K mg base CX0 1 f2 d2 ["_law_box","_law_x","_law_y","_law_way"] spWheel) (b2:Binds K d2 ["_law_box","_law_x","_law_y","_law_way"] []) (k2:PySem.W.keepIn K (.ref f2)=true) (m2:mg "_law_wheel" = some (.ref f2)) :
  FnOk P w K mg base CX0 2 f fd ["_law_box","_law_cell"] spBroken:=by
 refine F.ok scBk (fun vs H Q E h=>?_) (fun cdv A outer s H vs Q E hr h=>?_)
 ·obtain⟨pb,b,c,rfl,_⟩:=h;rfl
 obtain⟨pb,⟨l,lo,r,hi⟩,c,rfl,hb,t1,t2,q⟩:=h;dsimp only[Box.l,Box.d,Box.r,Box.u] at t1 t2;refine⟨_,za5 (ze5 (pv 0) (pgTup (n:=4) (K:=K) rfl (zae (zab (i:=2) scBk.nd rfl (Or.inl rfl)) (zae (zab (i:=3) scBk.nd rfl (Or.inl rfl)) (zae (zab (i:=4) scBk.nd rfl (Or.inl rfl)) (zae (zab (i:=5) scBk.nd rfl (Or.inl rfl)) zbd))))))
  (za5 (za9 (i:=6) scBk.nd rfl (Or.inl rfl) (zaa zb4 (pv 1) za4))
  (za5 (za9 (i:=1) scBk.nd rfl (Or.inl rfl) (zaa zer (pv 1) za4))
  (za5 (zaw (PW.pt (zgg (zaf zcj (pv 6) za4 (nomark _)) (zgg (zaf zde (zaa zav (pv 4) (pv 2)) za4 (nomark _)) (zft (zaf zde (zaa zav (pv 5) (pv 3)) za4 (nomark _))))))
   (za5 (za9 (i:=7) scBk.nd rfl (Or.inl rfl) (za7 G1 hr (by rfl) m1 k1 b1 .nil pass0 (za0 (pv 2) (za0 (pv 4) (za0 (zaa zer (pv 1) za4) za2)))))
   (za5 (za9 (i:=8) scBk.nd rfl (Or.inl rfl) (za7 G1 hr (by rfl) m1 k1 b1 .nil pass0 (za0 (pv 3) (za0 (pv 5) (za0 (zaa zer (pv 1) za4) za2)))))
   (za6 (zad (za7 G2 hr (by rfl) m2 k2 b2 .nil pass0 (za0 (pv 0) (za0 (pv 7) (za0 (pv 8) (za0 (zaa zb4 (pv 1) za4) za2))))))))) zaj)
  (za5 (zaw (PW.pt (zgg (zaf zcj (zaa zb4 (pv 6) za4) za4 (nomark _)) (zft (zaf zde (zaa zav (pv 4) (pv 2)) za4 (nomark _)))))
   (za5 (za9 (i:=7) scBk.nd rfl (Or.inl rfl) (zaa zal (zaa zal (pv 2) za4) (zaa zb4 (pv 1) (zaa zav (zaa zav (pv 4) (pv 2)) za4))))
   (za6 (zad (zbl (za0 (zac (za0 (pv 2) (za0 (pv 3) (za0 (pv 7) (za0 (pv 5) za2))))) (za0 (zac (za0 (pv 7) (za0 (pv 3) (za0 (pv 4) (za0 (pv 5) za2))))) za2)))))) zaj)
  (za5 (zaw (zaf zde (zaa zav (pv 5) (pv 3)) za4 (nomark _))
   (za5 (za9 (i:=8) scBk.nd rfl (Or.inl rfl) (zaa zal (zaa zal (pv 3) za4) (zaa zb4 (pv 1) (zaa zav (zaa zav (pv 5) (pv 3)) za4))))
   (za6 (zad (zbl (za0 (zac (za0 (pv 2) (za0 (pv 3) (za0 (pv 4) (za0 (pv 8) za2))))) (za0 (zac (za0 (pv 2) (za0 (pv 8) (za0 (pv 4) (za0 (pv 5) za2))))) za2)))))) zaj)
  (za6 (zad (zbl (za0 (pv 0) za2))))))))),?_⟩
 refine⟨_,rfl,pb,_,rfl,SqT.of hb,rfl,_,_,rfl,_,_,rfl,_,_,rfl,_,_,rfl,rfl,?_⟩;refine⟨_,rfl,_,_,rfl,rfl,(show(0:Int)<5 by decide),_,rfl,_,_,rfl,rfl,⟨by decide,by decide⟩,?_⟩;have fin2:∀(a1 b1 c1 d1 a2 b2 c2 d2:Int),Parts (l,lo,r,hi) [(a1,b1,c1,d1),(a2,b2,c2,d2)]->∀p,H p=none->∀p2,(upd H p (.tup [.int a1,.int b1,.int c1,.int d1])) p2=none->∀p3,(upd (upd H p (.tup [.int a1,.int b1,.int c1,.int d1])) p2 (.tup [.int a2,.int b2,.int c2,.int d2])) p3=none →
   Q (.ref p3) (upd (upd (upd H p (.tup [.int a1,.int b1,.int c1,.int d1])) p2 (.tup [.int a2,.int b2,.int c2,.int d2])) p3 (.lst [.ref p,.ref p2])):=by
  intro a1 b1 c1 d1 a2 b2 c2 d2 pt p hp p2 hp2 p3 hp3;obtain⟨H1,e1,s1,g1⟩:=zln hp a1 b1 c1 d1;rw[e1] at hp2 hp3 ⊢;obtain⟨H2,e2,s2,g2⟩:=zln hp2 a2 b2 c2 d2;rw[e2] at hp3 ⊢;have s3:=za3 hp3 (.lst [.ref p,.ref p2]);refine q p3 _ [(a1,b1,c1,d1),(a2,b2,c2,d2)] (s1.trans (s2.trans s3)) ⟨[p,p2],za1,(At.nil.snoc (R:=BoxR) (b:=p) (x:=(a1,b1,c1,d1)) ((s2.trans s3) _ _ g1)).snoc (b:=p2) (x:=(a2,b2,c2,d2)) (s3 _ _ g2)⟩ (by simp) (by simp) pt
 refine⟨_,rfl,rfl,_,rfl,?_⟩;apply joinP
 case m =>
  intro rest;refine ite2 (fun _=>⟨_,rfl,_,rfl,_,_,rfl,rfl,_,_,rfl,rfl,_,rfl,?_⟩) (fun _=>rest);by_cases h2:(2:Int)<r-l
  ·refine iteDT h2 ⟨_,rfl,_,rfl,_,_,rfl,rfl,_,_,rfl,rfl,_,rfl,?_⟩;by_cases h3:(2:Int)<hi-lo
   ·refine iteDT h3 ?_;refine⟨_,rfl,_,rfl,_,rfl,_,_,rfl,rfl,⟨by decide,by decide⟩,l,r,_,rfl,by omega,fun x0 x1 q1 q2 q3 px hpx=>?_⟩;have s1:=za3 hpx (.tup [.int x0,.int x1]);have g1:(upd H px (.tup [.int x0,.int x1])) px=some (.tup [.int x0,.int x1]):=za1;generalize upd H px (.tup [.int x0,.int x1])=H1 at s1 g1;refine⟨_,rfl,_,rfl,_,rfl,_,_,rfl,rfl,⟨by decide,by decide⟩,lo,hi,_,rfl,by omega,fun y0 y1 q4 q5 q6 py hpy=>?_⟩;have s2:=za3 hpy (.tup [.int y0,.int y1]);have g2:(upd H1 py (.tup [.int y0,.int y1])) py=some (.tup [.int y0,.int y1]):=za1;generalize upd H1 py (.tup [.int y0,.int y1])=H2 at s2 g2;exact⟨_,rfl,_,rfl,_,rfl,_,rfl,_,_,rfl,rfl,(show(0:Int)<2 by decide),pb,px,py,(l,lo,r,hi),x0,x1,y0,y1,_,rfl,zce (s1.trans s2) hb,s2 _ _ g1,g2,⟨q1,q2,q3,q4,q5,q6⟩,fun p H' bs s3 hL n1 n2 hk=>q p H' bs ((s1.trans s2).trans s3) hL (by omega) n2 hk⟩
   ·exact iteDF h3 rest
  ·exact iteDF h2 rest
 case r =>
  refine⟨_,rfl,_,_,rfl,rfl,(show(0:Int)<2 by decide),rfl,_,rfl,?_⟩;apply joinP
  case m =>
   intro rest;refine ite2 (fun _=>⟨_,rfl,_,rfl,_,_,rfl,rfl,_,_,rfl,rfl,_,rfl,?_⟩) (fun _=>rest);by_cases h2:(1:Int)<r-l
   ·refine iteDT h2 ?_;have h1:(0:Int)<r-l-1:=by omega
    have a0:=Int.emod_nonneg (c / 5) (Int.ne_of_gt h1);have a1:=Int.emod_lt_of_pos (c / 5) h1;refine⟨_,rfl,_,_,rfl,rfl,_,rfl,_,rfl,_,rfl,_,_,rfl,rfl,_,_,rfl,rfl,_,_,rfl,rfl,h1,_,_,rfl,rfl,?_⟩
    (try dsimp only)
    generalize hx:l+1+c / 5 % (r-l-1)=x;refine⟨_,rfl,_,rfl,_,rfl,_,rfl,by show 4<=sizeLine; decide,fun p hp=>⟨_,rfl,_,rfl,_,rfl,_,rfl,by show 4<=sizeLine; decide,fun p2 hp2=>⟨by show 2<=sizeLine; decide,fun p3 hp3=>?_⟩⟩⟩;exact fin2 l lo x hi x lo r hi (cut_x (b:=(l,lo,r,hi)) (by show l<x; omega) (by show x<r; omega) t2) p hp p2 hp2 p3 hp3
   ·exact iteDF h2 rest
  case r =>
   refine⟨_,rfl,_,rfl,_,_,rfl,rfl,_,_,rfl,rfl,_,rfl,?_⟩;by_cases h2:(1:Int)<hi-lo
   ·refine iteDT h2 ?_;have h1:(0:Int)<hi-lo-1:=by omega
    have a0:=Int.emod_nonneg (c / 5) (Int.ne_of_gt h1);have a1:=Int.emod_lt_of_pos (c / 5) h1;refine⟨_,rfl,_,_,rfl,rfl,_,rfl,_,rfl,_,rfl,_,_,rfl,rfl,_,_,rfl,rfl,_,_,rfl,rfl,h1,_,_,rfl,rfl,?_⟩
    (try dsimp only)
    generalize hy:lo+1+c / 5 % (hi-lo-1)=y;refine⟨_,rfl,_,rfl,_,rfl,_,rfl,by show 4<=sizeLine; decide,fun p hp=>⟨_,rfl,_,rfl,_,rfl,_,rfl,by show 4<=sizeLine; decide,fun p2 hp2=>⟨by show 2<=sizeLine; decide,fun p3 hp3=>?_⟩⟩⟩;exact fin2 l lo r y l y r hi (cut_y (b:=(l,lo,r,hi)) (by show lo<y; omega) (by show y<hi; omega) t1) p hp p2 hp2 p3 hp3
   ·refine iteDF h2 ⟨_,rfl,by show 1<=sizeLine; decide,fun p hp=>?_⟩;have s1:=za3 hp (.lst [.ref pb]);refine q p _ [(l,lo,r,hi)] s1 ⟨[pb],za1,At.nil.snoc (R:=BoxR) (b:=pb) (x:=(l,lo,r,hi)) (s1 _ _ hb)⟩ (by simp) (by simp) (zl8 t1 t2)
end
theorem zpg{xs:List V}{x:V}(h:xs[xs.length-1]?=some x)(n:0<xs.length):atI xs (-1)=some x:=by
 unfold atI ixN;rw[if_neg (by omega),if_pos (by omega),show((-1:Int)+(xs.length:Int)).toNat=xs.length-1 by omega];exact h
theorem zpc(xs:List V)(n:0<xs.length):cutV xs none (some (-1))=xs.dropLast:=by
 unfold cutV;have e1:HT.sIx xs.length 0 none=0:=rfl;have e2:HT.sIx xs.length xs.length (some (-1))=xs.length-1:=by
  simp only[HT.sIx];split <;> omega
 rw[e1,e2,List.dropLast_eq_take]; simp
structure FlT(w h:Int)(bs:List Bx):Prop where
 tile:Tile w h bs
 tru:∀b∈bs,b.l<b.r/\b.d<b.u
theorem FlT.cut{w h:Int}{bs ps:List Bx}{b pL:Bx}{j:Nat}(t:FlT w h bs)(eb:bs[j]?=some b)(p:Parts b ps)(pl:ps[ps.length-1]?=some pL):FlT w h (bs.take j++[pL]++bs.drop (j+1)++ps.dropLast):=by
 obtain⟨hj,ej⟩:=List.getElem?_eq_some_iff.mp eb;have e1:bs=bs.take j++b :: bs.drop (j+1):=by rw[<-ej,<-List.drop_eq_getElem_cons hj]; exact(List.take_append_drop j bs).symm
 have hn:ps≠[]:=by rintro rfl; simp at pl
 have e2:ps=ps.dropLast++[pL]:=by
  have:=List.dropLast_concat_getLast hn
  rw[List.getLast_eq_getElem] at this;obtain⟨q1,q2⟩:=List.getElem?_eq_some_iff.mp pl;rw[q2] at this;exact this.symm
 have tt:=t.tile;rw[e1] at tt;have t2:=tt.cut p;have pm:(bs.take j++[pL]++bs.drop (j+1)++ps.dropLast).Perm (bs.take j++ps++bs.drop (j+1)):=by
  conv=>rhs; rw[e2]
  rw[List.append_assoc,List.append_assoc,List.append_assoc];refine List.Perm.append_left _ ?_;rw[<-List.append_assoc];refine(List.perm_append_comm).trans ?_;rw[List.append_assoc,<-List.append_assoc]
 refine⟨t2.perm pm,fun c hc=>?_⟩;have hc2:=pm.mem_iff.mp hc;simp only[List.mem_append] at hc2;rcases hc2 with (z | z) | z
 ·exact t.tru c (List.mem_of_mem_take z)
 ·exact p.ok c z
 ·exact t.tru c (List.mem_of_mem_drop z)
abbrev FtQ(H:Hp)(Q:VK)(w h:Int)(n m:Nat):Prop:=∀(p:Addr) (H':Hp) (bs:List Bx),Same H H'->LstR BoxR H' p bs->n<=bs.length->bs.length<=m->FlT w h bs->Q (.ref p) H'
section
variable {P:Program} {w:World} {K:PySem.W.Frag} {mg:Str->Option Value} {base:Heap} {f g h f1 f2 f3:Addr} {fd gd hd d1 d2 d3:FuncData}
inductive SpBuiltR(K:PySem.W.Frag)(vs:List V)(H:Hp)(Q:VK):Prop
 | mk (a:Addr) (ns:List Int) (wd hg:Int) (h_0:vs=[.ref a,.int 30,.int 40,.int wd,.int hg,.int 10]) (h_1:ScA K H a ns) (h_2:0<wd) (h_3:0<hg) (h_4:FtQ H Q wd hg 1 10):SpBuiltR K vs H Q
def spBuilt(K:PySem.W.Frag):Sp:=fun vs H Q _=>SpBuiltR K vs H Q
theorem scBu:FnScope ["_law_script","_law_first","_law_last","_law_wide","_law_high","_law_most","_law_boxes","_law_k","_law_cell","_law_at","_law_parts"] ["_law_script","_law_first","_law_last","_law_wide","_law_high","_law_most"] (defScope zbu):=⟨rfl,rfl,rfl,by decide +kernel,rfl,by decide +kernel,by decide +kernel⟩
set_option maxHeartbeats 4000000 in
theorem zoj (F:Fun K "_law_built" "_law_built" zbu f fd) (G1:FnOk P w K mg base CX0 1 f1 d1 ["_law_script","_law_k"] (spCell K)) (b1:Binds K d1 ["_law_script","_law_k"] []) (k1:PySem.W.keepIn K (.ref f1)=true) (m1:mg "_law_cell_at" = some (.ref f1))
  (G2:FnOk P w K mg base CX0 2 f2 d2 ["_law_box","_law_cell"] spBroken) (b2:Binds K d2 ["_law_box","_law_cell"] []) (k2:PySem.W.keepIn K (.ref f2)=true) (m2:mg "_law_broken" = some (.ref f2)) (ml:mg "len" = none) (mn:mg "min" = none) (mr:mg "range" = none) :
  FnOk P w K mg base CX0 3 f fd ["_law_script","_law_first","_law_last","_law_wide","_law_high","_law_most"] (spBuilt K):=by
 refine F.ok scBu (fun vs H Q E h=>?_) (fun cdv A outer s H vs Q E hr h=>?_)
 ·obtain⟨a,ns,wd,hg,rfl,_⟩:=h;rfl
 obtain⟨a,ns,wd,hg,rfl,hS,kw,kh,q⟩:=h;have hr1:=hr.mono (show 1<=2 by decide);refine⟨_,za5 (za9 (i:=6) scBu.nd rfl (Or.inl rfl) (zbl (za0 (zac (za0 za4 (za0 za4 (za0 (pv 3) (za0 (pv 4) za2))))) za2)))
  (za5 (zb9 PassesOwn.never rfl (zcd (by rfl) mr (za0 (pv 1) (za0 (zag (zd5 rfl) (by rfl) mn zh4 (za0 (zag (callLen (K:=K)) (by rfl) ml zc4 (za0 (pv 0) za2)) (za0 (pv 2) za2))) za2))) (zab (i:=7) scBu.nd rfl (Or.inl rfl))
   (za5 (za9 (i:=8) scBu.nd rfl (Or.inl rfl) (za7 G1 hr1 (by rfl) m1 k1 b1 .nil pass0 (za0 (pv 0) (za0 (pv 7) za2))))
   (za5 (za9 (i:=9) scBu.nd rfl (Or.inl rfl) (zaa zb4 (pv 8) (zag (callLen (K:=K)) (by rfl) ml zc4 (za0 (pv 6) za2))))
   (za5 (za9 (i:=10) scBu.nd rfl (Or.inl rfl) (za7 G2 hr (by rfl) m2 k2 b2 .nil pass0 (za0 (za8 (ixL (K:=K)) (pv 6) (pv 9) (fun _ _=>rfl)) (za0 (zaa zer (pv 8) za4) za2))))
   (za6 (zaw (zaf op_le (zaa zal (zag (callLen (K:=K)) (by rfl) ml zc4 (za0 (pv 6) za2)) (zag (callLen (K:=K)) (by rfl) ml zc4 (za0 (pv 10) za2))) (zaa zal (pv 5) za4) (nomark _))
    (za6 (za9 (i:=6) scBu.nd rfl (Or.inl rfl) (zaa zc2 (zaa zc2 (zaa zc2 (zaq (slL (K:=K)) (pv 6) zb8 (zb7 (pv 9))) (zbl (za0 (za8 (ixL (K:=K)) (pv 10) (zhp zej za4) (fun _ _=>rfl)) za2))) (zaq (slL (K:=K)) (pv 6) (zb7 (zaa zal (pv 9) za4)) zb8)) (zaq (slL (K:=K)) (pv 10) zb8 (zb7 (zhp zej za4)))))) zaj))))))
  (za6 (zad (pv 6)))),?_⟩
 refine⟨_,rfl,_,rfl,by show 4<=sizeLine; decide,fun c0 hc0=>?_⟩;have s1:=za3 hc0 (.tup [.int 0,.int 0,.int wd,.int hg]);have g1:BoxR (upd H c0 (.tup [.int 0,.int 0,.int wd,.int hg])) c0 (0,0,wd,hg):=za1;generalize upd H c0 (.tup [.int 0,.int 0,.int wd,.int hg])=H1 at s1 g1;refine⟨by show 1<=sizeLine; decide,fun L0 hL0=>?_⟩;have s2:=za3 hL0 (.lst [.ref c0]);have g2:(upd H1 L0 (.lst [.ref c0])) L0=some (.lst [.ref c0]):=za1;generalize upd H1 L0 (.lst [.ref c0])=H2 at s2 g2;have s12:=s1.trans s2;refine⟨_,rfl,_,rfl,a,_,rfl,.inl (s12.seq hS.1),_,rfl,_,_,rfl,?_⟩;obtain⟨L,hL,L0',L1⟩:∃L:Int,(if (40:Int)<(((ns.map V.int).length:Nat):Int) then (40:Int) else (((ns.map V.int).length:Nat):Int))=L/\0<=L/\L<=40:=⟨_,rfl,by split <;> omega,by split <;> omega⟩;rw[hL];refine⟨_,_,rfl,⟨by omega,by omega,by omega,by omega⟩,?_⟩;refine zbp (lo:=30) (n:=(L-30).toNat) (fun i σ H3=>Same H H3/\∃(p:Addr) (bs:List Bx) (u7 u8 u9 u10:Option V),σ=[some (.ref a),some (.int 30),some (.int 40),some (.int wd),some (.int hg),some (.int 10),some (.ref p),u7,u8,u9,u10]/\LstR BoxR H3 p bs/\1<=bs.length/\bs.length<=10/\FlT wd hg bs)
  ⟨s12,L0,[(0,0,wd,hg)],none,none,none,none,rfl,⟨[c0],g2,At.nil.snoc (R:=BoxR) (b:=c0) (x:=(0,0,wd,hg)) (s2 _ _ g1)⟩,by simp,by simp,⟨zk0 kw kh,fun b hb=>by rw[List.mem_singleton.mp hb]; exact⟨kw,kh⟩⟩⟩ ?_ ?_
 ·rintro i σ H3 hi ⟨s3,p,bs,u7,u8,u9,u10,rfl,⟨cs,hp,hC⟩,n1,n2,kb⟩;have lc:cs.length=bs.length:=hC.1;have lm:(cs.map V.ref).length=bs.length:=by rw[List.length_map,lc]
  refine⟨_,rfl,_,rfl,a,ns,_,rfl,⟨s3.seq hS.1,hS.2⟩,by omega,fun z hz=>?_⟩;have zp:(0:Int)<((cs.map V.ref).length:Int):=by omega
  refine⟨_,rfl,_,rfl,p,_,rfl,.inl (SqL.of hp),_,_,rfl,rfl,zp,?_⟩;have y0:=Int.emod_nonneg z (Int.ne_of_gt zp);have y1:=Int.emod_lt_of_pos z zp;obtain⟨j,hj⟩:=Int.eq_ofNat_of_zero_le y0;rw[hj] at y1;have jl:j<bs.length:=by omega
  have eb:bs[j]?=some bs[j]:=List.getElem?_eq_getElem jl;generalize bs[j]=b at eb;obtain⟨c,hc,fb⟩:=hC.get eb;have hat:atI (cs.map V.ref) (z % ((cs.map V.ref).length:Int))=some (.ref c):=by rw[hj]; exact zak (zeo hc)
  refine⟨_,rfl,_,rfl,p,_,_,_,rfl,rfl,SqL.of hp,hat,_,rfl,_,_,rfl,rfl,⟨by decide,by decide⟩,c,b,_,rfl,fb,(kb.tru b (List.mem_of_getElem? eb)).1,(kb.tru b (List.mem_of_getElem? eb)).2,fun pp H4 ps s4 ⟨ds,hpp,hD⟩ m1' m5 kp=>?_⟩;have ld:ds.length=ps.length:=hD.1;have hp4:=s4 _ _ hp;refine⟨_,rfl,p,_,rfl,.inl (SqL.of hp4),_,rfl,pp,_,rfl,.inl (SqL.of hpp),_,_,rfl,rfl,_,rfl,_,_,rfl,rfl,_,_,rfl,rfl,_,rfl,?_⟩;by_cases hle:(((cs.map V.ref).length:Nat):Int)+(((ds.map V.ref).length:Nat):Int)<=10+1
  ·refine iteDT hle ?_;rw[lm,List.length_map,ld] at hle;refine⟨_,rfl,_,rfl,_,rfl,p,_,rfl,SqL.of hp4,fun q1 hq1=>?_⟩;rw[show cutV (cs.map V.ref) none (some (z % ((cs.map V.ref).length:Int)))=(cs.take j).map V.ref by rw[hj]; exact(zeg _ (by omega)).trans (List.map_take ..).symm];have s5:=za3 hq1 (.lst ((cs.take j).map V.ref));have g5:(upd H4 q1 (.lst ((cs.take j).map V.ref))) q1=some (.lst ((cs.take j).map V.ref)):=za1;generalize upd H4 q1 (.lst ((cs.take j).map V.ref))=H5 at s5 g5;have dl:ds[ds.length-1]?=some ds[ds.length-1]:=List.getElem?_eq_getElem (by omega);generalize ds[ds.length-1]=dL at dl;refine⟨_,rfl,_,rfl,pp,_,_,_,rfl,rfl,SqL.of (s5 _ _ hpp),zpg (by rw[List.length_map]; exact zeo dl) (by rw[List.length_map]; omega),by show 1<=sizeLine; decide,fun q2 hq2=>?_⟩;have s6:=za3 hq2 (.lst [.ref dL]);have g6:(upd H5 q2 (.lst [.ref dL])) q2=some (.lst [.ref dL]):=za1;generalize upd H5 q2 (.lst [.ref dL])=H6 at s6 g6;refine⟨q1,q2,_,_,rfl,rfl,s6 _ _ g5,g6,by simp; exact szle (by omega),fun q3 hq3=>?_⟩;have s7:=za3 hq3 (.lst ((cs.take j).map V.ref++[.ref dL]));have g7:(upd H6 q3 (.lst ((cs.take j).map V.ref++[.ref dL]))) q3=some (.lst ((cs.take j).map V.ref++[.ref dL])):=za1;generalize upd H6 q3 (.lst ((cs.take j).map V.ref++[.ref dL]))=H7 at s7 g7;have s57:=s5.trans (s6.trans s7);refine⟨_,rfl,_,rfl,_,_,rfl,rfl,_,rfl,p,_,rfl,SqL.of (s57 _ _ hp4),fun q4 hq4=>?_⟩;rw[show cutV (cs.map V.ref) (some (z % ((cs.map V.ref).length:Int)+1)) none=(cs.drop (j+1)).map V.ref by rw[hj]; exact(zeh (j:=j+1) _ (by omega)).trans (List.map_drop ..).symm];have s8:=za3 hq4 (.lst ((cs.drop (j+1)).map V.ref));have g8:(upd H7 q4 (.lst ((cs.drop (j+1)).map V.ref))) q4=some (.lst ((cs.drop (j+1)).map V.ref)):=za1;generalize upd H7 q4 (.lst ((cs.drop (j+1)).map V.ref))=H8 at s8 g8;refine⟨q3,q4,_,_,rfl,rfl,s8 _ _ g7,g8,by simp; exact szle (by omega),fun q5 hq5=>?_⟩;have s9:=za3 hq5 (.lst ((cs.take j).map V.ref++[.ref dL]++(cs.drop (j+1)).map V.ref));have g9:(upd H8 q5 (.lst ((cs.take j).map V.ref++[.ref dL]++(cs.drop (j+1)).map V.ref))) q5=some (.lst ((cs.take j).map V.ref++[.ref dL]++(cs.drop (j+1)).map V.ref)):=za1;generalize upd H8 q5 (.lst ((cs.take j).map V.ref++[.ref dL]++(cs.drop (j+1)).map V.ref))=H9 at s9 g9;have s59:=s57.trans (s8.trans s9);refine⟨_,rfl,_,rfl,_,rfl,pp,_,rfl,SqL.of (s59 _ _ hpp),fun q6 hq6=>?_⟩;rw[zpc _ (by rw[List.length_map]; omega),<-List.map_dropLast];have s10:=za3 hq6 (.lst (ds.dropLast.map V.ref));have g10:(upd H9 q6 (.lst (ds.dropLast.map V.ref))) q6=some (.lst (ds.dropLast.map V.ref)):=za1;generalize upd H9 q6 (.lst (ds.dropLast.map V.ref))=H10 at s10 g10;refine⟨q5,q6,_,_,rfl,rfl,s10 _ _ g9,g10,by simp; exact szle (by omega),fun q7 hq7=>?_⟩;have s11:=za3 hq7 (.lst ((cs.take j).map V.ref++[.ref dL]++(cs.drop (j+1)).map V.ref++ds.dropLast.map V.ref));have s511:=s59.trans (s10.trans s11);have pl:ps[ps.length-1]?=some ps[ps.length-1]:=List.getElem?_eq_getElem (by omega);generalize ps[ps.length-1]=pL at pl;have hdL:BoxR H4 dL pL:=hD.2 _ _ _ dl (by rw[ld]; exact pl);have A1:At BoxR H4 (cs.take j++[dL]++cs.drop (j+1)++ds.dropLast) (bs.take j++[pL]++bs.drop (j+1)++ps.dropLast):=by
    refine((((hC.keep zce s4).take j).snoc hdL).app ((hC.keep zce s4).drop (j+1))).app ?_;rw[List.dropLast_eq_take,List.dropLast_eq_take,ld];exact hD.take _
   refine⟨s3.trans (s4.trans s511),q7,bs.take j++[pL]++bs.drop (j+1)++ps.dropLast,_,_,_,_,rfl,⟨_,by rw[za1]; simp,A1.keep zce s511⟩,by simp; omega,by simp; omega,kb.cut eb kp pl⟩
  ·exact iteDF hle ⟨s3.trans s4,p,bs,_,_,_,_,rfl,⟨cs,hp4,hC.keep zce s4⟩,n1,n2,kb⟩
 ·rintro σ H3 ⟨s3,p,bs,u7,u8,u9,u10,rfl,hL3,n1,n2,kb⟩;exact⟨_,rfl,q p H3 bs s3 hL3 n1 n2 kb⟩
inductive SpScOR(vs:List V)(H:Hp)(Q:VK):Prop
 | mk (n:Int) (p:Addr) (c:Rat) (h_0:vs=[.int n,.ref p]) (h_1:FrR H p c) (h_2:Sb 7 13 c) (h_3:n.natAbs<=2 ^ 20) (h_4:GivQ H Q ((n:Rat)*c)):SpScOR vs H Q
def spScO:Sp:=fun vs H Q _=>SpScOR vs H Q
theorem scSO:FnScope ["_law_number","_law_scale"] ["_law_number","_law_scale"] (defScope zao):=⟨rfl,rfl,rfl,by decide +kernel,rfl,by decide +kernel,by decide +kernel⟩
theorem sc_rat(n:Int)(c:Rat):(((n*c.num:Int)):Rat) / ((c.den:Int):Rat)=(n:Rat)*c:=by
 rw[Rat.intCast_mul,Rat.div_def,Rat.mul_assoc,<-Rat.div_def,rat_of]
theorem ok_scO(F:Fun K "_law_scaled_one" "_law_scaled_one" zao f fd)(G:FnOk P w K mg base CX0 1 g gd ["_law_top","_law_bottom"] spLow)(bG:Binds K gd ["_law_top","_law_bottom"] [])(kG:PySem.W.keepIn K (.ref g)=true)(mG:mg "_law_lowest" = some (.ref g)):
  FnOk P w K mg base CX0 2 f fd ["_law_number","_law_scale"] spScO:=by
 refine F.ok scSO (fun vs H Q E h=>?_) (fun cdv A outer s H vs Q E hr h=>?_)
 ·obtain⟨n,p,c,rfl,_⟩:=h;rfl
 obtain⟨n,p,c,rfl,hp,sc,nb,q⟩:=h;refine⟨_,za6 (zad (za7 G hr (by rfl) mG kG bG .nil pass0 (za0 (zaa zdv (pv 0) (za8 (ixT (K:=K)) (pv 1) za4 (fun _ _=>rfl))) (za0 (za8 (ixT (K:=K)) (pv 1) za4 (fun _ _=>rfl)) za2)))),?_⟩;have dn:=c.den_nz;refine⟨_,rfl,_,rfl,p,_,_,_,rfl,rfl,SqT.of hp,at0,_,_,rfl,rfl,⟨big2 nb (by decide),big2 sc.1 (by decide)⟩,_,rfl,p,_,_,_,rfl,rfl,SqT.of hp,at1,_,_,rfl,by omega,big2 (n:=13) (by rw[Int.natAbs_natCast]; exact sc.2) (by decide),?_⟩;rw[sc_rat];exact q
abbrev bxL(b:Bx):List Int:=[b.1,b.2.1,b.2.2.1,b.2.2.2]
abbrev BxW(b:Bx):Prop:=∀x∈bxL b,x.natAbs<=2 ^ 20
inductive SpScdR(vs:List V)(H:Hp)(Q:VK):Prop
 | mk (pb p:Addr) (b:Bx) (c:Rat) (h_0:vs=[.ref pb,.ref p]) (h_1:BoxR H pb b) (h_2:FrR H p c) (h_3:Sb 7 13 c) (h_4:BxW b) (h_5:∀t H',Same H H'->TupR FrR H' t ((bxL b).map fun (x:Int)=>(x:Rat)*c)->Q (.ref t) H'):SpScdR vs H Q
def spScd:Sp:=fun vs H Q _=>SpScdR vs H Q
theorem scSd:FnScope ["_law_box","_law_scale"] ["_law_box","_law_scale"] (defScope zbh):=⟨rfl,rfl,rfl,by decide +kernel,rfl,by decide +kernel,by decide +kernel⟩
theorem ndPS:(["_law_part","_law_scale"]:List Str).Nodup:=by decide +kernel
theorem ok_scd(F:Fun K "_law_scaled" "_law_scaled" zbh f fd)(G:FnOk P w K mg base CX0 2 g gd ["_law_number","_law_scale"] spScO)(bG:Binds K gd ["_law_number","_law_scale"] [])(kG:PySem.W.keepIn K (.ref g)=true)(mG:mg "_law_scaled_one" = some (.ref g))(mt:mg "tuple" = none):
  FnOk P w K mg base CX0 3 f fd ["_law_box","_law_scale"] spScd:=by
 refine F.ok scSd (fun vs H Q E h=>?_) (fun cdv A outer s H vs Q E hr h=>?_)
 ·obtain⟨pb,p,b,c,rfl,_⟩:=h;rfl
 obtain⟨pb,p,b,c,rfl,hb,hp,sc,bw,q⟩:=h;refine⟨_,za6 (zad (zbo zcs (by rfl) mt zct (za0 (zd1 (Nc:=["_law_part","_law_scale"]) (cap:=[(1,1)]) (g:=gName 0) (te:=tCall spScO [] E0 (tCons (tVar 0) (tCons (tVar 1) tNil))) rfl (zgh (pv 0))
   (zbe rfl rfl (by decide +kernel) (by decide +kernel) (List.forall_mem_cons.mpr ⟨⟨rfl,rfl⟩,List.forall_mem_nil _⟩) rfl (List.forall_mem_cons.mpr ⟨⟨_,_,rfl,rfl,rfl,rfl,rfl⟩,List.forall_mem_nil _⟩))
   (fun C fp pins s' H'=>zab (i:=0) ndPS rfl (Or.inl rfl)) (fun C fp pins s' H'=>za7 G hr (by rfl) mG kG bG .nil pass0 (za0 (pv 0) (za0 (pv 1) za2)))) za2))),?_⟩
 have hb':H pb=some (.tup ((bxL b).map V.int)):=hb;refine⟨_,rfl,pb,rfl,⟨_,SqT.of hb'⟩,fun acc hacc=>?_⟩;refine zay (zcz hb') (by show 4<=1000; decide) hacc (fun i ys σ hp=>∃es:List Addr,ys=es.map V.ref/\At FrR hp es (((bxL b).map fun (x:Int)=>(x:Rat)*c).take i)/\∃u,σ=[u,some (.ref p)]) ⟨[],rfl,At.nil,none,rfl⟩ ?_ ?_
 ·rintro i ys σ H2 x H3 hi sm hacc2 ⟨es,rfl,hE,u,rfl⟩ ⟨rfl,hx⟩ Cc hC;obtain⟨e,rfl,he⟩:=zi3 hx;refine⟨_,rfl,_,rfl,e,p,c,rfl,sm _ _ hp,sc,bw e (List.mem_of_getElem? he),fun t ht=>?_⟩;have st:=za3 ht (.tup [.int ((e:Rat)*c).num,.int ((e:Rat)*c).den]);refine hC _ _ _ st ⟨es++[t],by simp,?_,_,rfl⟩;have ec:((bxL b).map fun (x:Int)=>(x:Rat)*c)[i]?=some ((e:Rat)*c):=by rw[List.getElem?_map,he]; rfl
  rw[zah ec];exact(hE.keep zba (zdd acc st)).snoc (FrR.del (q:=(e:Rat)*c) za1 (st _ _ hacc2))
 rintro ys σ H2 s2 hacc2 hl2 ⟨es,rfl,hE,u,rfl⟩;rw[List.take_of_length_le (by simp)] at hE;refine⟨acc,_,rfl,.inl ⟨SqL.of hacc2,fun t ht=>?_⟩⟩;have st:=za3 ht (.tup (es.map V.ref));exact q t _ (s2.trans st) ⟨es,za1,(hE.keep zba (ze1 H2 acc)).keep zba st⟩
abbrev rowsOf(c:Rat)(bs:List Bx):List (List Rat):=bs.map fun b=>(bxL b).map fun (x:Int)=>(x:Rat)*c
inductive SpFloR(vs:List V)(H:Hp)(Q:VK):Prop
 | mk (pb p:Addr) (bs:List Bx) (wd hg:Int) (c:Rat) (h_0:vs=[.ref pb,.int wd,.int hg,.ref p]) (h_1:LstR BoxR H pb bs) (h_2:bs.length<=40) (h_3:FrR H p c) (h_4:Sb 7 13 c) (h_5:wd.natAbs<=2 ^ 20) (h_6:hg.natAbs<=2 ^ 20) (h_7:(∀b∈bs,BxW b)) (h_8:∀t H',Same H H'->FloorR H' t ((wd:Rat)*c) ((hg:Rat)*c) (rowsOf c bs)->Q (.ref t) H'):SpFloR vs H Q
def spFlo:Sp:=fun vs H Q _=>SpFloR vs H Q
theorem scFo:FnScope ["_law_boxes","_law_wide","_law_high","_law_scale","_law_rectangles"] ["_law_boxes","_law_wide","_law_high","_law_scale"] (defScope zb1):=⟨rfl,rfl,rfl,by decide +kernel,rfl,by decide +kernel,by decide +kernel⟩
theorem ndBS:(["_law_box","_law_scale"]:List Str).Nodup:=by decide +kernel
theorem ok_flo (F:Fun K "_law_floor_of" "_law_floor_of" zb1 f fd) (G1:FnOk P w K mg base CX0 2 f1 d1 ["_law_number","_law_scale"] spScO) (b1:Binds K d1 ["_law_number","_law_scale"] []) (k1:PySem.W.keepIn K (.ref f1)=true) (m1:mg "_law_scaled_one" = some (.ref f1))
  (G2:FnOk P w K mg base CX0 3 f2 d2 ["_law_box","_law_scale"] spScd) (b2:Binds K d2 ["_law_box","_law_scale"] []) (k2:PySem.W.keepIn K (.ref f2)=true) (m2:mg "_law_scaled" = some (.ref f2)) (mt:mg "tuple" = none) :
  FnOk P w K mg base CX0 4 f fd ["_law_boxes","_law_wide","_law_high","_law_scale"] spFlo:=by
 refine F.ok scFo (fun vs H Q E h=>?_) (fun cdv A outer s H vs Q E hr h=>?_)
 ·obtain⟨pb,p,bs,wd,hg,c,rfl,_⟩:=h;rfl
 obtain⟨pb,p,bs,wd,hg,c,rfl,⟨cs,hb,hC⟩,hl,hp,sc,nw,nh,bw,q⟩:=h;have hr2:=hr.mono (show 2<=3 by decide);refine⟨_,za5 (zbx (i:=4) scFo.nd rfl (Or.inl rfl) (Nc:=["_law_box","_law_scale"]) (cap:=[(1,3)]) (g:=gName 0) (te:=tCall spScd [] E0 (tCons (tVar 0) (tCons (tVar 1) tNil))) rfl (zhn (pv 0))
   (zbe rfl rfl (by decide +kernel) (by decide +kernel) (List.forall_mem_cons.mpr ⟨⟨rfl,rfl⟩,List.forall_mem_nil _⟩) rfl (List.forall_mem_cons.mpr ⟨⟨_,_,rfl,rfl,rfl,rfl,rfl⟩,List.forall_mem_nil _⟩))
   (fun C fp pins s' H'=>zab (i:=0) ndBS rfl (Or.inl rfl)) (fun C fp pins s' H'=>za7 G2 hr (by rfl) m2 k2 b2 .nil pass0 (za0 (pv 0) (za0 (pv 1) za2))))
  (za6 (zad (zac (za0 (za7 G1 hr2 (by rfl) m1 k1 b1 .nil pass0 (za0 (pv 1) (za0 (pv 3) za2))) (za0 (za7 G1 hr2 (by rfl) m1 k1 b1 .nil pass0 (za0 (pv 2) (za0 (pv 3) za2))) (za0 (zbo zcs (by rfl) mt zct (za0 (pv 4) za2)) za2)))))),?_⟩
 have lc:cs.length=bs.length:=hC.1;refine⟨_,rfl,pb,rfl,⟨_,SqL.of hb⟩,fun acc hacc=>?_⟩;refine zay (zdl hb) (by rw[List.length_map]; omega) hacc (fun i ys σ hp=>∃es:List Addr,ys=es.map V.ref/\At (TupR FrR) hp es ((rowsOf c bs).take i)/\∃u,σ=[u,some (.ref p)]) ⟨[],rfl,At.nil,none,rfl⟩ ?_ ?_
 ·rintro i ys σ H2 x H3 hi sm hacc2 ⟨es,rfl,hE,u,rfl⟩ ⟨rfl,hx⟩ Cc hCc;obtain⟨d,b,rfl,_,hy,fb⟩:=hC.ref hx;refine⟨_,rfl,_,rfl,d,p,b,c,rfl,sm _ _ fb,sm _ _ hp,sc,bw b (List.mem_of_getElem? hy),fun t H4 st ht=>?_⟩;refine hCc _ _ _ st ⟨es++[t],by simp,?_,_,rfl⟩;have ec:(rowsOf c bs)[i]?=some ((bxL b).map fun (x:Int)=>(x:Rat)*c):=by rw[List.getElem?_map,hy]; rfl
  rw[zah ec];exact(hE.keep zcv (zdd acc st)).snoc (tfd ht (st _ _ hacc2))
 rintro ys σ H2 s2 hacc2 hl2 ⟨es,rfl,hE,u,rfl⟩;rw[List.length_map,lc,List.take_of_length_le (by rw[List.length_map]; omega)] at hE;refine⟨_,rfl,_,rfl,wd,p,c,rfl,s2 _ _ hp,sc,nw,fun t1 ht1=>?_⟩;have v1:=za3 ht1 (.tup [.int ((wd:Rat)*c).num,.int ((wd:Rat)*c).den]);have f1':FrR (upd H2 t1 (.tup [.int ((wd:Rat)*c).num,.int ((wd:Rat)*c).den])) t1 ((wd:Rat)*c):=za1;generalize upd H2 t1 (.tup [.int ((wd:Rat)*c).num,.int ((wd:Rat)*c).den])=H3 at v1 f1';refine⟨_,rfl,_,rfl,hg,p,c,rfl,(s2.trans v1) _ _ hp,sc,nh,fun t2 ht2=>?_⟩;have v2:=za3 ht2 (.tup [.int ((hg:Rat)*c).num,.int ((hg:Rat)*c).den]);have f2':FrR (upd H3 t2 (.tup [.int ((hg:Rat)*c).num,.int ((hg:Rat)*c).den])) t2 ((hg:Rat)*c):=za1;generalize upd H3 t2 (.tup [.int ((hg:Rat)*c).num,.int ((hg:Rat)*c).den])=H4 at v2 f2';have v12:=v1.trans v2;refine⟨_,rfl,acc,_,rfl,.inl ⟨SqL.of (v12 _ _ hacc2),fun t3 ht3=>?_⟩⟩;have v3:=za3 ht3 (.tup (es.map V.ref));have f3':TupR (TupR FrR) (upd H4 t3 (.tup (es.map V.ref))) t3 (rowsOf c bs):=⟨es,za1,(hE.keep zcv (ze1 H2 acc)).keep zcv (v12.trans v3)⟩;generalize upd H4 t3 (.tup (es.map V.ref))=H5 at v3 f3';refine⟨by show 3<=sizeLine; decide,fun pp hpp=>?_⟩;have v4:=za3 hpp (.tup [.ref t1,.ref t2,.ref t3]);exact q pp _ (s2.trans (v12.trans (v3.trans v4))) ⟨t1,t2,t3,za1,(v2.trans (v3.trans v4)) _ _ f1',(v3.trans v4) _ _ f2',zgm (R:=TupR FrR) (fun s h=>zcv s h) v4 f3'⟩
end
abbrev bxR(b:Box):List Rat:=[((b.1:Int):Rat),((b.2.1:Int):Rat),((b.2.2.1:Int):Rat),((b.2.2.2:Int):Rat)]
abbrev szB(b:Box):Int:=b.r-b.l
theorem zm1{ts r:List Int}{s:Int}{k:Nat}:laidF ts (s :: r) k=if badF ts s then some k else laidF (layF ts s) r (k+1):=rfl
theorem ze2{ts r:List Int}{s:Int}:boxesF ts (s :: r)=((leftF ts:Int),maxL ts-s,(leftF ts:Int)+s,maxL ts) :: boxesF (layF ts s) r:=rfl
theorem zrh{sz:List Int}{i:Nat}{s:Int}(h:sz[i]?=some s):sz.drop i=s :: sz.drop (i+1):=by
 obtain⟨hi,rfl⟩:=List.getElem?_eq_some_iff.mp h;exact List.drop_eq_getElem_cons hi
theorem zix{ps:List Pc}{s:Int}(h:¬noFit ps s):hungF ps s=some (joinF (partsF ps s)):=by unfold hungF; rw[if_neg h]
theorem zp0{ps:List Pc}{s:Int}(h:noFit ps s):hungF ps s=none:=by unfold hungF; rw[if_pos h]
section
variable {P:Program} {w:World} {K:PySem.W.Frag} {mg:Str->Option Value} {base:Heap} {f g h C0 f1 f2 f3 f4 f5 fI CS:Addr} {fd gd hd d1 d2 d3 d4 d5 dI:FuncData}
inductive SpFBR(CS:Addr)(vs:List V)(H:Hp)(Q:VK)(E:XK):Prop
 | mk (x:Nat) (y:Int) (t:Addr) (sz:List Int) (h_0:vs=[.int (x:Int),.int y,.ref t]) (h_1:IntsT H t sz) (h_2:0<x) (h_3:0<=y) (h_4:sz.length<=100) (h_5:laidF (List.replicate x y) sz 0=none->∀p H',Same H H'->FloorR H' p ((x:Int):Rat) (y:Rat) ((boxesF (List.replicate x y) sz).map bxR)->Q (.ref p) H') (h_6:∀k:Nat,laidF (List.replicate x y) sz 0=some k->X1 CS "at" H E (.int (k:Int))):SpFBR CS vs H Q E
def spFB(CS:Addr):Sp:=fun vs H Q E=>SpFBR CS vs H Q E
theorem scNoS:FnScope ["self","at"] ["self","at"] (defScope sNoSInit):=⟨rfl,rfl,rfl,by decide +kernel,rfl,by decide +kernel,by decide +kernel⟩
theorem zqj{C:Addr}(F:Fun K "__init__" "NoSize.__init__" sNoSInit f fd)(x1:XStore K C "at"):FnOk P w K mg base CX0 1 f fd ["self","at"] (sp1 C "at"):=by
 refine F.ok scNoS (fun vs H Q E h=>?_) (fun cdv A outer s H vs Q E hr h=>?_)
 ·obtain⟨e,t,y,rfl,_⟩:=h;rfl
 obtain⟨e,t,y,rfl,he,q⟩:=h;exact⟨_,za6 (zhm (pv 0) (pv 1) rfl),init1 x1 he q⟩
theorem scFB:FnScope ["width","height","sizes","border","rectangles","at","size","below"] ["width","height","sizes"] (defScope zcb):=⟨rfl,rfl,rfl,by decide +kernel,rfl,by decide +kernel,by decide +kernel⟩
theorem zkt{H:Hp}{b:Addr}{ys:List V}{o:HO}{cs:List Addr}{rows:List (List Rat)}(hb:H b=some (.lst ys))(h:At (TupR FrR) H cs rows):At (TupR FrR) (upd H b o) cs rows:=⟨h.1,fun i c r e1 e2=>by
 obtain⟨ds,h1,h2⟩:=h.2 i c r e1 e2;refine⟨ds,by rw[upd_ne (fun z=>by rw[z,hb] at h1; cases h1)]; exact h1,h2.1,fun j d q e3 e4=>?_⟩
 have:=h2.2 j d q e3 e4
 unfold FrR at this ⊢;rw[upd_ne (fun z=>by rw[z,hb] at this; cases this)]; exact this⟩
seal L2.PSs L2.PS L2.PE L2.PA in
set_option maxHeartbeats 4000000 in
theorem ok_fb (F:Fun K "floor_by" "floor_by" zcb f fd) (G1:FnOk P w K mg base CX0 1 f1 d1 ["width","height"] spFirst) (b1:Binds K d1 ["width","height"] []) (k1:PySem.W.keepIn K (.ref f1)=true) (m1:mg "first_border" = some (.ref f1))
  (G2:FnOk P w K mg base CX0 2 f2 d2 ["border","size"] spHung) (b2:Binds K d2 ["border","size"] []) (k2:PySem.W.keepIn K (.ref f2)=true) (m2:mg "hung" = some (.ref f2))
  (G3:FnOk P w K mg base CX0 2 f3 d3 ["border","size"] spSqAt) (b3:Binds K d3 ["border","size"] []) (k3:PySem.W.keepIn K (.ref f3)=true) (m3:mg "square_at" = some (.ref f3))
  (G4:FnOk P w K mg base CX0 2 f4 d4 ["border"] spFull) (b4:Binds K d4 ["border"] []) (k4:PySem.W.keepIn K (.ref f4)=true) (m4:mg "is_full" = some (.ref f4)) (me:mg "enumerate" = none) (mt:mg "tuple" = none) (ml:mg "len" = none)
  (GI:FnOk P w K mg base CX0 1 fI dI ["self","at"] (sp1 CS "at")) (bI:Binds K dI ["self","at"] []) (iI:PySem.W.isFn K (.ref fI)=true) (mC:mg "NoSize" = some (.ref CS)) (xC:excI K CS bmV "ValueError.__new__" fI=true) :
  FnOk P w K mg base (CXr P w) 3 f fd ["width","height","sizes"] (spFB CS):=by
 refine okX F scFB (fun vs H Q E h=>?_) (fun cdv A outer s H vs Q E hr h=>?_)
 ·obtain⟨x,y,t,sz,rfl,_⟩:=h;rfl
 obtain⟨x,y,t,sz,rfl,hT,x0,y0,few,q,qe⟩:=h;have r1:=hr.mono (show 1<=2 by decide);refine⟨_,za5 (za9 (i:=3) scFB.nd rfl (Or.inl rfl) (za7 G1 r1 (by rfl) m1 k1 b1 .nil pass0 (za0 (pv 0) (za0 (pv 1) za2))))
  (za5 (za9 (i:=4) scFB.nd rfl (Or.inl rfl) (zbl za2))
  (za5 (zb9 PassesOwn.leaving rfl (zho (by rfl) me (za0 (pv 2) za2)) (pgTup (n:=2) (K:=K) rfl (zae (zab (i:=5) scFB.nd rfl (Or.inl rfl)) (zae (zab (i:=6) scFB.nd rfl (Or.inl rfl)) zbd)))
   (za5 (za9 (i:=7) scFB.nd rfl (Or.inl rfl) (za7 G2 hr (by rfl) m2 k2 b2 .nil pass0 (za0 (pv 3) (za0 (pv 6) za2))))
   (za5 (zaw (zaf zpm (pv 7) zby (nomark _)) (za6 (zdm (by rfl) mC xC PySem.F.excBase_ValueError rfl zd9 GI (hr.mono (by decide)) bI iI (za0 (pv 5) za2))) zaj)
   (za5 (zdg (zd2 K PySem.F.plainAttrs_list PySem.F.slot_list_append PySem.F.type_list_append zcq (pv 4) (za0 (za7 G3 hr (by rfl) m3 k3 b3 .nil pass0 (za0 (pv 3) (za0 (pv 6) za2))) za2)))
   (za6 (za9 (i:=3) scFB.nd rfl (Or.inl rfl) (pv 7)))))))
  (za5 (zaw (zik (ze4 (za7 G4 hr (by rfl) m4 k4 b4 .nil pass0 (za0 (pv 3) za2)))) (za6 (zdm (by rfl) mC xC PySem.F.excBase_ValueError rfl zd9 GI (hr.mono (by decide)) bI iI (za0 (zag (callLen (K:=K)) (by rfl) ml zc4 (za0 (pv 2) za2)) za2))) zaj)
  (za6 (zad (zac (za0 (zac (za0 (pv 0) (za0 za4 za2))) (za0 (zac (za0 (pv 1) (za0 za4 za2))) (za0 (zbo (callTup (K:=K)) (by rfl) mt zct (za0 (pv 4) za2)) za2))))))))),?_⟩
 refine⟨_,rfl,_,rfl,(x:Int),y,rfl,fun l0 H1 s1 hl0=>?_⟩;refine⟨by show 0<=sizeLine; decide,fun R hR=>?_⟩;have t2:=za3 hR (.lst []);have e2:(upd H1 R (.lst [])) R=some (.lst (([]:List Addr).map V.ref)):=za1;have nR:H R=none:=s1.free hR;have hl2:LstR PcR (upd H1 R (.lst [])) l0 [(0,(x:Int),y)]:=by
  obtain⟨cs,h1,h2⟩:=hl0;exact⟨cs,t2 _ _ h1,h2.keep zdy t2⟩
 have s2:=s1.trans t2;generalize upd H1 R (.lst [])=H2 at t2 e2 hl2 s2;generalize ets:List.replicate x y=ts0 at q qe;have ne0:ts0≠[]:=by rw[<-ets]; exact fun z=>by rw[List.replicate_eq_nil_iff] at z; omega
 have pos0:∀v∈ts0,0<=v:=by rw[<-ets]; exact fun v hv=>by rw[List.eq_of_mem_replicate hv]; exact y0
 have rep0:RepB (fT ts0) 0 (ts0.length:Int) [(0,(x:Int),y)]:=by rw[<-ets]; exact zkr x0 y
 refine⟨_,rfl,t,_,rfl,s2 _ _ hT,?_⟩;refine zg2 (xs:=sz.map V.int) (fun i σ H3=>Same H H3/\∃(l:Addr) (ps:List Pc) (gs:List Addr) (ts:List Int) (acc:List Box) (u5 u6 u7:Option V),σ=[some (.int (x:Int)),some (.int y),some (.ref t),some (.ref l),some (.ref R),u5,u6,u7]/\LstR PcR H3 l ps/\ps.length<=i+1/\ts≠[]/\(∀v∈ts,0<=v)/\RepB (fT ts) 0 (ts.length:Int) ps/\AdjB ps/\laidF ts0 sz 0=laidF ts (sz.drop i) i/\boxesF ts0 sz=acc++boxesF ts (sz.drop i)/\acc.length=i/\H3 R=some (.lst (gs.map V.ref))/\At (TupR FrR) H3 gs (acc.map bxR))
  ⟨s2,l0,[(0,(x:Int),y)],[],ts0,[],none,none,none,rfl,hl2,Nat.le_refl _,ne0,pos0,rep0,trivial,rfl,rfl,rfl,e2,At.nil⟩ (fun i σ H3 _ h=>h.1 _ _ hT) ?_ ?_
 ·rintro i xx σ H3 p hx ⟨s3,l,ps,gs,ts,acc,u5,u6,u7,rfl,hl,lp,tne,tpos,R3,A3,eL,eB,la,hR3,hG⟩ hp;obtain⟨z,rfl,hz⟩:=zi3 hx;have hi:i<sz.length:=(List.getElem?_eq_some_iff.mp hz).1;have ed:=zrh hz;rw[ed,zm1] at eL;rw[ed,ze2] at eB;have pne:=zkq tne R3;have ft:=fit_is (s:=z) tne R3 A3;obtain⟨_,_,_,_,ht,_⟩:=zid tne R3 A3;have sp:=za3 hp (.tup [.int i,.int z]);refine⟨p,_,rfl,SqT.of za1,rfl,_,_,rfl,_,_,rfl,rfl,?_⟩;have hl3:LstR PcR (upd H3 p (.tup [.int i,.int z])) l ps:=by
   obtain⟨cs,h1,h2⟩:=hl;exact⟨cs,sp _ _ h1,h2.keep zdy sp⟩
  have hR4:=sp _ _ hR3;have hG4:=hG.keep zcv sp;have s4:=s3.trans sp;generalize upd H3 p (.tup [.int i,.int z])=H4 at sp hl3 hR4 hG4 s4;refine⟨_,rfl,_,rfl,l,ps,z,rfl,hl3,pne,by omega,fun e H5 s5=>?_,fun c hc l' H5 s5 hl5=>?_⟩
  ·have nf:badF ts z:=ft.mp (Classical.byContradiction fun w=>by rw[zix w] at e; cases e);rw[if_pos nf] at eL;refine⟨_,rfl,rfl,_,rfl,iteDT rfl ⟨_,rfl,rz1 ((qe i eL).mono (s4.trans s5))⟩⟩
  have nf:¬badF ts z:=fun w=>by rw[zp0 (ft.mpr w)] at hc; cases hc
  rw[zix (fun w=>nf (ft.mp w))] at hc;cases hc;rw[if_neg nf] at eL;obtain⟨RN,AN⟩:=zoz tne R3 A3 nf;obtain⟨tne',ln',tpos',_⟩:=zlw tne tpos nf;refine⟨_,rfl,rfl,_,rfl,iteDF (fun z=>by cases z) ?_⟩;have hl35:LstR PcR H5 l ps:=by
   obtain⟨cs,h1,h2⟩:=hl3;exact⟨cs,s5 _ _ h1,h2.keep zdy s5⟩
  refine⟨_,rfl,.inl ⟨rfl,_,SqL.of (s5 _ _ hR4)⟩,_,rfl,_,rfl,l,ps,z,rfl,hl35,pne,fun pr H6 s6 hpr=>?_⟩;have hR6:=s6 _ _ (s5 _ _ hR4);have lg:gs.length=i:=by rw[hG.1,List.length_map]; exact la
  refine⟨R,gs.map V.ref,.ref pr,rfl,rfl,hR6,by rw[List.length_map,lg]; exact szl (by omega),?_⟩;refine⟨_,rfl,?_⟩;have s56:=s5.trans s6;rw[ht] at hpr;have hl6:LstR PcR (upd H6 R (.lst (gs.map V.ref++[.ref pr]))) l' (joinF (partsF ps z)):=by
   obtain⟨cs,h1,h2⟩:=hl5;refine⟨cs,?_,h2.1,fun j c x e1 e2=>?_⟩
   ·refine(upd_ne (fun z=>?_)).trans (s6 _ _ h1);rw[z,s5 _ _ hR4] at h1;have hm:gs.map V.ref=cs.map V.ref:=HO.lst.inj (Option.some.inj h1);have hgc:gs=cs:=by
     have inj:∀a b:Addr,V.ref a=V.ref b->a=b:=fun a b h=>by cases h; rfl
     exact List.map_inj_right (fun a b h=>inj a b h) |>.mp hm
    have jn:=zkq tne' RN;have c1:0<cs.length:=by rw[h2.1]; exact List.length_pos_iff.mpr jn
    have e1:cs[0]?=some cs[0]:=List.getElem?_eq_getElem c1;have j1:0<(joinF (partsF ps _)).length:=List.length_pos_iff.mpr jn;have p1:=h2.2 0 _ _ e1 (List.getElem?_eq_getElem j1);have c2:0<(acc.map bxR).length:=by rw[<-hG.1,hgc]; exact c1
    obtain⟨ds,d1,d2⟩:=(hG4.keep zcv s5).2 0 cs[0] _ (by rw[hgc]; exact e1) (List.getElem?_eq_getElem c2);unfold PcR at p1;rw[p1] at d1;have q:=congrArg (fun o:Option HO=>match o with | some (.tup (V.int _ :: _))=>true | _=>false) d1;cases ds with
    | nil=>simp at q
    | cons d ds=>simp at q
   ·have:=h2.2 j c x e1 e2
    unfold PcR at this ⊢;rw[upd_ne (fun z=>by have q:=s6 _ _ this; rw[z,hR6] at q; cases q)];exact s6 _ _ this
  refine⟨zhe (s4.trans s56) nR _,l',joinF (partsF ps z),gs++[pr],layF ts z,acc++[((leftF ts:Int),maxL ts-z,(leftF ts:Int)+z,maxL ts)],_,_,_,rfl,hl6,?_,tne',tpos',RN,AN,eL,by rw[eB,List.append_assoc]; rfl,by rw[List.length_append,la]; rfl,by rw[za1,List.map_append]; rfl,?_⟩
  ·have:=ziu (partsF ps z)
   have:=(zgi pne z).2
   omega
  ·rw[List.map_append];exact zkt hR6 ((hG4.keep zcv s56).snoc hpr)
 ·rintro σ H3 ⟨s3,l,ps,gs,ts,acc,u5,u6,u7,rfl,hl,lp,tne,tpos,R3,A3,eL,eB,la,hR3,hG⟩;rw[List.length_map,List.drop_length] at eL eB;rw[show boxesF ts []=[] from rfl,List.append_nil] at eB;have eL':laidF ts0 sz 0=if 0<maxL ts then some sz.length else none:=eL
  have pne:=zkq tne R3;obtain⟨_,_,_,_,ht,_⟩:=zid tne R3 A3;have m0:=tpos _ (zet tne).1;refine⟨_,rfl,l,ps,rfl,hl,pne,fun H4 s4=>⟨_,rfl,?_⟩⟩;rw[ht];by_cases z0:maxL ts=0;rotate_left
  ·rw[if_pos (by omega)] at eL';rw[show decide ((((leftF ts:Int),(leftF ts:Int)+(spanF ts:Int),maxL ts):Pc).2.2=0)=false from decide_eq_false z0];refine iteT ⟨_,rfl,t,_,rfl,.inr (SqT.of (s4 _ _ (s3 _ _ hT))),?_⟩
   have:=rz1 ((qe _ eL').mono (s3.trans s4))
   rw[List.length_map];exact this
  rw[if_neg (by omega)] at eL';rw[show decide ((((leftF ts:Int),(leftF ts:Int)+(spanF ts:Int),maxL ts):Pc).2.2=0)=true from decide_eq_true z0];refine iteF ?_;refine⟨_,rfl,by show 2<=sizeLine; decide,fun pw hpw=>?_⟩;have t5:=za3 hpw (.tup [.int (x:Int),.int 1]);have e5:FrR (upd H4 pw (.tup [.int (x:Int),.int 1])) pw ((x:Int):Rat):=za1;generalize upd H4 pw (.tup [.int (x:Int),.int 1])=H5 at t5 e5;refine⟨_,rfl,by show 2<=sizeLine; decide,fun ph hph=>?_⟩;have t6:=za3 hph (.tup [.int y,.int 1]);have e6:FrR (upd H5 ph (.tup [.int y,.int 1])) ph (y:Rat):=za1;generalize upd H5 ph (.tup [.int y,.int 1])=H6 at t6 e6;have s36:=s4.trans (t5.trans t6);refine⟨_,rfl,R,_,rfl,.inl ⟨SqL.of (s36 _ _ hR3),fun pt hpt=>?_⟩⟩;have t7:=za3 hpt (.tup (gs.map V.ref));have e7:TupR (TupR FrR) (upd H6 pt (.tup (gs.map V.ref))) pt (acc.map bxR):=⟨gs,za1,hG.keep zcv (s36.trans t7)⟩;generalize upd H6 pt (.tup (gs.map V.ref))=H7 at t7 e7;refine⟨by show 3<=sizeLine; decide,fun pf hpf=>?_⟩;have t8:=za3 hpf (.tup [.ref pw,.ref ph,.ref pt]);rw[<-eB] at e7;exact q eL' pf _ (s3.trans (s36.trans (t7.trans t8))) ⟨pw,ph,pt,za1,zba (t6.trans (t7.trans t8)) e5,zba (t7.trans t8) e6,zgm (R:=TupR FrR) (fun s h=>zcv s h) t8 e7⟩
end
theorem zig{x:Nat}{y:Int}{j:Nat}(h:j<x):(List.replicate x y).take (j+1)=(List.replicate x y).take j++[y]:=zek (by rw[List.getElem?_replicate,if_pos h])
section
variable {P:Program} {w:World} {K:PySem.W.Frag} {mg:Str->Option Value} {base:Heap} {f g h f1 f2 f3 f4:Addr} {fd gd hd d1 d2 d3 d4:FuncData}
def SqtR(H:Hp)(p:Addr)(b:Box):Prop:=H p=some (.tup [.int b.l,.int b.d,.int (b.r-b.l)])
theorem zim:Mo SqtR:=fun s h=>s _ _ h
theorem zkl{H:Hp}{b:Addr}{ys:List V}{o:HO}{cs:List Addr}{bs:List Box}(hb:H b=some (.lst ys))(h:At SqtR H cs bs):At SqtR (upd H b o) cs bs:=⟨h.1,fun i c r e1 e2=>by
 have:=h.2 i c r e1 e2
 unfold SqtR at this ⊢;rw[upd_ne (fun z=>by rw[z,hb] at this; cases this)]; exact this⟩
inductive SpLaidR(vs:List V)(H:Hp)(Q:VK):Prop
 | mk (x:Nat) (y:Int) (a:Addr) (sz:List Int) (h_0:vs=[.int (x:Int),.int y,.ref a]) (h_1:1<=x) (h_2:x<=100) (h_3:0<=y) (h_4:H a=some (.lst (sz.map V.int))) (h_5:sz.length<=1000) (h_6:∀p v u H',Same H H'->H' p=some (.tup [v,u])->(laidF (List.replicate x y) sz 0=none->∃r,v=.ref r/\u=.non/\LstR SqtR H' r (boxesF (List.replicate x y) sz))->(∀k,laidF (List.replicate x y) sz 0=some k->v=.non/\u=.int ((k:Nat):Int))->Q (.ref p) H'):SpLaidR vs H Q
def spLaid:Sp:=fun vs H Q _=>SpLaidR vs H Q
theorem scLd:FnScope ["_law_width","_law_height","_law_sizes","_law_tops","_law_squares","_law_at","_law_size","_law_left","_law_wide","_law_k"] ["_law_width","_law_height","_law_sizes"] (defScope zc8):=⟨rfl,rfl,rfl,by decide +kernel,rfl,by decide +kernel,by decide +kernel⟩
theorem ndKH:(["_law_k","_law_height"]:List Str).Nodup:=by decide +kernel
seal L2.PSs L2.PS L2.PE L2.PA in
set_option maxHeartbeats 4000000 in
theorem zqm (F : Fun K "_law_laid" "_law_laid" zc8 f fd) (G1 : FnOk P w K mg base CX0 1 f1 d1 ["_law_tops"] spSpot) (b1 : Binds K d1 ["_law_tops"] []) (k1 : PySem.W.keepIn K (.ref f1) = true) (m1 : mg "_law_spot" = some (.ref f1))
    (mx : mg "max" = none) (ml : mg "len" = none) (mr : mg "range" = none) (me : mg "enumerate" = none) : FnOk P w K mg base CX0 2 f fd ["_law_width", "_law_height", "_law_sizes"] spLaid := by
  refine F.ok scLd (fun vs H Q E h => ?_) (fun cdv A outer s H vs Q E hr h => ?_)
  · obtain⟨x, y, a, sz, rfl, _⟩ := h;rfl
  obtain⟨x, y, a, sz, rfl, x1, x100, y0, ha, hl, q⟩ := h;refine⟨_, za5 (zbx (i := 3) scLd.nd rfl (Or.inl rfl) (Nc := ["_law_k", "_law_height"]) (cap := [(1, 1)]) (g := gName 0) (te := tVar 1) rfl (zdn (by rfl) mr (za0 (pv 0) za2))
        (zbe rfl rfl (by decide +kernel) (by decide +kernel) (List.forall_mem_cons.mpr ⟨⟨rfl, rfl⟩, List.forall_mem_nil _⟩) rfl (List.forall_mem_cons.mpr ⟨⟨_, _, rfl, rfl, rfl, rfl, rfl⟩, List.forall_mem_nil _⟩)) (fun C fp pins s' H' => zab (i := 0) ndKH rfl (Or.inl rfl)) (fun C fp pins s' H' => pv 1))
    (za5 (za9 (i := 4) scLd.nd rfl (Or.inl rfl) (zbl za2))
    (za5 (zb9 PassesOwn.never rfl (zdo (by rfl) me (za0 (pv 2) za2)) (pgTup (n := 2) (K := K) rfl (zae (zab (i := 5) scLd.nd rfl (Or.inl rfl)) (zae (zab (i := 6) scLd.nd rfl (Or.inl rfl)) zbd)))
      (za5 (ze5 (za7 G1 hr (by rfl) m1 k1 b1 .nil pass0 (za0 (pv 3) za2)) (pgTup (n := 2) (K := K) rfl (zae (zab (i := 7) scLd.nd rfl (Or.inl rfl)) (zae (zab (i := 8) scLd.nd rfl (Or.inl rfl)) zbd))))
      (za5 (zaw (PW.pt (zhk (zaf zf6 (pv 6) za4 (nomark _)) (zhk (zaf zde (pv 6) (pv 8) (nomark _)) (zgf (zaf zde (pv 6) (za8 (ixL (K := K)) (pv 3) (pv 7) (fun _ _ => rfl)) (nomark _)))))) (za6 (zad (zac (za0 zby (za0 (pv 5) za2))))) zaj)
      (za5 (zdg (zd2 K PySem.F.plainAttrs_list PySem.F.slot_list_append PySem.F.type_list_append zcq (pv 4) (za0 (zac (za0 (pv 7) (za0 (zaa zav (za8 (ixL (K := K)) (pv 3) (pv 7) (fun _ _ => rfl)) (pv 6)) (za0 (pv 6) za2)))) za2)))
      (za6 (zb9 PassesOwn.never rfl (zcd (by rfl) mr (za0 (pv 7) (za0 (zaa zal (pv 7) (pv 6)) za2))) (zab (i := 9) scLd.nd rfl (Or.inl rfl))
        (za6 (ze5 (zaa zav (za8 (ixL (K := K)) (pv 3) (pv 9) (fun _ _ => rfl)) (pv 6)) (zl3 (pv 3) (pv 9) zfr)))))))))
    (za5 (zaw (zaf zde (zag (zh0 rfl) (by rfl) mx zja (za0 (pv 3) za2)) za4 (nomark _)) (za6 (zad (zac (za0 zby (za0 (zag (callLen (K := K)) (by rfl) ml zc4 (za0 (pv 2) za2)) za2))))) zaj)
    (za6 (zad (zac (za0 (pv 4) (za0 zby za2)))))))), ?_⟩
  refine⟨_, rfl, (x : Int), rfl, by omega, by omega, fun T hT => ?_⟩;rw[show((x : Int)).toNat = x by omega];refine zay zgc (by omega) hT (fun j ys σ hp => ys = ((List.replicate x y).take j).map V.int /\ ∃u, σ = [u, some (.int y)]) ⟨rfl, none, rfl⟩ ?_ ?_
  · rintro j ys σ H7 z H8 hj sm hacc2 ⟨rfl, u, rfl⟩ ⟨rfl, hx⟩ Cc hC;refine⟨_, rfl, ?_⟩;refine hC _ _ _ (Same.refl _) ⟨?_, _, rfl⟩;rw[zig hj, List.map_append];rfl
  rintro ys σ H1 s1 hT1 _ ⟨rfl, u, rfl⟩;rw[List.take_of_length_le (by rw[List.length_replicate]; exact Nat.le_refl _)] at hT1;have x0 : x ≠ 0 := by omega
  have tne : List.replicate x y ≠ [] := fun z => x0 (by have := congrArg List.length z; rwa [List.length_replicate] at this)
  have tpos : ∀z ∈ List.replicate x y, 0 <= z := fun z hz => by rw[(List.mem_replicate.mp hz).2]; exact y0
  have tlen : (List.replicate x y).length = x := List.length_replicate;generalize List.replicate x y = t0 at q hT1 tne tpos tlen;refine⟨by show 0 <= sizeLine; decide, fun S hS => ?_⟩;have sS := za3 hS (.lst []);have eS : (upd H1 S (.lst [])) S = some (.lst []) := za1;have nTS : T ≠ S := ne_of_none hT1 hS;have hT2 := sS _ _ hT1;have fS : H S = none := s1.free hS;have s2 := s1.trans sS;generalize upd H1 S (.lst []) = H2 at sS eS hT2 s2;have ha' : H a = some (.lst (sz.map V.int)) := ha;refine⟨_, rfl, a, _, rfl, s2 _ _ ha', ?_⟩;refine zd4 (xs := sz.map V.int) (fun i σ H3 => ∃(u1 u2 u3 u4 u5 : Option V) (ts : List Int) (ds : List Addr) (acc : List Box), σ = [some (.int (x : Int)), some (.int y), some (.ref a), some (.ref T), some (.ref S), u1, u2, u3, u4, u5] /\ Same H H3 /\ H3 T = some (.lst ((ts : List Int).map V.int)) /\ H3 S = some (.lst (ds.map V.ref)) /\ At SqtR H3 ds acc /\ acc.length = i /\ boxesF t0 sz = acc ++ boxesF ts (sz.drop i) /\ ts ≠ [] /\ ts.length = x /\ (∀z ∈ ts, 0 <= z) /\ laidF t0 sz 0 = laidF ts (sz.drop i) i)
    ⟨none, none, none, none, none, t0, [], [], rfl, s2, hT2, eS, At.nil, rfl, rfl, tne, tlen, tpos, rfl⟩ (fun i σ H3 _ ⟨_, _, _, _, _, _, _, _, _, s3, _⟩ => s3 _ _ ha') ?_ ?_
  · rintro i v σ H3 p hv ⟨u1, u2, u3, u4, u5, ts, ds, acc, rfl, s3, eT3, eS3, hD3, lac, eB, hne, tl, pos, hrun⟩ hp;obtain⟨z, rfl, hz⟩ := int_at hv;have hi : i < sz.length := (List.getElem?_eq_some_iff.mp hz).1;have edrop : sz.drop i = z :: sz.drop (i + 1) := by
      rw[List.drop_eq_getElem_cons hi];rw[List.getElem?_eq_getElem hi] at hz;rw[Option.some.inj hz]
    rw[edrop] at hrun eB;have lsv : (ds.map V.ref).length = i := by rw[List.length_map, hD3.1, lac]
    have sp := za3 hp (.tup [.int i, .int z]);have s4 := s3.trans sp;have eT4 := sp _ _ eT3;have eS4 := sp _ _ eS3;have hD4 := hD3.keep zim sp;refine⟨p, _, rfl, SqT.of za1, rfl, _, _, rfl, _, _, rfl, rfl, ?_⟩;generalize upd H3 p (.tup [.int i, .int z]) = H4 at sp s4 eT4 eS4 hD4;refine⟨_, rfl, T, ts, rfl, eT4, hne, by omega, fun pq H5 s5 hpq => ?_⟩;refine⟨pq, _, rfl, SqT.of hpq, rfl, _, _, rfl, _, _, rfl, rfl, ?_⟩;have s45 := s4.trans s5;have eT5 := s5 _ _ eT4;have eS5 := s5 _ _ eS4;have hD5 := hD4.keep zim s5;have at1 : atI (ts.map V.int) ((leftF ts : Nat) : Int) = some (.int (maxL ts)) := zak (zha (zhy hne));have stop : badF ts z → ∀pr H', Same H5 H' → H' pr = some (.tup [.non, .int (i : Int)]) → Q (.ref pr) H' := fun bd pr H' s' h' => by
      have e : laidF t0 sz 0 = some i := by rw[hrun]; unfold laidF; rw[if_pos bd]
      refine q pr .non (.int (i : Int)) H' (s45.trans s') h' (fun w => by rw[e] at w; cases w) (fun k w => ?_);rw[e] at w;cases w;exact⟨rfl, rfl⟩
    refine⟨_, rfl, _, _, rfl, rfl, _, rfl, ?_⟩;by_cases c1 : z < 1
    · refine iteDT c1 (iteT ?_);refine⟨_, rfl, by show 2 <= sizeLine; decide, fun pr hpr => ?_⟩;exact stop (.inl c1) pr _ (za3 hpr _) za1
    refine iteDF c1 ?_;refine⟨_, rfl, _, rfl, _, _, rfl, rfl, _, rfl, ?_⟩;by_cases c2 : ((spanF ts : Nat) : Int) < z
    · refine iteDT c2 (iteT ?_);refine⟨_, rfl, by show 2 <= sizeLine; decide, fun pr hpr => ?_⟩;exact stop (.inr (.inl c2)) pr _ (za3 hpr _) za1
    refine iteDF c2 ?_;refine⟨_, rfl, _, rfl, _, rfl, T, _, _, _, rfl, rfl, SqL.of eT5, at1, _, _, rfl, rfl, _, rfl, ?_⟩;by_cases c3 : maxL ts < z
    · refine iteDT c3 ?_;refine⟨_, rfl, by show 2 <= sizeLine; decide, fun pr hpr => ?_⟩;exact stop (.inr (.inr c3)) pr _ (za3 hpr _) za1
    refine iteDF c3 ?_;have nb : ¬badF ts z := by
      rintro(n | n | n)
      · exact c1 n
      · exact c2 n
      · exact c3 n
    refine⟨_, rfl, .inl ⟨rfl, _, SqL.of eS5⟩, _, rfl, _, rfl, _, rfl, T, _, _, _, rfl, rfl, SqL.of eT5, at1, _, rfl, _, _, rfl, rfl, _, rfl, by show 3 <= sizeLine; decide, fun tq htq => ?_⟩;have s6 := za3 htq (.tup [.int ((leftF ts : Nat) : Int), .int (maxL ts - z), .int z]);refine⟨S, _, _, rfl, rfl, s6 _ _ eS5, by rw[lsv]; exact szl (by omega), ?_⟩
    (try dsimp only)
    have s7 := (s45.trans s6).up fS (.lst (ds.map V.ref ++ [.ref tq]));have eT7 : (upd (upd H5 tq (.tup [.int ((leftF ts : Nat) : Int), .int (maxL ts - z), .int z])) S (.lst (ds.map V.ref ++ [.ref tq]))) T = some (.lst (ts.map V.int)) := by rw[upd_ne nTS]; exact s6 _ _ eT5
    have hD7 : At SqtR (upd (upd H5 tq (.tup [.int ((leftF ts : Nat) : Int), .int (maxL ts - z), .int z])) S (.lst (ds.map V.ref ++ [.ref tq]))) (ds ++ [tq]) (acc ++ [((leftF ts : Int), maxL ts - z, (leftF ts : Int) + z, maxL ts)]) := by
      refine zkl (s6 _ _ eS5) ((hD5.keep zim s6).snoc ?_);show(upd H5 tq (.tup [.int ((leftF ts : Nat) : Int), .int (maxL ts - z), .int z])) tq = some (.tup [.int (leftF ts : Int), .int (maxL ts - z), .int ((leftF ts : Int) + z - (leftF ts : Int))]);rw[za1, show(leftF ts : Int) + z - (leftF ts : Int) = z by omega]
    have eS7 : (upd (upd H5 tq (.tup [.int ((leftF ts : Nat) : Int), .int (maxL ts - z), .int z])) S (.lst (ds.map V.ref ++ [.ref tq]))) S = some (.lst (ds.map V.ref ++ [.ref tq])) := za1;generalize upd (upd H5 tq (.tup [.int ((leftF ts : Nat) : Int), .int (maxL ts - z), .int z])) S (.lst (ds.map V.ref ++ [.ref tq])) = H7 at s7 eT7 eS7 hD7;have hsp := (zel ts).resolve_right hne;have hll := zdi hne;refine⟨_, rfl, _, rfl, _, rfl, _, _, rfl, rfl, ((leftF ts : Nat) : Int), ((leftF ts : Nat) : Int) + z, rfl, by omega, ?_⟩;rw[show(((leftF ts : Nat) : Int) + z - ((leftF ts : Nat) : Int)).toNat = z.toNat by omega];refine zbp (n := z.toNat) (fun j σ H8 => ∃u, σ = [some (.int (x : Int)), some (.int y), some (.ref a), some (.ref T), some (.ref S), some (.int (i : Int)), some (.int z), some (.int ((leftF ts : Nat) : Int)), some (.int ((spanF ts : Nat) : Int)), u] /\ Same H H8 /\ H8 T = some (.lst ((layJ ts (leftF ts) z j).map V.int)) /\ H8 S = some (.lst (ds.map V.ref ++ [.ref tq])) /\ At SqtR H8 (ds ++ [tq]) (acc ++ [((leftF ts : Int), maxL ts - z, (leftF ts : Int) + z, maxL ts)]))
      ⟨u5, rfl, s7, by rw[zpn]; exact eT7, eS7, hD7⟩ ?_ ?_
    · rintro j σ H8 hj ⟨u, rfl, s8, eT8, eS8, hD8⟩;have hx : ts[leftF ts + j]? = some (maxL ts) := zem (by omega);obtain⟨g1, g2⟩ := zly (s := z) hx;have ll : (layJ ts (leftF ts) z j).length = ts.length := zef (by omega);have at2 : atI ((layJ ts (leftF ts) z j).map V.int) (((leftF ts : Nat) : Int) + (j : Nat)) = some (.int (maxL ts)) := by
        have := zak (zha g1)
        rwa [show((leftF ts + j : Nat) : Int) = ((leftF ts : Nat) : Int) + (j : Nat) by omega] at this
      refine⟨_, rfl, _, rfl, T, _, _, _, rfl, rfl, SqL.of eT8, at2, _, rfl, _, _, rfl, rfl, _, rfl, _, rfl, T, _, _, leftF ts + j, rfl, rfl, eT8, ?_, ?_⟩
      · rw[List.length_map, ll, show((leftF ts : Nat) : Int) + (j : Nat) = ((leftF ts + j : Nat) : Int) by omega];exact ziv (by omega)
      · refine⟨_, rfl, ?_, ?_, ?_, zkl eT8 hD8⟩
        · exact fun b o e => by rw[upd_ne (fun w => by rw[w, hT] at e; cases e)]; exact s8 b o e
        · rw[za1, <- g2, List.map_set]
        · rw[upd_ne (Ne.symm nTS)]; exact eS8
    · rintro σ H8 ⟨u, rfl, s8, eT8, eS8, hD8⟩;obtain⟨l1, l2, l3, _⟩ := zlw hne pos nb;refine⟨_, _, _, _, _, layF ts z, ds ++ [tq], acc ++ [((leftF ts : Int), maxL ts - z, (leftF ts : Int) + z, maxL ts)], rfl, s8, eT8, by rw[eS8, List.map_append]; rfl, hD8, by rw[List.length_append, lac]; rfl, by rw[eB, List.append_assoc]; rfl, l1, by omega, l3, ?_⟩;rw[hrun]
      conv => lhs; unfold laidF
      rw[if_neg nb]
  · rintro σ H3 ⟨u1, u2, u3, u4, u5, ts, ds, acc, rfl, s3, eT3, eS3, hD3, lac, eB, hne, tl, pos, hrun⟩;rw[List.length_map, List.drop_length] at hrun eB;rw[show boxesF ts [] = [] from rfl, List.append_nil] at eB;refine⟨_, rfl, T, ts, rfl, eT3, List.length_pos_iff.mpr hne, fun m mm mle => ?_⟩;obtain rfl := zlq mm mle;refine⟨_, _, rfl, rfl, _, rfl, ?_⟩;by_cases h0 : 0 < maxL ts
    · refine iteDT h0 ?_;refine⟨_, rfl, a, _, rfl, .inl (SqL.of (s3 _ _ ha')), by show 2 <= sizeLine; decide, fun pr hpr => ?_⟩;have e : laidF t0 sz 0 = some sz.length := by rw[hrun]; unfold laidF; rw[if_pos h0]
      refine q pr _ _ _ (s3.trans (za3 hpr _)) za1 (fun w => by rw[e] at w; cases w) (fun k w => ?_);rw[e] at w;cases w;exact⟨rfl, by rw[List.length_map]⟩
    · refine iteDF h0 ?_;refine⟨_, rfl, by show 2 <= sizeLine; decide, fun pr hpr => ?_⟩;have e : laidF t0 sz 0 = none := by rw[hrun]; unfold laidF; rw[if_neg h0]
      refine q pr _ _ _ (s3.trans (za3 hpr _)) za1 (fun _ => ⟨S, rfl, rfl, by rw[eB]; exact⟨ds, (za3 hpr _) _ _ eS3, hD3.keep zim (za3 hpr _)⟩⟩) (fun k w => by rw[e] at w; cases w)
end
def rowD(r:List Rat):PyData:=.tuple (r.map fqD)
def floorD(W U:Rat)(rows:List (List Rat)):PyData:=.tuple [fqD W,fqD U,.tuple (rows.map rowD)]
theorem zqx(r:List Rat):(rowD r).canLay0=true:=by
 simp only[rowD,PyData.canLay0];refine zbz fun d hd=>?_
 obtain⟨q,_,rfl⟩:=List.mem_map.mp hd; exact ziq q
theorem zlx(W U:Rat)(rows:List (List Rat)):(floorD W U rows).canLay0=true:=by
 simp only[floorD,PyData.canLay0];refine zbz fun d hd=>?_
 simp only[List.mem_cons,List.not_mem_nil,or_false] at hd;rcases hd with rfl | rfl | rfl
 ·exact ziq W
 ·exact ziq U
 ·simp only[PyData.canLay0];refine zbz fun d hd=>?_
  obtain⟨q,_,rfl⟩:=List.mem_map.mp hd; exact zqx q
theorem zpb(r:List Rat):(rowD r).depth<=3:=by
 have:=zbq (n:=2) (ds:=r.map fqD) fun d hd=>by obtain⟨q,_,rfl⟩:=List.mem_map.mp hd; exact zey q
 simp only[rowD,PyData.depth]; omega
theorem zmr(rows:List (List Rat)):(PyData.tuple (rows.map rowD)).depth<=4:=by
 have:=zbq (n:=3) (ds:=rows.map rowD) fun d hd=>by obtain⟨q,_,rfl⟩:=List.mem_map.mp hd; exact zpb q
 simp only[PyData.depth]; omega
theorem rd_at{α:Type}{R:Hp->Addr->α->Prop}{D:α->PyData}(hR:∀{H p x},R H p x->RdD H (.ref p) (D x)){H:Hp}{p:Addr}{xs:List α}(h:TupR R H p xs):RdD H (.ref p) (.tuple (xs.map D)):=by
 obtain⟨cs,hp,hC⟩:=h;refine .tup hp (by rw[List.length_map,List.length_map,hC.1]) fun i x d e1 e2=>?_
 rw[List.getElem?_map] at e1 e2;obtain⟨c,ec,rfl⟩:=Option.map_eq_some_iff.mp e1;obtain⟨y,ey,rfl⟩:=Option.map_eq_some_iff.mp e2;exact hR (hC.2 i c y ec ey)
theorem zih{H:Hp}{a:Addr}{W U:Rat}{rows:List (List Rat)}(h:FloorR H a W U rows):RdD H (.ref a) (floorD W U rows):=by
 obtain⟨p,q,r,ha,fW,fU,fR⟩:=h;refine .tup ha rfl fun i x d e1 e2=>?_
 match i,e1,e2 with
 | 0,e1,e2=>cases e1; cases e2; exact zo4 fW
 | 1,e1,e2=>cases e1; cases e2; exact zo4 fU
 | 2,e1,e2=>cases e1; cases e2; exact rd_at (R:=TupR FrR) (D:=rowD) (fun h=>rd_at (R:=FrR) (D:=fqD) (fun h=>zo4 h) h) fR
 | n+3,e1,e2=>simp at e1
def cutI(ns:List Int)(lo hi:Option Int):List Int:=(ns.drop (HT.sIx ns.length 0 lo)).take (HT.sIx ns.length ns.length hi-HT.sIx ns.length 0 lo)
theorem zpd(ns:List Int)(lo hi:Option Int):cutV (ns.map V.int) lo hi=(cutI ns lo hi).map V.int:=by
 unfold cutV cutI;rw[List.length_map,List.map_take,List.map_drop]
theorem zg4(ns:List Int)(lo hi:Option Int):(cutI ns lo hi).length<=ns.length:=by
 unfold cutI;rw[List.length_take,List.length_drop];omega
theorem zgw{a d:Int}(h0:0<=a)(hd:0<d):a % d<=a:=by
 have e:=Int.emod_add_mul_ediv a d
 have:=Int.mul_nonneg (Int.le_of_lt hd) (Int.ediv_nonneg h0 (Int.le_of_lt hd))
 omega
section
variable {P:Program} {w:World} {K:PySem.W.Frag} {mg:Str->Option Value} {base:Heap} {f g h f1 f2 f3 f4:Addr} {fd gd hd d1 d2 d3 d4:FuncData}
inductive SpSbR(K:PySem.W.Frag)(vs:List V)(H:Hp)(Q:VK):Prop
 | mk (a:Addr) (x:Nat) (y:Int) (ns:List Int) (h_0:vs=[.ref a,.int (x:Int),.int y]) (h_1:ScA K H a ns) (h_2:1<=x) (h_3:x<=100) (h_4:0<=y) (h_5:∀l sz H',Same H H'->H' l=some (.lst ((sz:List Int).map V.int))->sz.length<=24->Q (.ref l) H'):SpSbR K vs H Q
def spSb(K:PySem.W.Frag):Sp:=fun vs H Q _=>SpSbR K vs H Q
theorem scSb:FnScope ["_law_script","_law_width","_law_height","_law_tops","_law_sizes","_law_k","_law_left","_law_wide","_law_most","_law_size","_law_at"] ["_law_script","_law_width","_law_height"] (defScope zb0):=⟨rfl,rfl,rfl,by decide +kernel,rfl,by decide +kernel,by decide +kernel⟩
seal L2.PSs L2.PS L2.PE L2.PA in
set_option maxHeartbeats 4000000 in
theorem ok_sb (F : Fun K "_law_sizes_by" "_law_sizes_by" zb0 f fd) (G1 : FnOk P w K mg base CX0 1 f1 d1 ["_law_script", "_law_k"] (spCell K)) (b1 : Binds K d1 ["_law_script", "_law_k"] []) (k1 : PySem.W.keepIn K (.ref f1) = true) (m1 : mg "_law_cell_at" = some (.ref f1))
    (G2 : FnOk P w K mg base CX0 1 f2 d2 ["_law_tops"] spSpot) (b2 : Binds K d2 ["_law_tops"] []) (k2 : PySem.W.keepIn K (.ref f2) = true) (m2 : mg "_law_spot" = some (.ref f2))
    (mn : mg "min" = none) (ml : mg "len" = none) (mr : mg "range" = none) : FnOk P w K mg base CX0 2 f fd ["_law_script", "_law_width", "_law_height"] (spSb K) := by
  refine F.ok scSb (fun vs H Q E h => ?_) (fun cdv A outer s H vs Q E hr h => ?_)
  · obtain⟨a, x, y, ns, rfl, _⟩ := h;rfl
  obtain⟨a, x, y, ns, rfl, ⟨hS, hn⟩, x1, x100, y0, q⟩ := h;refine⟨_, za5 (zbx (i := 3) scSb.nd rfl (Or.inl rfl) (Nc := ["_law_k", "_law_height"]) (cap := [(1, 2)]) (g := gName 0) (te := tVar 1) rfl (zdn (by rfl) mr (za0 (pv 1) za2))
        (zbe rfl rfl (by decide +kernel) (by decide +kernel) (List.forall_mem_cons.mpr ⟨⟨rfl, rfl⟩, List.forall_mem_nil _⟩) rfl (List.forall_mem_cons.mpr ⟨⟨_, _, rfl, rfl, rfl, rfl, rfl⟩, List.forall_mem_nil _⟩)) (fun C fp pins s' H' => zab (i := 0) ndKH rfl (Or.inl rfl)) (fun C fp pins s' H' => pv 1))
    (za5 (za9 (i := 4) scSb.nd rfl (Or.inl rfl) (zbl za2))
    (za5 (zb9 PassesOwn.never rfl (zcd (by rfl) mr (za0 za4 (za0 (zag (zd5 rfl) (by rfl) mn zh4 (za0 (zag (callLen (K := K)) (by rfl) ml zc4 (za0 (pv 0) za2)) (za0 za4 za2))) za2))) (zab (i := 5) scSb.nd rfl (Or.inl rfl))
      (za5 (ze5 (za7 G2 hr (by rfl) m2 k2 b2 .nil pass0 (za0 (pv 3) za2)) (pgTup (n := 2) (K := K) rfl (zae (zab (i := 6) scSb.nd rfl (Or.inl rfl)) (zae (zab (i := 7) scSb.nd rfl (Or.inl rfl)) zbd))))
      (za5 (za9 (i := 8) scSb.nd rfl (Or.inl rfl) (zag (zd5 rfl) (by rfl) mn zh4 (za0 (pv 7) (za0 (za8 (ixL (K := K)) (pv 3) (pv 6) (fun _ _ => rfl)) za2))))
      (za6 (zaw (zaf zde (pv 8) za4 (nomark _))
        (za5 (za9 (i := 9) scSb.nd rfl (Or.inl rfl) (zaa zav (pv 8) (zaa zb4 (zaa zb4 (za7 G1 hr (by rfl) m1 k1 b1 .nil pass0 (za0 (pv 0) (za0 (pv 5) za2))) (pv 8)) (zaa zal za4 (zaa zb4 (za7 G1 hr (by rfl) m1 k1 b1 .nil pass0 (za0 (pv 0) (za0 za4 za2))) za4)))))
        (za5 (zdg (zd2 K PySem.F.plainAttrs_list PySem.F.slot_list_append PySem.F.type_list_append zcq (pv 4) (za0 (pv 9) za2)))
        (za6 (zb9 PassesOwn.never rfl (zcd (by rfl) mr (za0 (pv 6) (za0 (zaa zal (pv 6) (pv 9)) za2))) (zab (i := 10) scSb.nd rfl (Or.inl rfl))
          (za6 (ze5 (zaa zav (za8 (ixL (K := K)) (pv 3) (pv 10) (fun _ _ => rfl)) (pv 9)) (zl3 (pv 3) (pv 10) zfr))))))) zaj)))))
    (za6 (zad (pv 4))))), ?_⟩
  refine⟨_, rfl, (x : Int), rfl, by omega, by omega, fun T hT => ?_⟩;rw[show((x : Int)).toNat = x by omega];refine zay zgc (by omega) hT (fun j ys σ hp => ys = ((List.replicate x y).take j).map V.int /\ ∃u, σ = [u, some (.int y)]) ⟨rfl, none, rfl⟩ ?_ ?_
  · rintro j ys σ H7 z H8 hj sm hacc2 ⟨rfl, u, rfl⟩ ⟨rfl, hx⟩ Cc hC;refine⟨_, rfl, ?_⟩;refine hC _ _ _ (Same.refl _) ⟨?_, _, rfl⟩;rw[zig hj, List.map_append];rfl
  rintro ys σ H1 s1 hT1 _ ⟨rfl, u, rfl⟩;rw[List.take_of_length_le (by rw[List.length_replicate]; exact Nat.le_refl _)] at hT1;have x0 : x ≠ 0 := by omega
  have tne : List.replicate x y ≠ [] := fun z => x0 (by have := congrArg List.length z; rwa [List.length_replicate] at this)
  have tpos : ∀z ∈ List.replicate x y, 0 <= z := fun z hz => by rw[(List.mem_replicate.mp hz).2]; exact y0
  have tlen : (List.replicate x y).length = x := List.length_replicate;generalize List.replicate x y = t0 at hT1 tne tpos tlen;refine⟨by show 0 <= sizeLine; decide, fun S hS' => ?_⟩;have sS := za3 hS' (.lst []);have eS : (upd H1 S (.lst [])) S = some (.lst (([] : List Int).map V.int)) := za1;have nTS : T ≠ S := ne_of_none hT1 hS';have hT2 := sS _ _ hT1;have fS : H S = none := s1.free hS';have s2 := s1.trans sS;generalize upd H1 S (.lst []) = H2 at sS eS hT2 s2;have ln : (((ns.map V.int).length : Nat) : Int) <= 63 := by rw[List.length_map]; omega
  refine⟨_, rfl, a, _, rfl, .inl (s2.seq hS), _, _, rfl, _, _, rfl, ⟨by decide, by decide, by split <;> omega, by split <;> omega⟩, ?_⟩;generalize em : (if (30 : Int) < (((ns.map V.int).length : Nat) : Int) then (30 : Int) else (((ns.map V.int).length : Nat) : Int)) = m;have m30 : m <= 30 := by rw[<- em]; split <;> omega
  refine zbp (fun i σ H3 => ∃(u1 u2 u3 u4 u5 u6 : Option V) (ts sz : List Int), σ = [some (.ref a), some (.int (x : Int)), some (.int y), some (.ref T), some (.ref S), u1, u2, u3, u4, u5, u6] /\ Same H H3 /\ H3 T = some (.lst (ts.map V.int)) /\ H3 S = some (.lst (sz.map V.int)) /\ sz.length <= i /\ ts ≠ [] /\ ts.length = x /\ ∀z ∈ ts, 0 <= z)
    ⟨none, none, none, none, none, none, t0, [], rfl, s2, hT2, eS, Nat.le_refl _, tne, tlen, tpos⟩ ?_ ?_
  · rintro i σ H3 hi ⟨u1, u2, u3, u4, u5, u6, ts, sz, rfl, s3, eT3, eS3, lsz, hne, tl, pos⟩;refine⟨_, rfl, T, ts, rfl, eT3, hne, by omega, fun pq H5 s5 hpq => ?_⟩;refine⟨pq, _, rfl, SqT.of hpq, rfl, _, _, rfl, _, _, rfl, rfl, ?_⟩;have s45 := s3.trans s5;have eT5 := s5 _ _ eT3;have eS5 := s5 _ _ eS3;have at1 : atI (ts.map V.int) ((leftF ts : Nat) : Int) = some (.int (maxL ts)) := zak (zha (zhy hne));refine⟨_, rfl, _, rfl, _, rfl, T, _, _, _, rfl, rfl, SqL.of eT5, at1, _, _, rfl, ?_⟩;obtain⟨mo, emo, mo1, mo2⟩ : ∃mo : Int, (if maxL ts < ((spanF ts : Nat) : Int) then maxL ts else ((spanF ts : Nat) : Int)) = mo /\ mo <= maxL ts /\ mo <= (spanF ts : Int) := ⟨_, rfl, by split <;> omega, by split <;> omega⟩;rw[emo];refine⟨_, rfl, _, _, rfl, rfl, _, rfl, ?_⟩;by_cases c0 : (0 : Int) < mo;rotate_left
    · exact iteDF c0 ⟨_, _, _, _, _, _, ts, sz, rfl, s45, eT5, eS5, by omega, hne, tl, pos⟩
    refine iteDT c0 ?_;refine⟨_, rfl, _, rfl, _, rfl, a, ns, _, rfl, ⟨s45.seq hS, hn⟩, by omega, fun c1 _ => ?_⟩;refine⟨_, rfl, _, _, rfl, rfl, c0, _, rfl, a, ns, 2, rfl, ⟨s45.seq hS, hn⟩, by decide, fun c2 _ => ?_⟩;have d0 := Int.emod_nonneg c2 (show(9 : Int) ≠ 0 by decide);refine⟨_, _, rfl, rfl, (show(0 : Int) < 9 by decide), _, _, rfl, rfl, _, _, rfl, rfl, (show(0 : Int) < 1 + c2 % 9 by omega), _, _, rfl, rfl, ?_⟩;have e0 := Int.emod_nonneg c1 (show mo ≠ 0 by omega);have e1 := Int.emod_lt_of_pos c1 c0;have r0 := Int.emod_nonneg (c1 % mo) (show 1 + c2 % 9 ≠ 0 by omega);have r1 := zgw e0 (show 0 < 1 + c2 % 9 by omega);obtain⟨z, ez, z1, z2⟩ : ∃z : Int, mo - c1 % mo % (1 + c2 % 9) = z /\ 1 <= z /\ z <= mo := ⟨_, rfl, by omega, by omega⟩;dsimp only;rw[ez];have nb : ¬badF ts z := by
      rintro(n | n | n) <;> omega
    refine⟨_, rfl, .inl ⟨rfl, _, SqL.of eS5⟩, _, rfl, S, _, _, rfl, rfl, eS5, by rw[List.length_map]; exact szl (by omega), ?_⟩;have s7 := s45.up fS (.lst (sz.map V.int ++ [.int z]));have eT7 : (upd H5 S (.lst (sz.map V.int ++ [.int z]))) T = some (.lst (ts.map V.int)) := by rw[upd_ne nTS]; exact eT5
    have eS7 : (upd H5 S (.lst (sz.map V.int ++ [.int z]))) S = some (.lst ((sz ++ [z]).map V.int)) := by rw[za1]; simp
    generalize upd H5 S (.lst (sz.map V.int ++ [.int z])) = H7 at s7 eT7 eS7;have hsp := (zel ts).resolve_right hne;have hll := zdi hne;refine⟨_, rfl, _, rfl, _, rfl, _, _, rfl, rfl, ((leftF ts : Nat) : Int), ((leftF ts : Nat) : Int) + z, rfl, by omega, ?_⟩;rw[show(((leftF ts : Nat) : Int) + z - ((leftF ts : Nat) : Int)).toNat = z.toNat by omega];refine zbp (n := z.toNat) (fun j σ H8 => ∃u, σ = [some (.ref a), some (.int (x : Int)), some (.int y), some (.ref T), some (.ref S), some (.int (6 + (i : Int))), some (.int ((leftF ts : Nat) : Int)), some (.int ((spanF ts : Nat) : Int)), some (.int mo), some (.int z), u] /\ Same H H8 /\ H8 T = some (.lst ((layJ ts (leftF ts) z j).map V.int)) /\ H8 S = some (.lst ((sz ++ [z]).map V.int)))
      ⟨u6, rfl, s7, by rw[zpn]; exact eT7, eS7⟩ ?_ ?_
    · rintro j σ H8 hj ⟨u, rfl, s8, eT8, eS8⟩;have hx : ts[leftF ts + j]? = some (maxL ts) := zem (by omega);obtain⟨g1, g2⟩ := zly (s := z) hx;have ll : (layJ ts (leftF ts) z j).length = ts.length := zef (by omega);have at2 : atI ((layJ ts (leftF ts) z j).map V.int) (((leftF ts : Nat) : Int) + (j : Nat)) = some (.int (maxL ts)) := by
        have := zak (zha g1)
        rwa [show((leftF ts + j : Nat) : Int) = ((leftF ts : Nat) : Int) + (j : Nat) by omega] at this
      refine⟨_, rfl, _, rfl, T, _, _, _, rfl, rfl, SqL.of eT8, at2, _, rfl, _, _, rfl, rfl, _, rfl, _, rfl, T, _, _, leftF ts + j, rfl, rfl, eT8, ?_, ?_⟩
      · rw[List.length_map, ll, show((leftF ts : Nat) : Int) + (j : Nat) = ((leftF ts + j : Nat) : Int) by omega];exact ziv (by omega)
      · refine⟨_, rfl, ?_, ?_, ?_⟩
        · exact fun b o e => by rw[upd_ne (fun w => by rw[w, hT] at e; cases e)]; exact s8 b o e
        · rw[za1, <- g2, List.map_set]
        · rw[upd_ne (Ne.symm nTS)]; exact eS8
    · rintro σ H8 ⟨u, rfl, s8, eT8, eS8⟩;obtain⟨l1, l2, l3, _⟩ := zlw hne pos nb;exact⟨_, _, _, _, _, _, layF ts z, sz ++ [z], rfl, s8, eT8, eS8, by rw[List.length_append]; simpa using lsz, l1, by omega, l3⟩
  · rintro σ H3 ⟨u1, u2, u3, u4, u5, u6, ts, sz, rfl, s3, eT3, eS3, lsz, hne, tl, pos⟩;exact⟨_, rfl, q S sz H3 s3 eS3 (by omega)⟩
inductive SpSpR(K:PySem.W.Frag)(vs:List V)(H:Hp)(Q:VK):Prop
 | mk (a l:Addr) (ns sz:List Int) (h_0:vs=[.ref a,.ref l]) (h_1:ScA K H a ns) (h_2:H l=some (.lst (sz.map V.int))) (h_3:sz.length<=24) (h_4:∀l' sz' H',Same H H'->H' l'=some (.lst ((sz':List Int).map V.int))->sz'.length<=60->Q (.ref l') H'):SpSpR K vs H Q
def spSpo(K:PySem.W.Frag):Sp:=fun vs H Q _=>SpSpR K vs H Q
theorem scSpo:FnScope ["_law_script","_law_sizes","_law_at","_law_way","_law_size"] ["_law_script","_law_sizes"] (defScope zbg):=⟨rfl,rfl,rfl,by decide +kernel,rfl,by decide +kernel,by decide +kernel⟩
theorem zgb{σ:L2.St}{H:Hp}{Q:VK}{l:Addr}{sz:List Int}{lo hi:Option Int}(hl:H l=some (.lst (sz.map V.int)))(q:∀p H',Same H H'->H' p=some (.lst ((cutI sz lo hi).map V.int))->Q (.ref p) H'):rSlL K (.ref l) lo hi H Q:=by
 refine⟨l,_,rfl,SqL.of hl,fun p hp=>?_⟩;rw[zpd];exact q p _ (za3 hp _) za1
theorem zf2{H:Hp}{Q:VK}{p1 p2:Addr}{a b:List Int}(g1:H p1=some (.lst (a.map V.int)))(g2:H p2=some (.lst (b.map V.int)))(n:a.length+b.length<=1000)(q:∀p H',Same H H'->H' p=some (.lst ((a++b).map V.int))->Q (.ref p) H'):rCat (.ref p1) (.ref p2) H Q:=by
 refine⟨p1,p2,_,_,rfl,rfl,g1,g2,by rw[List.length_map,List.length_map]; exact szle (by omega),fun p3 hp3=>?_⟩;rw[<-List.map_append];exact q p3 _ (za3 hp3 _) za1
seal L2.PSs L2.PS L2.PE L2.PA in
set_option maxHeartbeats 4000000 in
theorem ok_spo(F:Fun K "_law_spoilt" "_law_spoilt" zbg f fd)(G1:FnOk P w K mg base CX0 1 f1 d1 ["_law_script","_law_k"] (spCell K))(b1:Binds K d1 ["_law_script","_law_k"] [])(k1:PySem.W.keepIn K (.ref f1)=true)(m1:mg "_law_cell_at" = some (.ref f1))(ml:mg "len" = none):FnOk P w K mg base CX0 2 f fd ["_law_script","_law_sizes"] (spSpo K):=by
 refine F.ok scSpo (fun vs H Q E h=>?_) (fun cdv A outer s H vs Q E hr h=>?_)
 ·obtain⟨a,l,ns,sz,rfl,_⟩:=h;rfl
 obtain⟨a,l,ns,sz,rfl,hS,hl,n24,q⟩:=h;refine⟨_,za5 (za9 (i:=2) scSpo.nd rfl (Or.inl rfl) (zaa zb4 (za7 G1 hr (by rfl) m1 k1 b1 .nil pass0 (za0 (pv 0) (za0 za4 za2))) (zaa zal (zag (callLen (K:=K)) (by rfl) ml zc4 (za0 (pv 1) za2)) za4)))
  (za5 (za9 (i:=3) scSpo.nd rfl (Or.inl rfl) (zaa zb4 (za7 G1 hr (by rfl) m1 k1 b1 .nil pass0 (za0 (pv 0) (za0 za4 za2))) za4))
  (za5 (za9 (i:=4) scSpo.nd rfl (Or.inl rfl) (zaa zav (zaa zb4 (za7 G1 hr (by rfl) m1 k1 b1 .nil pass0 (za0 (pv 0) (za0 za4 za2))) za4) za4))
  (za5 (zaw (zaf zcj (pv 3) za4 (nomark _)) (za6 (zad (zaa zc2 (zaa zc2 (zaq (slL (K:=K)) (pv 1) zb8 (zb7 (pv 2))) (zbl (za0 (pv 4) za2))) (zaq (slL (K:=K)) (pv 1) (zb7 (zaa zal (pv 2) za4)) zb8)))) zaj)
  (za5 (zaw (zaf zcj (pv 3) za4 (nomark _)) (za6 (zad (zaa zc2 (zaa zc2 (zaq (slL (K:=K)) (pv 1) zb8 (zb7 (pv 2))) (zbl (za0 (pv 4) za2))) (zaq (slL (K:=K)) (pv 1) (zb7 (pv 2)) zb8)))) zaj)
  (za5 (zaw (zaf zcj (pv 3) za4 (nomark _)) (za6 (zad (zaq (slL (K:=K)) (pv 1) zb8 (zb7 (pv 2))))) zaj)
  (za5 (zaw (zaf zcj (pv 3) za4 (nomark _)) (za6 (zad (zaa zc2 (pv 1) (zbl (za0 (pv 4) za2))))) zaj)
  (za6 (zad (pv 1))))))))),?_⟩
 have ln:(0:Int)<(((sz.map V.int).length:Nat):Int)+1:=by omega
 refine⟨_,rfl,a,ns,3,rfl,hS,by decide,fun c1 _=>?_⟩;refine⟨_,rfl,l,_,rfl,.inl (SqL.of hl),_,_,rfl,rfl,_,_,rfl,rfl,ln,?_⟩;dsimp only;generalize c1 % ((((sz.map V.int).length:Nat):Int)+1)=t;refine⟨_,rfl,a,ns,4,rfl,hS,by decide,fun c2 _=>?_⟩;refine⟨_,_,rfl,rfl,(show(0:Int)<5 by decide),?_⟩;dsimp only;generalize c2 % 5=wy;refine⟨_,rfl,a,ns,5,rfl,hS,by decide,fun c3 _=>?_⟩;refine⟨_,_,rfl,rfl,(show(0:Int)<49 by decide),_,_,rfl,rfl,?_⟩;dsimp only;generalize c3 % 49-3=v;have one:∀{H1:Hp} {p:Addr},H1 p=none->∃H2,upd H1 p (.lst [.int v])=H2/\Same H1 H2/\H2 p=some (.lst (([v]:List Int).map V.int)):=fun hp=>⟨_,rfl,za3 hp _,za1⟩
 have c1':=zg4 sz none (some t);refine⟨_,rfl,rfl,_,rfl,ite2 (fun _=>?_) (fun _=>?_)⟩
 ·have c2':=zg4 sz (some (t+1)) none;refine⟨_,rfl,_,rfl,_,rfl,zgb (σ:=[]) hl fun p1 H1 s1 g1=>⟨_,rfl,by show 1<=sizeLine; decide,fun p2 hp2=>?_⟩⟩;obtain⟨H2,e2,s2,g2⟩:=one hp2;rw[e2];refine zf2 (s2 _ _ g1) g2 (by show _+1<=_; omega) fun p3 H3 s3 g3=>?_
  have s13:=s1.trans (s2.trans s3);refine⟨_,rfl,_,rfl,_,_,rfl,rfl,_,rfl,zgb (σ:=[]) (s13 _ _ hl) fun p4 H4 s4 g4=>?_⟩;refine zf2 (s4 _ _ g3) g4 (by rw[List.length_append]; show _+1+_<=_; omega) fun p5 H5 s5 g5=>?_
  exact q p5 _ H5 (s13.trans (s4.trans s5)) g5 (by rw[List.length_append,List.length_append]; show _+1+_<=_; omega)
 refine⟨_,rfl,rfl,_,rfl,ite2 (fun _=>?_) (fun _=>?_)⟩
 ·have c2':=zg4 sz (some t) none;refine⟨_,rfl,_,rfl,_,rfl,zgb (σ:=[]) hl fun p1 H1 s1 g1=>⟨_,rfl,by show 1<=sizeLine; decide,fun p2 hp2=>?_⟩⟩;obtain⟨H2,e2,s2,g2⟩:=one hp2;rw[e2];refine zf2 (s2 _ _ g1) g2 (by show _+1<=_; omega) fun p3 H3 s3 g3=>?_
  have s13:=s1.trans (s2.trans s3);refine⟨_,rfl,_,rfl,_,rfl,zgb (σ:=[]) (s13 _ _ hl) fun p4 H4 s4 g4=>?_⟩;refine zf2 (s4 _ _ g3) g4 (by rw[List.length_append]; show _+1+_<=_; omega) fun p5 H5 s5 g5=>?_
  exact q p5 _ H5 (s13.trans (s4.trans s5)) g5 (by rw[List.length_append,List.length_append]; show _+1+_<=_; omega)
 refine⟨_,rfl,rfl,_,rfl,ite2 (fun _=>?_) (fun _=>?_)⟩
 ·exact⟨_,rfl,_,rfl,_,rfl,zgb (σ:=[]) hl fun p1 H1 s1 g1=>q p1 _ H1 s1 g1 (by omega)⟩
 refine⟨_,rfl,rfl,_,rfl,ite2 (fun _=>?_) (fun _=>?_)⟩
 ·refine⟨_,rfl,_,rfl,by show 1<=sizeLine; decide,fun p2 hp2=>?_⟩;obtain⟨H2,e2,s2,g2⟩:=one hp2;rw[e2];refine zf2 (s2 _ _ hl) g2 (by show _+1<=_; omega) fun p3 H3 s3 g3=>?_
  exact q p3 _ H3 (s2.trans s3) g3 (by rw[List.length_append]; show _+1<=_; omega)
 ·exact⟨_,rfl,q l sz H (Same.refl _) hl (by omega)⟩
end
theorem zjb:∀{sz ts:List Int},∀b∈boxesF ts sz,b.u=b.d+(b.r-b.l)
 | [],_,b,hb=>by cases hb
 | s :: r,ts,b,hb=>by
  rw[ze2] at hb;rcases List.mem_cons.mp hb with rfl | hb
  ·dsimp only[Box.l,Box.d,Box.r,Box.u]; omega
  ·exact zjb b hb
theorem zh5:∀{sz ts:List Int},(boxesF ts sz).length=sz.length
 | [],_=>rfl
 | s :: r,ts=>by rw[ze2,List.length_cons,List.length_cons,zh5]
def noD(k:Int):PyData:=.tuple [.none,.tuple [.bool true,.int k]]
theorem zi0(k:Int):(noD k).canLay0=true:=by
 simp only[noD,PyData.canLay0];refine zbz fun d hd=>?_
 simp only[List.mem_cons,List.not_mem_nil,or_false] at hd;rcases hd with rfl | rfl
 ·rfl
 ·simp only[PyData.canLay0];refine zbz fun d hd=>?_
  simp only[List.mem_cons,List.not_mem_nil,or_false] at hd;rcases hd with rfl | rfl <;> rfl
theorem zj7(k:Int):(noD k).depth<=64:=by simp[noD,PyData.depth,PyData.depthAll]
theorem zd0{H:Hp}{p:Addr}{x y:V}{a b:PyData}(h:H p=some (.tup [x,y]))(hx:RdD H x a)(hy:RdD H y b):RdD H (.ref p) (.tuple [a,b]):=by
 refine .tup h rfl fun i v d e1 e2=>?_
 match i,e1,e2 with
 | 0,e1,e2=>cases e1; cases e2; exact hx
 | 1,e1,e2=>cases e1; cases e2; exact hy
 | n+2,e1,e2=>simp at e1
theorem rd_no{H:Hp}{p r:Addr}{k:Int}(h:H p=some (.tup [.non,.ref r]))(h2:H r=some (.tup [.bl true,.int k])):RdD H (.ref p) (noD k):=zd0 h .non (zd0 h2 (.bl true) (.int k))
def okD(W U:Rat)(rows:List (List Rat)):PyData:=.tuple [floorD W U rows,.none]
theorem zhz(W U:Rat)(rows:List (List Rat)):(okD W U rows).canLay0=true:=by
 simp only[okD,PyData.canLay0];refine zbz fun d hd=>?_
 simp only[List.mem_cons,List.not_mem_nil,or_false] at hd;rcases hd with rfl | rfl
 ·exact zlx W U rows
 ·rfl
theorem zj6(W U:Rat)(rows:List (List Rat)):(okD W U rows).depth<=64:=by
 have h0:(floorD W U rows).depth<=5:=by
  have:=zbq (n:=4) (ds:=[fqD W,fqD U,.tuple (rows.map rowD)]) fun d hd=>by
   simp only[List.mem_cons,List.not_mem_nil,or_false] at hd;rcases hd with rfl | rfl | rfl
   ·have:=zey W; omega
   ·have:=zey U; omega
   ·exact zmr rows
  simp only[floorD,PyData.depth]; omega
 have:=zbq (n:=5) (ds:=[floorD W U rows,.none]) fun d hd=>by
  simp only[List.mem_cons,List.not_mem_nil,or_false] at hd;rcases hd with rfl | rfl
  ·exact h0
  ·simp[PyData.depth]
 simp only[okD,PyData.depth]; omega
section
variable {P:Program} {w:World} {K:PySem.W.Frag} {mg:Str->Option Value} {base:Heap} {f g h f1 f2 f3 f4 f5 CS CF CC:Addr} {fd gd hd d1 d2 d3 d4 d5:FuncData}
inductive SpHeR(vs:List V)(H:Hp)(Q:VK):Prop
 | mk (x:Nat) (y:Int) (t:Addr) (sz:List Int) (h_0:vs=[.int (x:Int),.int y,.ref t]) (h_1:IntsT H t sz) (h_2:0<x) (h_3:0<=y) (h_4:sz.length<=100) (h_5:laidF (List.replicate x y) sz 0=none->∀p fl H',Same H H'->H' p=some (.tup [.ref fl,.non])->FloorR H' fl ((x:Int):Rat) (y:Rat) ((boxesF (List.replicate x y) sz).map bxR)->Q (.ref p) H')
   (h_6:∀k:Nat,laidF (List.replicate x y) sz 0=some k->∀p r H',Same H H'->H' p=some (.tup [.non,.ref r])->H' r=some (.tup [.bl true,.int (k:Int)])->Q (.ref p) H'):SpHeR vs H Q
def spHe:Sp:=fun vs H Q _=>SpHeR vs H Q
theorem scHe:FnScope ["_law_width","_law_height","_law_sizes","_law_heard_here","e"] ["_law_width","_law_height","_law_sizes"] (defScope zbt):=⟨rfl,rfl,rfl,by decide +kernel,rfl,by decide +kernel,by decide +kernel⟩
seal L2.PSs L2.PS L2.PE L2.PA in
set_option maxHeartbeats 4000000 in
theorem ok_he (F:Fun K "_law_heard" "_law_heard" zbt f fd) (G:FnOk P w K mg base (CXr P w) 3 g gd ["width","height","sizes"] (spFB CS)) (bG:Binds K gd ["width","height","sizes"] []) (kG:PySem.W.keepIn K (.ref g)=true) (mG:mg "floor_by" = some (.ref g))
  (mS:mg "NoSize" = some (.ref CS)) (mF:mg "FloorError" = some (.ref CF)) (mC:mg "NoCode" = some (.ref CC)) (ms:mg "isinstance" = none) (mv:mg "ValueError" = none) (e1:PySem.W.exmOne K (.ref CS) (.ref CS)=some true)
  (kF:PySem.W.kitOne K (.ref CS) (.ref CF)=some true) (kV:PySem.W.kitOne K (.ref CS) (.type "ValueError")=some true) (kC:PySem.W.kitOne K (.ref CS) (.ref CC)=some false) (gS:XGet K CS "at"):FnOk P w K mg base CX0 4 f fd ["_law_width","_law_height","_law_sizes"] spHe:=by
 refine F.ok scHe (fun vs H Q E h=>?_) (fun cdv A outer s H vs Q E hr h=>?_)
 ·obtain⟨x,y,t,sz,rfl,_⟩:=h;rfl
 obtain⟨x,y,t,sz,rfl,hT,x0,y0,few,q1,q2⟩:=h;refine⟨_,za5 (za9 (i:=3) scHe.nd rfl (Or.inl rfl) (zac (za0 zby (za0 (zac (za0 zl5 (za0 zby za2))) za2))))
  (za5 (ps_try (i:=4) scHe.nd rfl rfl (by rfl) mS rfl rfl (zkv (i:=3) scHe.nd rfl (Or.inl rfl) (zpi (zed (zkx G hr (by rfl) mG kG bG .nil (za0 (pv 0) (za0 (pv 1) (za0 (pv 2) za2)))) (zed (px_pe zby) zkw))))
   (fun a=>za6 (za9 (i:=3) scHe.nd rfl (Or.inl rfl) (zac (za0 zby (za0 (zac (za0 (zeq (zag (zf3 (c:=.ref CF) (cv:=.ref CF) fun _ z=>z) (by rfl) ms zcu (za0 (pv 4) (za0 (zl4 (v:=.ref CF) (by rfl) mF rfl) za2)))
    (zeq (zag (zf3 (c:=.ty "ValueError") (cv:=.type "ValueError") fun _ z=>z) (by rfl) ms zcu (za0 (pv 4) (za0 (zqc (v:=.ty "ValueError") (by rfl) mv zg6 rfl) za2))) (zep (zpj (zag (zf3 (c:=.ref CC) (cv:=.ref CC) fun _ z=>z) (by rfl) ms zcu (za0 (pv 4) (za0 (zl4 (v:=.ref CC) (by rfl) mC rfl) za2)))))))
    (za0 (zhq (pv 4) rfl) za2))) za2))))))
  (za6 (zad (pv 3)))),?_⟩
 refine⟨by show 2<=sizeLine; decide,fun p1 hp1=>⟨by show 2<=sizeLine; decide,fun p2 hp2=>?_⟩⟩;have s2:=(za3 hp1 (.tup [.bl false,.non])).trans (za3 hp2 (.tup [.non,.ref p1]));generalize upd (upd H p1 (.tup [.bl false,.non])) p2 (.tup [.non,.ref p1])=H2 at s2;refine⟨_,rfl,_,rfl,_,rfl,x,y,t,sz,rfl,s2 _ _ hT,x0,y0,few,fun el pf H3 s3 hF=>?_,fun k ek d H3 s3 hd=>?_⟩
 ·refine⟨by show 2<=sizeLine; decide,fun p3 hp3=>?_⟩;have s4:=za3 hp3 (.tup [.ref pf,.non]);exact⟨_,rfl,q1 el p3 pf _ (s2.trans (s3.trans s4)) za1 (zc5 s4 hF)⟩
 ·refine⟨e1,fun e he=>?_⟩;have s4:=za3 he (excO e (.ref CS) (some d));have x2:(upd H3 e (excO e (.ref CS) (some d))) e=some (excO e (.ref CS) (some d)):=za1;have hd4:=s4 _ _ hd;generalize upd H3 e (excO e (.ref CS) (some d))=H4 at s4 x2 hd4;refine⟨_,rfl,e,CS,some d,true,rfl,x2,gS.c,kF,_,rfl,iteT ⟨_,rfl,e,CS,some d,true,rfl,x2,gS.c,kV,_,rfl,iteT ⟨_,rfl,e,CS,some d,false,rfl,x2,gS.c,kC,_,rfl,?_⟩⟩⟩;refine⟨_,rfl,e,CS,d,_,_,rfl,x2,hd4,gS,rfl,by show 2<=sizeLine; decide,fun p3 hp3=>?_⟩;have s5:=za3 hp3 (.tup [.bl true,.int (k:Int)]);have g5:(upd H4 p3 (.tup [.bl true,.int (k:Int)])) p3=some (.tup [.bl true,.int (k:Int)]):=za1;refine⟨by show 2<=sizeLine; decide,fun p4 hp4=>?_⟩;have s6:=za3 hp4 (.tup [.non,.ref p3]);exact⟨_,rfl,q2 k ek p4 p3 _ (s2.trans (s3.trans (s4.trans (s5.trans s6)))) za1 (s6 _ _ g5)⟩
end
theorem ndABS:(["_law_a","_law_b","_law_side_here"]:List Str).Nodup:=by decide +kernel
theorem zdx{H:Hp}{p:Addr}(hp:H p=none)(x:Int):∃H',upd H p (.tup [.int x,.int 1])=H'/\Same H H'/\FrR H' p (x:Rat):=⟨_,rfl,za3 hp _,za1⟩
section
variable {P:Program} {w:World} {K:PySem.W.Frag} {mg:Str->Option Value} {base:Heap} {f g h f1 f2 f3 f4 f5:Addr} {fd gd hd d1 d2 d3 d4 d5:FuncData}
inductive SpLrR(K:PySem.W.Frag)(vs:List V)(H:Hp)(Q:VK):Prop
 | mk (a:Addr) (ns:List Int) (h_0:vs=[.ref a]) (h_1:ScA K H a ns) (h_2:∀H',Same H H'->Q (.bl true) H'):SpLrR K vs H Q
def spLr(K:PySem.W.Frag):Sp:=fun vs H Q _=>SpLrR K vs H Q
theorem scLr:FnScope ["_law_script","_law_width","_law_height","_law_sizes","_law_squares","_law_at","_law_heard_here","_law_rectangles"] ["_law_script"] (defScope zap):=⟨rfl,rfl,rfl,by decide +kernel,rfl,by decide +kernel,by decide +kernel⟩
seal L2.PSs L2.PS L2.PE L2.PA in
set_option maxHeartbeats 4000000 in
theorem ok_lr (F : Fun K "_law_laid_right" "_law_laid_right" zap f fd) (G1 : FnOk P w K mg base CX0 1 f1 d1 ["_law_script", "_law_k"] (spCell K)) (b1 : Binds K d1 ["_law_script", "_law_k"] []) (k1 : PySem.W.keepIn K (.ref f1) = true) (m1 : mg "_law_cell_at" = some (.ref f1))
    (G2 : FnOk P w K mg base CX0 2 f2 d2 ["_law_script", "_law_width", "_law_height"] (spSb K)) (b2 : Binds K d2 ["_law_script", "_law_width", "_law_height"] []) (k2 : PySem.W.keepIn K (.ref f2) = true) (m2 : mg "_law_sizes_by" = some (.ref f2))
    (G3 : FnOk P w K mg base CX0 2 f3 d3 ["_law_script", "_law_sizes"] (spSpo K)) (b3 : Binds K d3 ["_law_script", "_law_sizes"] []) (k3 : PySem.W.keepIn K (.ref f3) = true) (m3 : mg "_law_spoilt" = some (.ref f3))
    (G4 : FnOk P w K mg base CX0 2 f4 d4 ["_law_width", "_law_height", "_law_sizes"] spLaid) (b4 : Binds K d4 ["_law_width", "_law_height", "_law_sizes"] []) (k4 : PySem.W.keepIn K (.ref f4) = true) (m4 : mg "_law_laid" = some (.ref f4))
    (G5 : FnOk P w K mg base CX0 4 f5 d5 ["_law_width", "_law_height", "_law_sizes"] spHe) (b5 : Binds K d5 ["_law_width", "_law_height", "_law_sizes"] []) (k5 : PySem.W.keepIn K (.ref f5) = true) (m5 : mg "_law_heard" = some (.ref f5)) (mt : mg "tuple" = none) : FnOk P w K mg base CX0 5 f fd ["_law_script"] (spLr K) := by
  refine F.ok scLr (fun vs H Q E h => ?_) (fun cdv A outer s H vs Q E hr h => ?_)
  · obtain⟨a, ns, rfl, _⟩ := h;rfl
  obtain⟨a, ns, rfl, ⟨hS, hn⟩, q⟩ := h;have r1 := hr.mono (show 1 <= 4 by decide);have r2 := hr.mono (show 2 <= 4 by decide);refine⟨_, za5 (za9 (i := 1) scLr.nd rfl (Or.inl rfl) (zaa zal za4 (zaa zb4 (za7 G1 r1 (by rfl) m1 k1 b1 .nil pass0 (za0 (pv 0) (za0 za4 za2))) za4)))
    (za5 (za9 (i := 2) scLr.nd rfl (Or.inl rfl) (zaa zal za4 (zaa zb4 (za7 G1 r1 (by rfl) m1 k1 b1 .nil pass0 (za0 (pv 0) (za0 za4 za2))) za4)))
    (za5 (za9 (i := 3) scLr.nd rfl (Or.inl rfl) (za7 G3 r2 (by rfl) m3 k3 b3 .nil pass0 (za0 (pv 0) (za0 (za7 G2 r2 (by rfl) m2 k2 b2 .nil pass0 (za0 (pv 0) (za0 (pv 1) (za0 (pv 2) za2)))) za2))))
    (za5 (ze5 (za7 G4 r2 (by rfl) m4 k4 b4 .nil pass0 (za0 (pv 1) (za0 (pv 2) (za0 (pv 3) za2)))) (pgTup (n := 2) (K := K) rfl (zae (zab (i := 4) scLr.nd rfl (Or.inl rfl)) (zae (zab (i := 5) scLr.nd rfl (Or.inl rfl)) zbd))))
    (za5 (za9 (i := 6) scLr.nd rfl (Or.inl rfl) (za7 G5 hr (by rfl) m5 k5 b5 .nil pass0 (za0 (pv 1) (za0 (pv 2) (za0 (zbo (callTup (K := K)) (by rfl) mt zct (za0 (pv 3) za2)) za2)))))
    (za5 (zaw (zaf zpm (pv 4) zby (nomark _)) (za6 (zad (zan (zil hr.units) (pv 6) (zac (za0 zby (za0 (zac (za0 zl5 (za0 (pv 5) za2))) za2))) (nomark _)))) zaj)
    (za5 (zbx (i := 7) scLr.nd rfl (Or.inl rfl) (Nc := ["_law_a", "_law_b", "_law_side_here"]) (cap := []) (g := gTup K 3 (gCons (gName 0) (gCons (gName 1) (gCons (gName 2) gNil)))) (te := tTup (tCons (tTup (tCons (tVar 0) (tCons (tC (.int 1)) tNil))) (tCons (tTup (tCons (tVar 1) (tCons (tC (.int 1)) tNil))) (tCons (tTup (tCons (tOp (rI0 fun i j => .int (i + j)) (tVar 0) (tVar 2)) (tCons (tC (.int 1)) tNil))) (tCons (tTup (tCons (tOp (rI0 fun i j => .int (i + j)) (tVar 1) (tVar 2)) (tCons (tC (.int 1)) tNil))) tNil))))) rfl (piLst (K := K) (pv 4))
          (zbe rfl rfl (by decide +kernel) (by decide +kernel) (List.forall_mem_nil _) rfl (List.forall_mem_nil _)) (fun C fp pins s' H' => pgTup (K := K) rfl (zae (zab (i := 0) ndABS rfl (Or.inl rfl)) (zae (zab (i := 1) ndABS rfl (Or.inl rfl)) (zae (zab (i := 2) ndABS rfl (Or.inl rfl)) zbd))))
          (fun C fp pins s' H' => zac (za0 (zac (za0 (pv 0) (za0 za4 za2))) (za0 (zac (za0 (pv 1) (za0 za4 za2))) (za0 (zac (za0 (zaa zal (pv 0) (pv 2)) (za0 za4 za2))) (za0 (zac (za0 (zaa zal (pv 1) (pv 2)) (za0 za4 za2))) za2))))))
    (za6 (zad (zan (zil hr.units) (pv 6) (zac (za0 (zac (za0 (zac (za0 (pv 1) (za0 za4 za2))) (za0 (zac (za0 (pv 2) (za0 za4 za2))) (za0 (zbo (callTup (K := K)) (by rfl) mt zct (za0 (pv 7) za2)) za2)))) (za0 zby za2))) (nomark _)))))))))), ?_⟩
  refine⟨_, rfl, a, ns, 0, rfl, ⟨hS, hn⟩, by decide, fun c1 _ => ⟨_, _, rfl, rfl, (show(0 : Int) < 40 by decide), _, _, rfl, rfl, ?_⟩⟩;obtain⟨x, ex⟩ : ∃x : Nat, 1 + c1 % 40 = (x : Int) := ⟨(1 + c1 % 40).toNat, by omega⟩;dsimp only;rw[ex];refine⟨_, rfl, a, ns, 1, rfl, ⟨hS, hn⟩, by decide, fun c2 _ => ⟨_, _, rfl, rfl, (show(0 : Int) < 40 by decide), _, _, rfl, rfl, ?_⟩⟩;obtain⟨y, ey, y0⟩ : ∃y : Int, 1 + c2 % 40 = y /\ 0 <= y := ⟨_, rfl, by omega⟩;dsimp only;rw[ey];have x1 : 1 <= x := by omega
  have x40 : x <= 100 := by omega
  refine⟨_, rfl, _, rfl, _, rfl, _, rfl, a, x, y, ns, rfl, ⟨hS, hn⟩, x1, x40, y0, fun l1 sz1 H1 s1 hl1 n24 => ?_⟩;refine⟨a, l1, ns, sz1, rfl, ⟨s1.seq hS, hn⟩, hl1, n24, fun l2 sz H2 s2 hl2 n60 => ?_⟩;refine⟨_, rfl, _, rfl, _, rfl, x, y, l2, sz, rfl, x1, x40, y0, hl2, by omega, fun p v u H3 s3 hp kn ks => ?_⟩;refine⟨p, _, rfl, SqT.of hp, rfl, _, _, rfl, _, _, rfl, rfl, ?_⟩;refine⟨_, rfl, _, rfl, _, rfl, l2, _, rfl, .inl ⟨SqL.of (s3 _ _ hl2), fun t ht => ?_⟩⟩;have s4 := za3 ht (.tup (sz.map V.int));have g4 : IntsT (upd H3 t (.tup (sz.map V.int))) t sz := za1;generalize upd H3 t (.tup (sz.map V.int)) = H4 at s4 g4;have s04 := s1.trans (s2.trans (s3.trans s4));refine⟨x, y, t, sz, rfl, g4, x1, y0, by omega, fun el ph fl H5 s5 hph hF => ?_, fun k ek ph r H5 s5 hph hr' => ?_⟩;rotate_left
  · obtain⟨rfl, rfl⟩ := ks k ek;refine⟨_, rfl, rfl, _, rfl, iteDT rfl ?_⟩;refine⟨_, rfl, _, rfl, by show 2 <= sizeLine; decide, fun pi hpi => ?_⟩;have s6 := za3 hpi (.tup [.bl true, .int (k : Int)]);have g6 : (upd H5 pi (.tup [.bl true, .int (k : Int)])) pi = some (.tup [.bl true, .int (k : Int)]) := za1;generalize upd H5 pi (.tup [.bl true, .int (k : Int)]) = H6 at s6 g6;refine⟨by show 2 <= sizeLine; decide, fun po hpo => ?_⟩;have s7 := za3 hpo (.tup [.non, .ref pi]);have s57 := s6.trans s7;refine⟨noD k, noD k, rd_no (s57 _ _ hph) (s57 _ _ hr'), rd_no za1 (s7 _ _ g6), ⟨zi0 k, zj7 k⟩, ⟨zi0 k, zj7 k⟩, ?_⟩;rw[SeqAt.eqv_refl _ (zi0 k)];exact q _ (s04.trans (s5.trans s57))
  obtain⟨r, rfl, rfl, cs, hcs, hC⟩ := kn el;generalize ebs : boxesF (List.replicate x y) sz = bs at hC hF;have sqb : ∀b ∈ bs, b.u = b.d + (b.r - b.l) := fun b hb => zjb b (by rw[ebs]; exact hb)
  have lb : bs.length <= 60 := by rw[<- ebs, zh5]; exact n60
  have lc : cs.length = bs.length := hC.1;refine⟨_, rfl, rfl, _, rfl, iteDF (fun z => by cases z) ?_⟩;have s45 := s4.trans s5;have hcs5 := s45 _ _ hcs;refine⟨_, rfl, r, rfl, ⟨_, SqL.of hcs5⟩, fun acc hacc => ?_⟩;refine zay (zdl hcs5) (by rw[List.length_map]; omega) hacc (fun i ys σ hq => ∃es : List Addr, ys = es.map V.ref /\ At (TupR FrR) hq es ((bs.map bxR).take i) /\ ∃u0 u1 u2, σ = [u0, u1, u2]) ⟨[], rfl, At.nil, none, none, none, rfl⟩ ?_ ?_
  · rintro i ys σ H6 yy H7 hi sm hacc2 ⟨es, rfl, hE, u0, u1, u2, rfl⟩ ⟨rfl, hy⟩ Cc hCc;obtain⟨c, b, rfl, _, hb, fb⟩ := hC.ref hy;have fb' : H7 c = some (.tup [.int b.l, .int b.d, .int (b.r - b.l)]) := sm _ _ (s45 _ _ fb);refine⟨c, _, rfl, SqT.of fb', rfl, _, _, rfl, _, _, rfl, _, _, rfl, rfl, ?_⟩;refine⟨_, rfl, by show 2 <= sizeLine; decide, fun p0 h0 => ?_⟩;obtain⟨H8, e8, t0, g0⟩ := zdx h0 b.l;rw[e8];refine⟨_, rfl, by show 2 <= sizeLine; decide, fun p1 h1 => ?_⟩;obtain⟨H9, e9, t1, g1⟩ := zdx h1 b.d;rw[e9];refine⟨_, rfl, _, rfl, _, _, rfl, rfl, by show 2 <= sizeLine; decide, fun p2 h2 => ?_⟩;obtain⟨H10, e10, t2, g2⟩ := zdx h2 (b.l + (b.r - b.l))
    (try dsimp only)
    rw[e10];refine⟨_, rfl, _, rfl, _, _, rfl, rfl, by show 2 <= sizeLine; decide, fun p3 h3 => ?_⟩;obtain⟨H11, e11, t3, g3⟩ := zdx h3 (b.d + (b.r - b.l))
    (try dsimp only)
    rw[e11];refine⟨by show 4 <= sizeLine; decide, fun p4 h4 => ?_⟩;have t4 := za3 h4 (.tup [.ref p0, .ref p1, .ref p2, .ref p3]);have g4' : (upd H11 p4 (.tup [.ref p0, .ref p1, .ref p2, .ref p3])) p4 = some (.tup ([p0, p1, p2, p3].map V.ref)) := za1;generalize upd H11 p4 (.tup [.ref p0, .ref p1, .ref p2, .ref p3]) = H12 at t4 g4';have sx := t0.trans (t1.trans (t2.trans (t3.trans t4)));refine hCc _ _ _ sx ⟨es ++ [p4], by simp, ?_, _, _, _, rfl⟩;rw[zah (x := bxR b) (by rw[List.getElem?_map, hb]; rfl)];refine(hE.keep zcv (zdd acc sx)).snoc (tfd (ys := es.map V.ref) ⟨[p0, p1, p2, p3], g4', ?_⟩ (sx _ _ hacc2));have e2 : b.l + (b.r - b.l) = b.r := by omega
    have e3 : b.d + (b.r - b.l) = b.u := (sqb b (List.mem_of_getElem? hb)).symm;rw[e2] at g2;rw[e3] at g3;exact(((At.nil.snoc (R := FrR) (b := p0) (zba (t1.trans (t2.trans (t3.trans t4))) g0)).snoc (b := p1) (zba (t2.trans (t3.trans t4)) g1)).snoc (b := p2) (zba (t3.trans t4) g2)).snoc (b := p3) (zba t4 g3)
  rintro ys σ2 H6 s6 hacc2 _ ⟨es, rfl, hE, _⟩;rw[List.length_map, lc, List.take_of_length_le (by rw[List.length_map]; exact Nat.le_refl _)] at hE;have hE6 := hE.keep zcv (ze1 H6 acc);refine⟨_, rfl, _, rfl, by show 2 <= sizeLine; decide, fun pw hpw => ?_⟩;obtain⟨H7, e7, t7, f7⟩ := zdx hpw (x : Int);rw[e7];refine⟨_, rfl, by show 2 <= sizeLine; decide, fun pu hpu => ?_⟩;obtain⟨H8, e8, t8, f8⟩ := zdx hpu y;rw[e8];have t78 := t7.trans t8;refine⟨_, rfl, acc, _, rfl, .inl ⟨SqL.of (t78 _ _ hacc2), fun t3 ht3 => ?_⟩⟩;have t9 := za3 ht3 (.tup (es.map V.ref));have f9 : TupR (TupR FrR) (upd H8 t3 (.tup (es.map V.ref))) t3 (bs.map bxR) := ⟨es, za1, hE6.keep zcv (t78.trans t9)⟩;generalize upd H8 t3 (.tup (es.map V.ref)) = H9 at t9 f9;refine⟨by show 3 <= sizeLine; decide, fun pf hpf => ?_⟩;have t10 := za3 hpf (.tup [.ref pw, .ref pu, .ref t3]);have f10 : FloorR (upd H9 pf (.tup [.ref pw, .ref pu, .ref t3])) pf ((x : Int) : Rat) (y : Rat) (bs.map bxR) := ⟨pw, pu, t3, za1, zba (t8.trans (t9.trans t10)) f7, zba (t9.trans t10) f8, zgm (R := TupR FrR) (fun s h => zcv s h) t10 f9⟩;generalize upd H9 pf (.tup [.ref pw, .ref pu, .ref t3]) = H10 at t10 f10;refine⟨by show 2 <= sizeLine; decide, fun po hpo => ?_⟩;have t11 := za3 hpo (.tup [.ref pf, .non]);have s611 := s6.trans (t78.trans (t9.trans (t10.trans t11)));refine⟨okD _ _ _, okD _ _ _, zd0 (s611 _ _ hph) (zih (zc5 s611 hF)) .non, zd0 za1 (zih (zc5 t11 f10)) .non, ⟨zhz _ _ _, zj6 _ _ _⟩, ⟨zhz _ _ _, zj6 _ _ _⟩, ?_⟩;rw[SeqAt.eqv_refl _ (zhz _ _ _)];exact q _ (s04.trans (s5.trans s611))
end
def keyB(b:Box):List Int:=[-b.u,b.l]
theorem key_nd{bs:List Box}(h:NoOv bs)(pos:∀b∈bs,b.l<b.r/\b.d<b.u):(bs.map keyB).Nodup:=by
 unfold List.Nodup;rw[List.pairwise_map];refine List.Pairwise.imp_of_mem (fun {a b} ha hb o e=>?_) h;have pa:=pos a ha;have pb:=pos b hb;have e1:-a.u=-b.u:=(List.cons.inj e).1;have e2:a.l=b.l:=(List.cons.inj (List.cons.inj e).2).1
 have:ovB a b=true:=by
  unfold ovB;rw[Bool.and_eq_true,decide_eq_true_iff,decide_eq_true_iff];omega
 rw[this] at o;cases o
theorem ord_by{α:Type}{xs:List α}{key:α->List Int}{p:List Nat}(d:α)(h:OrdBy (xs.map key) p):(p.map fun i=>xs.getD i d).Perm xs/\(p.map fun i=>xs.getD i d).Pairwise fun a b=>lexI (key a) (key b)=true:=by
 obtain⟨h1,h2⟩:=h;rw[List.length_map] at h1;have lt:∀i∈p,i<xs.length:=fun i hi=>List.mem_range.mp (h1.mem_iff.mp hi)
 refine⟨?_,?_⟩
 ·have:=h1.map fun i=>xs.getD i d
  refine this.trans (List.Perm.of_eq ?_);refine List.ext_getElem? fun i=>?_
  rw[List.getElem?_map];rcases Nat.lt_or_ge i xs.length with z | z
  ·rw[List.getElem?_range z,List.getElem?_eq_getElem z]; simp[z]
  ·rw[List.getElem?_eq_none z,List.getElem?_eq_none (by rw[List.length_range]; exact z)]; rfl
 ·rw[List.pairwise_map];refine List.Pairwise.imp_of_mem (fun {i j} hi hj o=>?_) h2;have g:∀i,i<xs.length->(xs.map key).getD i []=key (xs.getD i d):=fun i hi=>by simp[hi]
  rw[g i (lt i hi),g j (lt j hj)] at o;exact o
theorem zrm{α:Type}{R:Hp->Addr->α->Prop}{H:Hp}{cs:List Addr}{xs:List α}(h:At R H cs xs){p:List Nat}(hp:∀i∈p,i<xs.length)(d:α):
  (p.map fun i=>(cs.map V.ref).getD i .non)=(p.map fun i=>cs.getD i 0).map V.ref/\At R H (p.map fun i=>cs.getD i 0) (p.map fun i=>xs.getD i d):=by
 refine⟨?_,by rw[List.length_map,List.length_map],fun i b x e1 e2=>?_⟩
 ·rw[List.map_map];refine List.map_congr_left fun i hi=>?_
  have:=hp i hi
  have hc:i<cs.length:=by rw[h.1]; exact this
  simp[hc]
 ·rw[List.getElem?_map] at e1 e2;obtain⟨k,ek,rfl⟩:=Option.map_eq_some_iff.mp e1;rw[ek] at e2;obtain rfl:=Option.some.inj e2;have hk:=hp k (List.mem_of_getElem? ek);have hc:k<cs.length:=by rw[h.1]; exact hk
  exact h.2 k _ _ (by show cs[k]?=some (cs.getD k 0); rw[List.getD_eq_getElem?_getD,List.getElem?_eq_getElem hc]; rfl) (by show xs[k]?=some (xs.getD k d); rw[List.getD_eq_getElem?_getD,List.getElem?_eq_getElem hk]; rfl)
def lamP:Pos:=⟨128,34,128,72⟩
def lamQ:Str:=(("code_of":Str)++".<locals>.")++"<lambda>"
def lamS:Scope:={ kind:=.function,names:=[("square",.local)],isGenerator:=false,isCoroutine:=false,more:=[] }
theorem scLm:FnScope ["square"] ["square"] lamS:=⟨rfl,rfl,rfl,by decide +kernel,rfl,by decide +kernel,by decide +kernel⟩
def rdLam:V->Hp->VK->Prop:=fun x H Q=>∃(p:Addr) (b:Box),x=.ref p/\BoxL H p b/\∀t,H t=none->Q (.ref t) (upd H t (.tup ((keyB b).map V.int)))
section
variable {P:Program} {w:World} {K:PySem.W.Frag} {mg:Str->Option Value} {base:Heap} {f g h f1 f2 f3 c T fI CN CC:Addr} {fd gd hd d1 d2 d3 dI:FuncData}
def whR(r:List Rat):Bool:=r.all fun x=>decide (x.den=1)
inductive SpWgR(vs:List V)(H:Hp)(Q:VK):Prop
 | mk (p:Addr) (r:List Rat) (h_0:vs=[.ref p]) (h_1:TupR FrR H p r) (h_2:r.length=4) (h_4:∀H',Same H H'->Q (.bl (whR r)) H'):SpWgR vs H Q
def spWg:Sp:=fun vs H Q _=>SpWgR vs H Q
theorem zqo(F:Fun K "is_whole" "is_whole" zc9 f fd)(ma:mg "all" = none):FnOk P w K mg base CX0 1 f fd ["rectangle"] spWg:=by
 refine F.ok scIW (fun vs H Q E h=>?_) (fun cdv A outer s H vs Q E hr h=>?_)
 ·obtain⟨p,r,rfl,_⟩:=h;rfl
 obtain⟨p,r,rfl,⟨bs,hp,hA⟩,n4,q⟩:=h;refine⟨_,za6 (zad (zag (zn8 rfl) (by rfl) ma bt_all (za0 (zd1 (Nc:=["number"]) (cap:=[]) (g:=gName 0) (te:=tOp rEq (tOp (rIxT K) (tVar 0) (tC (.int 1))) (tC (.int 1))) rfl (piTup (K:=K) (pv 0))
   (zbe rfl rfl (by decide +kernel) (by decide +kernel) (List.forall_mem_nil _) rfl (List.forall_mem_nil _)) (fun C fp pins s' H'=>zab (i:=0) ndNum rfl (Or.inl rfl)) (fun C fp pins s' H'=>zan zcj (za8 (ixT (K:=K)) (pv 0) za4 (fun _ _=>rfl)) za4 (nomark _))) za2))),?_⟩
 refine⟨_,rfl,p,rfl,⟨_,SqT.of hp⟩,fun acc hacc=>?_⟩;refine zay (zcz hp) (by rw[List.length_map,hA.1,n4]; decide) hacc (fun i ys σ _=>ys=((r.map fun x=>decide (x.den=1)).take i).map V.bl/\∃u,σ=[u]) ⟨rfl,none,rfl⟩ ?_ ?_
 ·rintro i ys σ H2 x H3 hi sm hacc2 ⟨hys,u,rfl⟩ ⟨rfl,hx⟩ Cc hC;obtain⟨c,y,rfl,_,hy,hB⟩:=hA.ref hx;refine⟨_,rfl,c,_,_,_,rfl,rfl,SqT.of (sm _ _ hB),at1,rfl,?_⟩;rw[show decide (V.int ((y.den:Nat):Int)=V.int 1)=decide (y.den=1) from by
   rw[decide_eq_decide]; exact⟨fun z=>by have:=V.int.inj z; omega,fun z=>by rw[z]; rfl⟩]
  refine hC _ _ _ (Same.refl _) ⟨?_,_,rfl⟩;rw[hys,zah (x:=decide (y.den=1)) (by rw[List.getElem?_map,hy]; rfl),List.map_append]; rfl
 ·rintro ys σ H2 sm ha2 hl ⟨hys,_⟩;refine⟨acc,r.map fun x=>decide (x.den=1),rfl,SqL.of (by rw[ha2,hys,List.take_of_length_le (by rw[List.length_map,List.length_map,hA.1]; exact Nat.le_refl _)]),?_⟩;rw[show((r.map fun x=>decide (x.den=1)).all id)=whR r by unfold whR; rw[List.all_map]; rfl];exact q H2 sm
theorem Fun.okCX {x qual:Str} {st:Stmt} {f:Addr} {fd:FuncData} {N ps:List Str} {k:Nat} {sp:Sp} (F:Fun K x qual st f fd) (S:FnScope N ps (defScope st)) (len:∀vs H Q E,sp vs H Q E->vs.length=ps.length)
  (hbody:∀(A:Around) (outer:List Env) (s:Shared) (H:Hp) (vs:List V) (Q:VK) (E:XK),Room k (A.deeper (PyProof.Rows.envOfC qual (defScope st) s.heap.objs.size f fd.code))->sp vs H Q E →
   ∃t,PSs (cxOf (CXr P w) P w K mg base N qual (defScope st) f fd.code A outer s H E) (defBody st) t/\t { nx:=fun _ H'=>Q .non H',rt:=Q } (start N vs) H):FnOk P w K mg base (CXr P w) (k+1) f fd ps sp:=by
 obtain⟨oc,od,kV,doc,pm,an,cdv,ct,osl,rfl,lk,hcd⟩:=F.ex;exact zra lk hcd S len fun A outer s H vs Q E hr hsp=>hbody A outer s H vs Q E hr hsp
def okRow(r:List Rat):Bool:=whR r && sqR r
def BadAt(rows:List (List Rat))(k:Nat):Prop:=(∃r,rows[k]?=some r/\okRow r=false)/\∀j r,j<k->rows[j]?=some r->okRow r=true
inductive SpCdR(CN CC T:Addr)(vs:List V)(H:Hp)(Q:VK)(E:XK):Prop
 | mk (a:Addr) (W U:Rat) (rows:List (List Rat)) (h_0:vs=[.ref a]) (h_1:FloorR H a W U rows) (h_2:LkK W U rows) (h_3:TabIs H T lamP lamQ) (h_4:∀D o H',LkF W U rows D->PyData.eqv D covD=false->Same H H'->RdD H' (.ref o) D->X1 CN "found" H' E (.ref o))
   (h_5:LkF W U rows covD->∀k:Nat,BadAt rows k->X1 CC "place" H E (.int (k:Int))) (h_6:LkF W U rows covD->(∀r∈rows,okRow r=true)->(∃bs:List Box,rows=bs.map bxR/\(bs.map keyB).Nodup)/\∀(t:Addr) (zs:List Int) (H':Hp),ButT T H H'->zs.length=rows.length->IntsT H' t zs->Q (.ref t) H'):SpCdR CN CC T vs H Q E
def spCd(CN CC T:Addr):Sp:=fun vs H Q E=>SpCdR CN CC T vs H Q E
theorem scNoC:FnScope ["self","place"] ["self","place"] (defScope sNoCInit):=⟨rfl,rfl,rfl,by decide +kernel,rfl,by decide +kernel,by decide +kernel⟩
theorem zql{C:Addr}(F:Fun K "__init__" "NoCode.__init__" sNoCInit f fd)(x1:XStore K C "place"):FnOk P w K mg base CX0 1 f fd ["self","place"] (sp1 C "place"):=by
 refine F.ok scNoC (fun vs H Q E h=>?_) (fun cdv A outer s H vs Q E hr h=>?_)
 ·obtain⟨e,t,y,rfl,_⟩:=h;rfl
 obtain⟨e,t,y,rfl,he,q⟩:=h;exact⟨_,za6 (zhm (pv 0) (pv 1) rfl),init1 x1 he q⟩
theorem scCo:FnScope ["floor","k","rectangle","squares"] ["floor"] (defScope zco):=⟨rfl,rfl,rfl,by decide +kernel,rfl,by decide +kernel,by decide +kernel⟩
theorem ndRc:(["rectangle"]:List Str).Nodup:=by decide +kernel
theorem ndSq:(["square"]:List Str).Nodup:=by decide +kernel
theorem LkK.sf{W U:Rat}{rows:List (List Rat)}(k:LkK W U rows):∀r∈rows,∀x∈r,Sf x:=fun r hr x hx=>by
 have:=k.sz x (by simp only[nums,List.mem_cons]; exact .inr (.inr (List.mem_flatten.mpr ⟨r,hr,hx⟩)))
 exact⟨Nat.le_trans this.2 (Nat.pow_le_pow_right (by decide) (by decide)),Nat.le_trans this.1 (Nat.pow_le_pow_right (by decide) (by decide))⟩
seal L2.PSs L2.PS L2.PE L2.PA in
set_option maxHeartbeats 4000000 in
theorem ok_cd (F:Fun K "code_of" "code_of" zco f fd) (hcd:fd.code=.ref c) (hC:PySem.W.CodeHd base c T) (hB:BMain mg base)
  (G1:FnOk P w K mg base (CXr P w) 5 f1 d1 ["floor"] (spChk CN)) (b1:Binds K d1 ["floor"] []) (k1:PySem.W.keepIn K (.ref f1)=true) (m1:mg "check_covers" = some (.ref f1))
  (G2:FnOk P w K mg base CX0 1 f2 d2 ["rectangle"] spWg) (b2:Binds K d2 ["rectangle"] []) (k2:PySem.W.keepIn K (.ref f2)=true) (m2:mg "is_whole" = some (.ref f2))
  (G3:FnOk P w K mg base CX0 5 f3 d3 ["rectangle"] spSq) (b3:Binds K d3 ["rectangle"] []) (k3:PySem.W.keepIn K (.ref f3)=true) (m3:mg "is_square" = some (.ref f3))
  (me:mg "enumerate" = none) (ms:mg "sorted" = none) (mt:mg "tuple" = none) (GI:FnOk P w K mg base CX0 1 fI dI ["self","place"] (sp1 CC "place")) (bI:Binds K dI ["self","place"] []) (iI:PySem.W.isFn K (.ref fI)=true) (mC:mg "NoCode" = some (.ref CC)) (xC:excI K CC bmV "ValueError.__new__" fI=true) :
  FnOk P w K mg base (CXr P w) 6 f fd ["floor"] (spCd CN CC T):=by
 refine Fun.okCX F scCo (fun vs H Q E h=>?_) (fun A outer s H vs Q E hr h=>?_)
 ·obtain⟨a,W,U,rows,rfl,_⟩:=h;rfl
 obtain⟨a,W,U,rows,rfl,hF,k,hT,q4,q5,q6⟩:=h;have r1:=hr.mono (show 1<=5 by decide);refine⟨_,za5 (zdg (za7 (CX:=CXr P w) (E:=E) G1 hr (by rfl) m1 k1 b1 .nil zoa (za0 (pv 0) za2)))
  (za5 (zb9 PassesOwn.leaving rfl (zho (by rfl) me (za0 (za8 (ixT (K:=K)) (pv 0) za4 (fun _ _=>rfl)) za2)) (pgTup (n:=2) (K:=K) rfl (zae (zab (i:=1) scCo.nd rfl (Or.inl rfl)) (zae (zab (i:=2) scCo.nd rfl (Or.inl rfl)) zbd)))
   (za6 (zaw (PW.pt (zhk (zik (ze4 (za7 G2 r1 (by rfl) m2 k2 b2 .nil pass0 (za0 (pv 2) za2)))) (zgf (zik (ze4 (za7 G3 hr (by rfl) m3 k3 b3 .nil pass0 (za0 (pv 2) za2))))))) (za6 (zdm (by rfl) mC xC PySem.F.excBase_ValueError rfl zd9 GI (hr.mono (by decide)) bI iI (za0 (pv 1) za2))) zaj)))
  (za5 (zbx (i:=3) scCo.nd rfl (Or.inl rfl) (Nc:=["rectangle"]) (cap:=[]) (g:=gName 0) (te:=tComp 1 [] (iTup K (tVar 0)) (gName 0) (tOp (rIxT K) (tVar 0) (tC (.int 0)))) rfl (piTup (K:=K) (za8 (ixT (K:=K)) (pv 0) za4 (fun _ _=>rfl)))
    (zbe rfl rfl (by decide +kernel) (by decide +kernel) (List.forall_mem_nil _) rfl (List.forall_mem_nil _)) (fun C fp pins s' H'=>zab (i:=0) ndRc rfl (Or.inl rfl))
    (fun C fp pins s' H'=>zd1 (Nc:=["number"]) (cap:=[]) (g:=gName 0) rfl (piTup (K:=K) (pv 0)) (zbe rfl rfl (by decide +kernel) (by decide +kernel) (List.forall_mem_nil _) rfl (List.forall_mem_nil _)) (fun C fp pins s' H'=>zab (i:=0) ndNum rfl (Or.inl rfl))
     (fun C fp pins s' H'=>za8 (ixT (K:=K)) (pv 0) za4 (fun _ _=>rfl))))
  (za5 (za9 (i:=3) scCo.nd rfl (Or.inl rfl) (zo7 (k:=2) (pn:="square") (N:=["square"]) (rd:=rdLam) (scope:=lamS) (T:=T) (c:=c) scLm hr (by rfl) ms (pv 3) hcd hC hB rfl rfl (fun _ _ _ _ _=>rfl)
    (fun f c A outer s x H Q h=>⟨_,zac (za0 (zhp zej (za8 (ixL (K:=K)) (pv 0) za4 (fun _ _=>rfl))) (za0 (za8 (ixL (K:=K)) (pv 0) za4 (fun _ _=>rfl)) za2)),by
     obtain⟨p,b,rfl,hp,h⟩:=h;exact⟨_,rfl,p,_,_,_,rfl,rfl,SqL.of hp,t4_3 _ _ _ _,_,rfl,_,rfl,p,_,_,_,rfl,rfl,SqL.of hp,t4_0 _ _ _ _,by show 2<=sizeLine; decide,h⟩⟩)))
  (za6 (zad (zbo (callTup (K:=K)) (by rfl) mt zct (za0 (zd1 (Nc:=["square"]) (cap:=[]) (g:=gName 0) (te:=tOp (rI0 fun i j=>.int (i-j)) (tOp (rIxL K) (tVar 0) (tC (.int 2))) (tOp (rIxL K) (tVar 0) (tC (.int 0)))) rfl (piLst (K:=K) (pv 3))
    (zbe rfl rfl (by decide +kernel) (by decide +kernel) (List.forall_mem_nil _) rfl (List.forall_mem_nil _)) (fun C fp pins s' H'=>zab (i:=0) ndSq rfl (Or.inl rfl))
    (fun C fp pins s' H'=>zaa zav (za8 (ixL (K:=K)) (pv 0) za4 (fun _ _=>rfl)) (za8 (ixL (K:=K)) (pv 0) za4 (fun _ _=>rfl)))) za2))))))),?_⟩
 obtain⟨pw,ph,pr,ha,hw,hu,cs,hpr,hR⟩:=id hF;have l30:=k.len;have lr:cs.length=rows.length:=hR.1;refine⟨_,rfl,a,W,U,rows,rfl,hF,k,fun lk H1 s1=>?_,fun D o H1 lk z s1 rd=>q4 D o H1 lk z s1 rd⟩;refine⟨_,rfl,a,_,_,_,rfl,rfl,SqT.of (s1 _ _ ha),t3_2 _ _ _,pr,_,rfl,s1 _ _ hpr,?_⟩;refine zg2 (xs:=cs.map V.ref) (fun i σ H3=>Same H H3/\(∃(u1 u2:Option V),σ=[some (.ref a),u1,u2,none])/\∀j r,j<i->rows[j]?=some r->okRow r=true) ⟨s1,⟨none,none,rfl⟩,fun j r h=>by omega⟩ (fun i σ H3 _ h=>h.1 _ _ hpr) ?_ ?_
 ·rintro i y σ H3 p hy ⟨s3,⟨u1,u2,rfl⟩,hj⟩ hp;obtain⟨c0,r,rfl,_,hr0,fr⟩:=hR.ref hy;have mr:=List.mem_of_getElem? hr0;have r4:=k.four r mr;have t4:=za3 hp (.tup [.int (i:Int),.ref c0]);have g4:(upd H3 p (.tup [.int (i:Int),.ref c0])) p=some (.tup [.int (i:Int),.ref c0]):=za1;generalize upd H3 p (.tup [.int (i:Int),.ref c0])=H4 at t4 g4;have s4:=s3.trans t4;have bad:∀H5,Same H4 H5->okRow r=false->X1 CC "place" H5 E (.int (i:Int)):=fun H5 s5 z=>(q5 lk i ⟨⟨r,hr0,z⟩,hj⟩).mono (s4.trans s5)
  refine⟨p,_,rfl,SqT.of g4,rfl,_,_,rfl,_,_,rfl,rfl,?_⟩;refine⟨_,rfl,c0,r,rfl,zcv s4 fr,r4,fun H5 s5=>⟨_,rfl,?_⟩⟩;cases z1:whR r with
  | false=>exact iteT (iteT ⟨_,rfl,rz1 (bad H5 s5 (by unfold okRow; rw[z1]; rfl))⟩)
  | true =>
   refine iteF ?_;refine⟨_,rfl,c0,r,rfl,zcv (s4.trans s5) fr,r4,LkK.sf k r mr,fun H6 s6=>⟨_,rfl,?_⟩⟩;cases z2:sqR r with
   | false=>exact iteT ⟨_,rfl,rz1 (bad H6 (s5.trans s6) (by unfold okRow; rw[z1,z2]; rfl))⟩
   | true =>
    refine iteF ⟨s4.trans (s5.trans s6),⟨_,_,rfl⟩,fun j r' h e=>?_⟩;rcases Nat.lt_or_ge j i with w | w
    ·exact hj j r' w e
    ·have:j=i:=by omega
     rw[this,hr0] at e;cases e;unfold okRow; rw[z1,z2]; rfl
 rintro σ H3 ⟨s3,⟨u1,u2,rfl⟩,hj⟩;obtain⟨⟨bs,rfl,nd⟩,q⟩:=q6 lk fun r hr=>by
  obtain⟨j,hjl,e⟩:=List.getElem_of_mem hr;exact hj j r (by rw[List.length_map,lr]; exact hjl) (by rw[List.getElem?_eq_getElem hjl,e])
 have lc:cs.length=bs.length:=by rw[hR.1,List.length_map]
 rw[List.length_map] at l30;refine⟨_,rfl,a,_,_,_,rfl,rfl,SqT.of (s3 _ _ ha),t3_2 _ _ _,pr,rfl,⟨_,SqT.of (s3 _ _ hpr)⟩,fun acc hacc=>?_⟩;refine zay (zcz (s3 _ _ hpr)) (by rw[List.length_map]; omega) hacc (fun i ys σ hq=>∃es:List Addr,ys=es.map V.ref/\At BoxL hq es (bs.take i)/\∃u0,σ=[u0]) ⟨[],rfl,At.nil,none,rfl⟩ ?_ ?_
 ·rintro i ys σ H4 y H5 hi sm hacc2 ⟨es,rfl,hE,u0,rfl⟩ ⟨rfl,hy⟩ Cc hCc;obtain⟨c0,r,rfl,_,hr0,fr⟩:=hR.ref hy;rw[List.getElem?_map] at hr0;obtain⟨b,hb,rfl⟩:=Option.map_eq_some_iff.mp hr0;obtain⟨ds,hds,hD⟩:=zcv (s3.trans sm) fr;refine⟨_,rfl,c0,rfl,⟨_,SqT.of hds⟩,fun ac2 hac2=>?_⟩;refine zay (zcz hds) (by rw[List.length_map,hD.1]; show 4<=1000; decide) hac2 (fun j ys σ hq=>ys=(((bxR b).map (·.num)).take j).map V.int/\∃u,σ=[u]) ⟨rfl,none,rfl⟩ ?_ ?_
  ·rintro j ys σ H6 y H7 hj sm2 hac3 ⟨rfl,u,rfl⟩ ⟨rfl,hz⟩ C2 hC2;obtain⟨d,z,rfl,_,hzq,fz⟩:=hD.ref hz;refine⟨_,rfl,d,_,_,_,rfl,rfl,SqT.of (sm2 _ _ fz),at0,?_⟩;refine hC2 _ _ _ (Same.refl _) ⟨?_,_,rfl⟩;have ez:((bxR b).map (·.num))[j]?=some z.num:=by rw[List.getElem?_map,hzq]; rfl
   rw[zah ez,List.map_append];rfl
  rintro ys σ H6 s6 hac3 _ ⟨rfl,_⟩;rw[List.length_map,hD.1,List.take_of_length_le (by rw[List.length_map]; exact Nat.le_refl _)] at hac3;have g6:BoxL H6 ac2 b:=hac3;have ne:ac2≠acc:=fun z=>by rw[z,hacc2] at hac2; cases hac2
  refine hCc _ _ _ s6 ⟨es++[ac2],by simp,?_,_,rfl⟩;rw[zah hb];exact(hE.keep ze6 (zdd acc s6)).snoc (zcr g6 ne)
 rintro ys σ H4 s4 hacc2 _ ⟨es,rfl,hE,_⟩;rw[List.length_map,lc,List.take_of_length_le (Nat.le_refl _)] at hE;have hE2:=hE.keep ze6 (ze1 H4 acc);have hT4:TabIs H4 T lamP lamQ:=by
  rcases hT with z | ⟨c',z1,z2⟩
  ·exact .inl (s4 _ _ (s3 _ _ z))
  ·exact .inr ⟨c',s4 _ _ (s3 _ _ z1),s4 _ _ (s3 _ _ z2)⟩
 have nT:∀{b:Addr} {xs:List V},H4 b=some (.lst xs)->b≠T:=fun {b xs} e z=>by
  rw[z] at e;rcases hT4 with y | ⟨_,y,_⟩
  ·rw[e] at y; cases y
  ·rw[e] at y; cases y
 have le:es.length=bs.length:=hE2.1;refine⟨_,rfl,hT4,fun fl c' H5 bt nfl tb hc' hf'=>?_⟩;have hacc5:H5 acc=some (.lst (es.map V.ref)):=bt _ _ (nT hacc2) hacc2;have hE5:At BoxL H5 es bs:=⟨hE2.1,fun i b y e1 e2=>bt _ _ (nT (hE2.2 i b y e1 e2)) (hE2.2 i b y e1 e2)⟩;refine⟨acc,es.map V.ref,bs.map keyB,rfl,hacc5,by rw[List.length_map,List.length_map,le],fun r hr=>?_,nd,by rw[List.length_map]; omega,fun i y r hy hr H6 s6 QQ hQ=>?_,fun D pm H6 ob s6 nD hD=>?_⟩
 ·obtain⟨b,_,rfl⟩:=List.mem_map.mp hr;exact fun z=>by cases z
 ·obtain⟨c1,b,rfl,_,hb,fb⟩:=hE5.ref hy;rw[List.getElem?_map,hb] at hr;obtain rfl:=Option.some.inj hr;exact⟨_,rfl,s6 _ _ hf',s6 _ _ hc',c1,b,rfl,s6 _ _ fb,fun t ht=>hQ t _ (za3 ht _) za1⟩
 have lt:∀i∈pm,i<bs.length:=fun i hi=>by
  have:=List.mem_range.mp (ob.1.mem_iff.mp hi)
  rw[List.length_map] at this;exact this
 obtain⟨o1,o2⟩:=ord_by (xs:=bs) (key:=keyB) ((0,0,0,0):Box) ob;obtain⟨p1,p2⟩:=zrm hE5 lt ((0,0,0,0):Box);rw[p1] at hD;have p6:=p2.keep ze6 s6;generalize pm.map (fun i=>es.getD i 0)=es' at hD p6;generalize pm.map (fun i=>bs.getD i ((0,0,0,0):Box))=bs' at o1 o2 p6;have lb:bs'.length=bs.length:=o1.length_eq;have le':es'.length=bs'.length:=p6.1;refine⟨_,rfl,D,rfl,⟨_,SqL.of hD⟩,fun ac2 hac2=>?_⟩;refine zay (zdl hD) (by rw[List.length_map]; omega) hac2 (fun j ys σ hq=>ys=((bs'.map szB).take j).map V.int/\∃u,σ=[u]) ⟨rfl,none,rfl⟩ ?_ ?_
 ·rintro j ys σ H7 y H8 hj sm2 hac3 ⟨rfl,u,rfl⟩ ⟨rfl,hz⟩ C2 hC2;obtain⟨d,b,rfl,_,hb,fb⟩:=p6.ref hz;have fb8:=ze6 sm2 fb;refine⟨_,rfl,d,_,_,_,rfl,rfl,SqL.of fb8,t4_2 _ _ _ _,_,rfl,d,_,_,_,rfl,rfl,SqL.of fb8,t4_0 _ _ _ _,_,_,rfl,rfl,?_⟩;refine hC2 _ _ _ (Same.refl _) ⟨?_,_,rfl⟩;have ez:(bs'.map szB)[j]?=some (szB b):=by rw[List.getElem?_map,hb]; rfl
  rw[zah ez,List.map_append];rfl
 rintro ys σ H7 s7 hac3 _ ⟨rfl,_⟩;rw[List.length_map,le',List.take_of_length_le (by rw[List.length_map]; exact Nat.le_refl _)] at hac3;refine⟨ac2,_,rfl,.inl ⟨SqL.of hac3,fun t ht=>?_⟩⟩;have t8:=za3 ht (.tup ((bs'.map szB).map V.int));have s58:=s6.trans (s7.trans t8);exact q t (bs'.map szB) _ (fun b o n e=>s58 _ _ (bt _ _ n (s4 _ _ (s3 _ _ e)))) (by rw[List.length_map,List.length_map,lb]) za1
end
theorem zbb{x:Rat}(h:x.den=1):x=(x.num:Rat):=Rat.ext rfl (by rw[h]; rfl)
theorem row_ok{x0 x1 x2 x3:Rat}(hw:whR [x0,x1,x2,x3]=true)(hp:ptR [x0,x1,x2,x3]=false):okRow [x0,x1,x2,x3]=decide (x2.num-x0.num=x3.num-x1.num):=by
 have e:sqR [x0,x1,x2,x3]=(!ptR [x0,x1,x2,x3] && decide (x2-x0=x3-x1)):=rfl;unfold okRow;rw[hw,e,hp,Bool.not_false,Bool.true_and,Bool.true_and,decide_eq_decide];simp only[whR,List.all_cons,List.all_nil,Bool.and_true,Bool.and_eq_true,decide_eq_true_iff] at hw;obtain⟨h0,h1,h2,h3⟩:=hw;rw[zbb h0,zbb h1,zbb h2,zbb h3,<-Rat.intCast_sub,<-Rat.intCast_sub];constructor
 ·intro z
  have:(x2.num-x0.num:Int)=(x3.num-x1.num:Int):=by exact_mod_cast z
  simpa using this
 ·intro z
  have:(x2.num-x0.num:Int)=(x3.num-x1.num:Int):=by simpa using z
  rw[this]
section
variable {P:Program} {w:World} {K:PySem.W.Frag} {mg:Str->Option Value} {base:Heap} {f g h f1 f2 f3 T CN CC:Addr} {fd gd hd d1 d2 d3:FuncData}
inductive SpReR(T:Addr)(vs:List V)(H:Hp)(Q:VK):Prop
 | mk (a:Addr) (W U:Rat) (rows:List (List Rat)) (h_0:vs=[.ref a]) (h_1:FloorR H a W U rows) (h_2:LkK W U rows) (h_3:TabIs H T lamP lamQ) (h_4:∀D p o H',LkF W U rows D->PyData.eqv D covD=false->Same H H'->H' p=some (.tup [.str "floor",.ref o])->RdD H' (.ref o) D->Q (.ref p) H')
   (h_5:LkF W U rows covD->∀k:Nat,BadAt rows k->∀p H',Same H H'->H' p=some (.tup [.str "code",.int (k:Int)])->Q (.ref p) H') (h_6:LkF W U rows covD->(∀r∈rows,okRow r=true)->(∃bs:List Box,rows=bs.map bxR/\(bs.map keyB).Nodup)/\∀(p t:Addr) (zs:List Int) (H':Hp),ButT T H H'->zs.length=rows.length->H' p=some (.tup [.str "told",.ref t])->IntsT H' t zs->Q (.ref p) H'):SpReR T vs H Q
def spRe(T:Addr):Sp:=fun vs H Q _=>SpReR T vs H Q
theorem scRe:FnScope ["_law_floor","_law_heard_here","e"] ["_law_floor"] (defScope zb6):=⟨rfl,rfl,rfl,by decide +kernel,rfl,by decide +kernel,by decide +kernel⟩
seal L2.PSs L2.PS L2.PE L2.PA in
set_option maxHeartbeats 4000000 in
theorem ok_re (F:Fun K "_law_refusal" "_law_refusal" zb6 f fd) (G:FnOk P w K mg base (CXr P w) 6 g gd ["floor"] (spCd CN CC T)) (bG:Binds K gd ["floor"] []) (kG:PySem.W.keepIn K (.ref g)=true) (mG:mg "code_of" = some (.ref g))
  (mN:mg "NoFloor" = some (.ref CN)) (mC:mg "NoCode" = some (.ref CC)) (e1:PySem.W.exmOne K (.ref CN) (.ref CN)=some true) (e2:PySem.W.exmOne K (.ref CC) (.ref CN)=some false) (e3:PySem.W.exmOne K (.ref CC) (.ref CC)=some true) (gN:XGet K CN "found") (gC:XGet K CC "place") :
  FnOk P w K mg base CX0 7 f fd ["_law_floor"] (spRe T):=by
 refine F.ok scRe (fun vs H Q E h=>?_) (fun cdv A outer s H vs Q E hr h=>?_)
 ·obtain⟨a,W,U,rows,rfl,_⟩:=h;rfl
 obtain⟨a,W,U,rows,rfl,hF,k,hT,q4,q5,q6⟩:=h;refine⟨_,za5 (za9 (i:=1) scRe.nd rfl (Or.inl rfl) (zac (za0 zc1 (za0 zby za2))))
  (za5 (zq9 (i:=2) scRe.nd rfl rfl (by rfl) mN (by rfl) mC rfl rfl (zkv (i:=1) scRe.nd rfl (Or.inl rfl) (zpi (zed (px_pe zc1) (zed (zkx G hr (by rfl) mG kG bG .nil (za0 (pv 0) za2)) zkw))))
   (fun a=>za6 (za9 (i:=1) scRe.nd rfl (Or.inl rfl) (zac (za0 zc1 (za0 (zhq (pv 2) rfl) za2))))) (fun a=>za6 (za9 (i:=1) scRe.nd rfl (Or.inl rfl) (zac (za0 zc1 (za0 (zhq (pv 2) rfl) za2))))))
  (za6 (zad (pv 1)))),?_⟩
 refine⟨by show 2<=sizeLine; decide,fun p1 hp1=>?_⟩;have s1:=za3 hp1 (.tup [.str "",.non]);have hT1:TabIs (upd H p1 (.tup [.str "",.non])) T lamP lamQ:=by
  rcases hT with z | ⟨c',z1,z2⟩
  ·exact .inl (s1 _ _ z)
  ·exact .inr ⟨c',s1 _ _ z1,s1 _ _ z2⟩
 generalize upd H p1 (.tup [.str "",.non])=H1 at s1 hT1;refine⟨_,rfl,a,W,U,rows,rfl,zc5 s1 hF,k,hT1,fun D o H2 lk z s2 rd d H3 s3 hd=>?_,fun lk kk bad d H3 s3 hd=>?_,fun lk ok=>?_⟩
 ·refine .inl ⟨e1,fun e he=>?_⟩;have s4:=za3 he (excO e (.ref CN) (some d));have x2:(upd H3 e (excO e (.ref CN) (some d))) e=some (excO e (.ref CN) (some d)):=za1;have hd4:=s4 _ _ hd;generalize upd H3 e (excO e (.ref CN) (some d))=H4 at s4 x2 hd4;refine⟨_,rfl,e,CN,d,_,_,rfl,x2,hd4,gN,rfl,by show 2<=sizeLine; decide,fun p3 hp3=>?_⟩;have s5:=za3 hp3 (.tup [.str "floor",.ref o]);exact⟨_,rfl,q4 D p3 o _ lk z (s1.trans (s2.trans (s3.trans (s4.trans s5)))) za1 (rd.keep (s3.trans (s4.trans s5)))⟩
 ·refine .inr ⟨e2,e3,fun e he=>?_⟩;have s4:=za3 he (excO e (.ref CC) (some d));have x2:(upd H3 e (excO e (.ref CC) (some d))) e=some (excO e (.ref CC) (some d)):=za1;have hd4:=s4 _ _ hd;generalize upd H3 e (excO e (.ref CC) (some d))=H4 at s4 x2 hd4;refine⟨_,rfl,e,CC,d,_,_,rfl,x2,hd4,gC,rfl,by show 2<=sizeLine; decide,fun p3 hp3=>?_⟩;have s5:=za3 hp3 (.tup [.str "code",.int (kk:Int)]);exact⟨_,rfl,q5 lk kk bad p3 _ (s1.trans (s3.trans (s4.trans s5))) za1⟩
 ·obtain⟨x,q⟩:=q6 lk ok;refine⟨x,fun t zs H2 bt ln hz=>⟨by show 2<=sizeLine; decide,fun p3 hp3=>?_⟩⟩;have s5:=za3 hp3 (.tup [.str "told",.ref t]);exact⟨_,rfl,q p3 t zs _ (fun b o n e=>s5 _ _ (bt _ _ n (s1 _ _ e))) ln za1 (s5 _ _ hz)⟩
inductive SpNsR(vs:List V)(H:Hp)(Q:VK):Prop
 | mk (a:Addr) (W U:Rat) (rows:List (List Rat)) (h_0:vs=[.ref a]) (h_1:FloorR H a W U rows) (h_2:rows.length<=30) (h_3:∀r∈rows,r.length=4) (h_4:∀r∈rows,ptR r=false) (h_5:∀k:Nat,BadAt rows k->∀H',Same H H'->Q (.int (k:Int)) H') (h_6:(∀r∈rows,okRow r=true)->∀H',Same H H'->Q .non H'):SpNsR vs H Q
def spNs:Sp:=fun vs H Q _=>SpNsR vs H Q
theorem scNs:FnScope ["_law_floor","_law_k","_law_one"] ["_law_floor"] (defScope zar):=⟨rfl,rfl,rfl,by decide +kernel,rfl,by decide +kernel,by decide +kernel⟩
theorem ndLa:(["_law_a"]:List Str).Nodup:=by decide +kernel
seal L2.PSs L2.PS L2.PE L2.PA in
set_option maxHeartbeats 4000000 in
theorem ok_ns(F:Fun K "_law_no_square" "_law_no_square" zar f fd)(me:mg "enumerate" = none)(man:mg "any" = none):FnOk P w K mg base CX0 1 f fd ["_law_floor"] spNs:=by
 refine F.ok scNs (fun vs H Q E h=>?_) (fun cdv A outer s H vs Q E hr h=>?_)
 ·obtain⟨a,W,U,rows,rfl,_⟩:=h;rfl
 obtain⟨a,W,U,rows,rfl,⟨pw,ph,pr,ha,hw,hu,cs,hpr,hR⟩,n30,four,npt,q1,q2⟩:=h;refine⟨_,za5 (zb9 PassesOwn.never rfl (zho (by rfl) me (za0 (za8 (ixT (K:=K)) (pv 0) za4 (fun _ _=>rfl)) za2)) (pgTup (n:=2) (K:=K) rfl (zae (zab (i:=1) scNs.nd rfl (Or.inl rfl)) (zae (zab (i:=2) scNs.nd rfl (Or.inl rfl)) zbd)))
   (za5 (zaw (ze4 (zag (zn7 rfl) (by rfl) man bt_any (za0 (zd1 (Nc:=["_law_a"]) (cap:=[]) (g:=gName 0) (te:=tOp rNe (tOp (rIxT K) (tVar 0) (tC (.int 1))) (tC (.int 1))) rfl (piTup (K:=K) (pv 2))
     (zbe rfl rfl (by decide +kernel) (by decide +kernel) (List.forall_mem_nil _) rfl (List.forall_mem_nil _)) (fun C fp pins s' H'=>zab (i:=0) ndLa rfl (Or.inl rfl)) (fun C fp pins s' H'=>zan zod (za8 (ixT (K:=K)) (pv 0) za4 (fun _ _=>rfl)) za4 (nomark _))) za2))) (za6 (zad (pv 1))) zaj)
   (za6 (zaw (zaf zod (zaa zav (za8 (ixT (K:=K)) (za8 (ixT (K:=K)) (pv 2) za4 (fun _ _=>rfl)) za4 (fun _ _=>rfl)) (za8 (ixT (K:=K)) (za8 (ixT (K:=K)) (pv 2) za4 (fun _ _=>rfl)) za4 (fun _ _=>rfl)))
     (zaa zav (za8 (ixT (K:=K)) (za8 (ixT (K:=K)) (pv 2) za4 (fun _ _=>rfl)) za4 (fun _ _=>rfl)) (za8 (ixT (K:=K)) (za8 (ixT (K:=K)) (pv 2) za4 (fun _ _=>rfl)) za4 (fun _ _=>rfl))) (nomark _)) (za6 (zad (pv 1))) zaj))))
  (za6 (zad zby)),?_⟩
 have lr:cs.length=rows.length:=hR.1;refine⟨_,rfl,a,_,_,_,rfl,rfl,SqT.of ha,t3_2 _ _ _,pr,_,rfl,hpr,?_⟩;refine zg2 (xs:=cs.map V.ref) (fun i σ H3=>Same H H3/\(∃(u1 u2:Option V),σ=[some (.ref a),u1,u2])/\∀j r,j<i->rows[j]?=some r->okRow r=true) ⟨Same.refl _,⟨none,none,rfl⟩,fun j r h=>by omega⟩ (fun i σ H3 _ h=>h.1 _ _ hpr) ?_ ?_
 ·rintro i y σ H3 p hy ⟨s3,⟨u1,u2,rfl⟩,hj⟩ hp;obtain⟨c0,r,rfl,_,hr0,fr⟩:=hR.ref hy;have mr:=List.mem_of_getElem? hr0;obtain⟨x0a,x1a,x2a,x3a,x0,x1,x2,x3,rfl,hc0,f0,f1',f2',f3'⟩:=tup4 fr (four r mr);have pt:=npt _ mr;have t4:=za3 hp (.tup [.int (i:Int),.ref c0]);have g4:(upd H3 p (.tup [.int (i:Int),.ref c0])) p=some (.tup [.int (i:Int),.ref c0]):=za1;generalize upd H3 p (.tup [.int (i:Int),.ref c0])=H4 at t4 g4;have s4:=s3.trans t4;refine⟨p,_,rfl,SqT.of g4,rfl,_,_,rfl,_,_,rfl,rfl,?_⟩;have hc4:H4 c0=some (.tup ([x0a,x1a,x2a,x3a].map V.ref)):=s4 _ _ hc0;have hA:At FrR H4 [x0a,x1a,x2a,x3a] [x0,x1,x2,x3]:=(((At.nil.snoc (R:=FrR) (b:=x0a) (zba s4 f0)).snoc (b:=x1a) (zba s4 f1')).snoc (b:=x2a) (zba s4 f2')).snoc (b:=x3a) (zba s4 f3');refine⟨_,rfl,c0,rfl,⟨_,SqT.of hc4⟩,fun acc hacc=>?_⟩;refine zay (zcz hc4) (by show 4<=1000; decide) hacc (fun i ys σ _=>ys=((([x0,x1,x2,x3]:List Rat).map fun x=>!decide (x.den=1)).take i).map V.bl/\∃u,σ=[u]) ⟨rfl,none,rfl⟩ ?_ ?_
  ·rintro i2 ys σ2 H5 v H6 hi sm hacc2 ⟨hys,u,rfl⟩ ⟨rfl,hx⟩ Cc hC;obtain⟨c1,y1,rfl,_,hy1,hB⟩:=hA.ref hx;refine⟨_,rfl,c1,_,_,_,rfl,rfl,SqT.of (sm _ _ hB),at1,rfl,?_⟩;rw[show decide (V.int ((y1.den:Nat):Int)=V.int 1)=decide (y1.den=1) from by
    rw[decide_eq_decide]; exact⟨fun z=>by have:=V.int.inj z; omega,fun z=>by rw[z]; rfl⟩]
   refine hC _ _ _ (Same.refl _) ⟨?_,_,rfl⟩;rw[hys,zah (x:=!decide (y1.den=1)) (by rw[List.getElem?_map,hy1]; rfl),List.map_append]; rfl
  rintro ys σ2 H5 s5 hacc2 _ ⟨hys,_⟩;refine⟨acc,([x0,x1,x2,x3]:List Rat).map fun x=>!decide (x.den=1),rfl,SqL.of (by rw[hacc2,hys]; rfl),?_⟩;have ew:((([x0,x1,x2,x3]:List Rat).map fun x=>!decide (x.den=1)).any id)=!whR [x0,x1,x2,x3]:=by
   simp only[whR,List.map_cons,List.map_nil,List.any_cons,List.any_nil,List.all_cons,List.all_nil,id,Bool.or_false,Bool.and_true,Bool.not_and]
  rw[ew];have bad:okRow [x0,x1,x2,x3]=false->∀H',Same H5 H'->Q (.int (i:Int)) H':=fun z H' s'=>q1 i ⟨⟨_,hr0,z⟩,hj⟩ H' (s4.trans (s5.trans s'))
  refine⟨_,rfl,?_⟩;cases z1:whR [x0,x1,x2,x3] with
  | false=>exact iteT ⟨_,rfl,bad (by unfold okRow; rw[z1]; rfl) _ (Same.refl _)⟩
  | true =>
   refine iteF ?_;have ro:=row_ok z1 pt;have hc5:=s5 _ _ hc4;have F0:=zba (s4.trans s5) f0;have F1:=zba (s4.trans s5) f1';have F2:=zba (s4.trans s5) f2';have F3:=zba (s4.trans s5) f3';refine⟨_,rfl,c0,_,_,_,rfl,rfl,SqT.of hc5,q4_2,x2a,_,_,_,rfl,rfl,SqT.of F2,at0,_,rfl,c0,_,_,_,rfl,rfl,SqT.of hc5,q4_0,x0a,_,_,_,rfl,rfl,SqT.of F0,at0,_,_,rfl,rfl,_,rfl,c0,_,_,_,rfl,rfl,SqT.of hc5,q4_3,x3a,_,_,_,rfl,rfl,SqT.of F3,at0,_,rfl,c0,_,_,_,rfl,rfl,SqT.of hc5,q4_1,x1a,_,_,_,rfl,rfl,SqT.of F1,at0,_,_,rfl,rfl,rfl,_,rfl,?_⟩;by_cases z2:x2.num-x0.num=x3.num-x1.num
   ·refine iteNS (iv z2) ⟨s4.trans s5,⟨_,_,rfl⟩,fun j r' h e=>?_⟩;rcases Nat.lt_or_ge j i with w | w
    ·exact hj j r' w e
    ·have:j=i:=by omega
     rw[this,hr0] at e;cases e;rw[ro,decide_eq_true z2]
   ·exact iteNN (ivn z2) ⟨_,rfl,bad (by rw[ro,decide_eq_false z2]) _ (Same.refl _)⟩
 rintro σ H3 ⟨s3,⟨u1,u2,rfl⟩,hj⟩;exact q2 (fun r hr=>by
  obtain⟨j,hjl,e⟩:=List.getElem_of_mem hr;exact hj j r (by rw[List.length_map,lr]; exact hjl) (by rw[List.getElem?_eq_getElem hjl,e])) H3 s3
end
section
variable {k B:Int} {W U:Int} {bs:List Box}
def fK(k B:Int)(e:Int):Int:=wh B ((e:Rat) / (k:Rat))
def dK(k B:Int)(e:Int):Prop:=(((e:Rat) / (k:Rat)).den:Int) ∣ B
theorem zpr{e:Int}(h:dK k B e):((fK k B e:Int):Rat)=B*((e:Rat) / (k:Rat)):=wh_rat h
theorem zne(bs:List Box):boxesW B (bs.map (gap4 k))=bs.map (mapB (fK k B)):=by
 unfold boxesW;rw[List.map_map];rfl
theorem zl1{c x:Int}(h:0<c):0<x*c↔0<x :=
 ⟨fun z=>by
  rcases Int.lt_or_le 0 x with y | y
  ·exact y
  ·have:=Int.mul_nonpos_of_nonpos_of_nonneg y (Int.le_of_lt h); omega,fun z=>Int.mul_pos z h⟩
theorem zf8:((0:Int):Rat) / (k:Rat)=0:=by
 rw[Rat.div_def]; simp
theorem scK(hB:0<B)(hk:0<k):Sc (fK k B) (dK k B):=by
 have hk':(k:Rat)≠0:=by exact_mod_cast (show k≠0 by omega)
 refine⟨fun a b ha hb=>?_,?_,?_⟩
 ·have e1:=zpr ha;have e2:=zpr hb;have e:(((fK k B b-fK k B a)*k:Int):Rat)=(((b-a)*B:Int):Rat):=by
   rw[Rat.intCast_mul,Rat.intCast_mul,Rat.intCast_sub,Rat.intCast_sub,e1,e2]
   grind
  have e':(fK k B b-fK k B a)*k=(b-a)*B:=by exact_mod_cast e
  have p1:=zl1 (x:=fK k B b-fK k B a) hk;have p2:=zl1 (x:=b-a) hB;rw[e'] at p1;constructor
  ·intro z
   have:=p1.mp (p2.mpr (by omega)); omega
  ·intro z
   have:=p2.mp (p1.mpr (by omega)); omega
 ·unfold dK;rw[zf8];exact Int.one_dvd _
 ·unfold fK wh;rw[zf8];exact Int.zero_mul _
theorem zdt{e:Int}(k1:1<=k)(k6:k<=65536)(he:e.natAbs<=2 ^ 64):((e:Rat) / (k:Rat)).den<=2 ^ 16/\((e:Rat) / (k:Rat)).num.natAbs<=2 ^ 64:=by
 have e0:=zdc e k (by omega);have l1:=zmj e k (by omega);have l2:=zmi e k (by omega);rw[e0] at l1 l2;dsimp only at l1 l2;rw[Int.natAbs_natCast] at l2
 have:(65536:Nat)<=2 ^ 16:=by decide
 exact⟨by omega,by omega⟩
structure LawF(k W U:Int)(bs:List Box):Prop where
 k1:1<=k
 k6:k<=65536
 len:bs.length<=30
 w:W.natAbs<=2 ^ 64
 u:U.natAbs<=2 ^ 64
 sm:∀b∈bs,b.l.natAbs<=2 ^ 64/\b.d.natAbs<=2 ^ 64/\b.r.natAbs<=2 ^ 64/\b.u.natAbs<=2 ^ 64
theorem LawF.lk(h:LawF k W U bs):LkK ((W:Rat) / (k:Rat)) ((U:Rat) / (k:Rat)) (bs.map (gap4 k)):=by
 refine⟨by rw[List.length_map]; exact h.len,fun r hr=>?_,fun q hq=>?_⟩
 ·obtain⟨b,_,rfl⟩:=List.mem_map.mp hr; rfl
 ·simp only[nums,List.mem_cons,List.mem_flatten,List.mem_map] at hq;rcases hq with rfl | rfl | ⟨_,⟨b,hb,rfl⟩,hq⟩
  ·exact zdt h.k1 h.k6 h.w
  ·exact zdt h.k1 h.k6 h.u
  ·obtain⟨a1,a2,a3,a4⟩:=h.sm b hb;simp only[gap4,List.mem_cons,List.not_mem_nil,or_false] at hq;rcases hq with rfl | rfl | rfl | rfl
   ·exact zdt h.k1 h.k6 a1
   ·exact zdt h.k1 h.k6 a2
   ·exact zdt h.k1 h.k6 a3
   ·exact zdt h.k1 h.k6 a4
def cbK(k W U:Int)(bs:List Box):Int:=cb (nums ((W:Rat) / (k:Rat)) ((U:Rat) / (k:Rat)) (bs.map (gap4 k)))
theorem LawF.cbp(h:LawF k W U bs):0<cbK k W U bs:=h.lk.cb.1
theorem LawF.dW(h:LawF k W U bs):dK k (cbK k W U bs) W:=h.lk.cb.2.1 _ (by simp)
theorem LawF.dU(h:LawF k W U bs):dK k (cbK k W U bs) U:=h.lk.cb.2.1 _ (by simp)
theorem LawF.dB(h:LawF k W U bs):∀b∈bs,DB (dK k (cbK k W U bs)) b:=fun b hb=>by
 have m:∀q∈gap4 k b,q∈nums ((W:Rat) / (k:Rat)) ((U:Rat) / (k:Rat)) (bs.map (gap4 k)):=fun q hq=>by
  simp only[nums,List.mem_cons];exact .inr (.inr (List.mem_flatten.mpr ⟨_,List.mem_map.mpr ⟨b,hb,rfl⟩,hq⟩))
 exact⟨h.lk.cb.2.1 _ (m _ (by simp[gap4])),h.lk.cb.2.1 _ (m _ (by simp[gap4])),h.lk.cb.2.1 _ (m _ (by simp[gap4])),h.lk.cb.2.1 _ (m _ (by simp[gap4]))⟩
theorem LawF.sc(h:LawF k W U bs):Sc (fK k (cbK k W U bs)) (dK k (cbK k W U bs)):=scK h.cbp (by have:=h.k1; omega)
theorem LawF.dX(h:LawF k W U bs){xs:List Int}(bx:Bd W (xsOf bs) xs):∀v∈xs,dK k (cbK k W U bs) v:=fun v hv=>by
 rcases(bx.mem v).mp hv with rfl | rfl | hv
 ·exact h.sc.z
 ·exact h.dW
 ·rcases List.mem_append.mp hv with z | z
  ·obtain⟨b,hb,rfl⟩:=List.mem_map.mp z; exact(h.dB b hb).1
  ·obtain⟨b,hb,rfl⟩:=List.mem_map.mp z; exact(h.dB b hb).2.2.1
theorem LawF.dY(h:LawF k W U bs){ys:List Int}(by':Bd U (ysOf bs) ys):∀v∈ys,dK k (cbK k W U bs) v:=fun v hv=>by
 rcases(by'.mem v).mp hv with rfl | rfl | hv
 ·exact h.sc.z
 ·exact h.dU
 ·rcases List.mem_append.mp hv with z | z
  ·obtain⟨b,hb,rfl⟩:=List.mem_map.mp z; exact(h.dB b hb).2.1
  ·obtain⟨b,hb,rfl⟩:=List.mem_map.mp z; exact(h.dB b hb).2.2.2
abbrev LookK(k W U:Int)(bs:List Box)(ws:List V):Prop:=Look (fK k (cbK k W U bs) W) (fK k (cbK k W U bs) U) (bs.map (mapB (fK k (cbK k W U bs)))) ws
end
section
variable {f:Int->Int} {D:Int->Prop}
theorem Sc.ni(s:Sc f D){b:Box}(h:DB D b):niB (mapB f b)=niB b:=by
 obtain⟨h1,h2,h3,h4⟩:=h;show(decide (f b.r<f b.l) || (decide (f b.u<f b.d) || (decide (f b.l=f b.r) != decide (f b.d=f b.u))))=_;rw[decide_eq_decide.mpr (s.lt _ _ h3 h1).symm,decide_eq_decide.mpr (s.lt _ _ h4 h2).symm,decide_eq_decide.mpr (s.eq h1 h3).symm,decide_eq_decide.mpr (s.eq h2 h4).symm];rfl
theorem Sc.out(s:Sc f D){w h:Int}{b:Box}(hw:D w)(hh:D h)(hb:DB D b):outB (f w) (f h) (mapB f b)=outB w h b:=by
 obtain⟨h1,h2,h3,h4⟩:=hb;show(decide (f b.l<0) || (decide (f b.d<0) || (decide (f w<f b.r) || decide (f h<f b.u))))=_;have a:=s.lt _ _ h1 s.z; have c:=s.lt _ _ h2 s.z;rw[s.f0] at a c;rw[decide_eq_decide.mpr a.symm,decide_eq_decide.mpr c.symm,decide_eq_decide.mpr (s.lt _ _ hw h3).symm,decide_eq_decide.mpr (s.lt _ _ hh h4).symm];rfl
end
theorem zqt{b:Box}(h:niB b=false):okB b:=by
 simp only[niB,Bool.or_eq_false_iff,decide_eq_false_iff_not,bne_eq_false_iff_eq,decide_eq_decide] at h;obtain⟨h1,h2,h3⟩:=h;unfold okB;by_cases e:b.l=b.r
 ·exact .inr ⟨e,h3.mp e⟩
 ·have:¬b.d=b.u:=fun z=>e (h3.mpr z)
  exact .inl ⟨by omega,by omega⟩
theorem zob{w h:Int}{b:Box}(z:outB w h b=false):inB w h b:=by
 simp only[outB,Bool.or_eq_false_iff,decide_eq_false_iff_not] at z;unfold inB;omega
def insI(x:Int):List Int->List Int
 | []=>[x]
 | y :: l=>if x<y then x :: y :: l else if x=y then y :: l else y :: insI x l
theorem insI_mem{x v:Int}:∀{l:List Int},v∈insI x l↔v=x\/v∈l
 | []=>by simp[insI]
 | y :: l=>by
  unfold insI;split
  ·simp
  ·split
   ·rename_i e; subst e; simp
   ·rw[List.mem_cons,insI_mem (l:=l),List.mem_cons];constructor
    ·rintro(h | h | h) <;> simp[h]
    ·rintro(h | h | h) <;> simp[h]
theorem zmd{x:Int}:∀{l:List Int},l.Pairwise (· < ·)->(insI x l).Pairwise (· < ·)
 | [],_=>by simp[insI]
 | y :: l,h=>by
  unfold insI;have h':=List.pairwise_cons.mp h;split
  ·rename_i z
   refine List.pairwise_cons.mpr ⟨fun v hv=>?_,h⟩;rcases List.mem_cons.mp hv with rfl | hv
   ·exact z
   ·have:=h'.1 v hv; omega
  ·split
   ·exact h
   ·refine List.pairwise_cons.mpr ⟨fun v hv=>?_,zmd h'.2⟩;rcases insI_mem.mp hv with rfl | hv
    ·omega
    ·exact h'.1 v hv
theorem up_ex:∀L:List Int,∃xs:List Int,xs.Pairwise (· < ·)/\∀v,v∈xs↔v∈L
 | []=>⟨[],.nil,fun _=>Iff.rfl⟩
 | x :: L=>by
  obtain⟨xs,h1,h2⟩:=up_ex L;exact⟨insI x xs,zmd h1,fun v=>by rw[insI_mem,h2,List.mem_cons]⟩
theorem bd_ex(m:Int)(vs:List Int):∃xs,Bd m vs xs:=by
 obtain⟨xs,h1,h2⟩:=up_ex (0 :: m :: vs);exact⟨xs,h1,fun v=>by rw[h2,List.mem_cons,List.mem_cons]⟩
section
variable {k W U:Int} {bs:List Box}
theorem xs_map(f:Int->Int)(bs:List Box):xsOf (bs.map (mapB f))=(xsOf bs).map f:=by
 simp only[xsOf,List.map_append,List.map_map]; rfl
theorem ys_map(f:Int->Int)(bs:List Box):ysOf (bs.map (mapB f))=(ysOf bs).map f:=by
 simp only[ysOf,List.map_append,List.map_map]; rfl
theorem zrk(h:LawF k W U bs)(hW:0<W)(hU:0<U):LookK k W U bs [.str "covers"]↔Clean W U bs/\Full W U bs:=by
 obtain⟨xs,bx⟩:=bd_ex W (xsOf bs);obtain⟨ys,by'⟩:=bd_ex U (ysOf bs);have s:=h.sc;have b1:=s.bd bx (h.dX bx);have b2:=s.bd by' (h.dY by')
 rw[<-xs_map] at b1;rw[<-ys_map] at b2;have g:=s.gap (bs:=bs) h.dB (h.dX bx) (h.dY by');constructor
 ·intro lk;cases lk with
  | cov xs2 ys2 a o z c1 c2 e =>
   rw[c1.uniq b1,c2.uniq b2,g,Option.map_eq_none_iff] at e;have cl:Clean W U bs:=by
    refine⟨fun b hb=>?_,fun b hb=>?_,?_⟩
    ·exact zqt (by rw[<-Sc.ni s (h.dB b hb)]; exact a _ (List.mem_map.mpr ⟨b,hb,rfl⟩))
    ·exact zob (by rw[<-Sc.out s h.dW h.dU (h.dB b hb)]; exact o _ (List.mem_map.mpr ⟨b,hb,rfl⟩))
    ·refine(List.pairwise_map.mp z).imp_of_mem fun {x y} hx hy q=>?_
     rw[<-s.ov (h.dB x hx) (h.dB y hy)]; exact q
   exact⟨cl,(cl.full hW hU bx by').mp e⟩
 ·rintro⟨cl,fu⟩;refine .cov _ _ (fun b hb=>?_) (fun b hb=>?_) (NoOv.sc s h.dB cl.nov) b1 b2 ?_
  ·obtain⟨c,hc,rfl⟩:=List.mem_map.mp hb;rw[Sc.ni s (h.dB c hc)]; exact ni_ok (cl.ok c hc)
  ·obtain⟨c,hc,rfl⟩:=List.mem_map.mp hb;rw[Sc.out s h.dW h.dU (h.dB c hc)]
   have:=cl.inn c hc
   unfold inB at this;simp only[outB,Bool.or_eq_false_iff,decide_eq_false_iff_not];omega
  ·rw[g,(cl.full hW hU bx by').mpr fu]; rfl
theorem zkh(h:LawF k W U bs)(hW:0<W)(hU:0<U){c:Bool}(hc:c=true↔Clean W U bs/\Full W U bs):∀D,LkF ((W:Rat) / (k:Rat)) ((U:Rat) / (k:Rat)) (bs.map (gap4 k)) D->PyData.eqv D covD=c:=fun D l=>by
 have l':LkD (fK k (cbK k W U bs) W) (fK k (cbK k W U bs) U) (cbK k W U bs) (bs.map (mapB (fK k (cbK k W U bs)))) D:=by
  rw[<-zne]; exact l
 have i:=zrk h hW hU;rcases l'.eq with ⟨_,z,e⟩ | ⟨e,z⟩
 ·rw[e]; exact(hc.mpr (i.mp z)).symm
 ·rw[e];cases c with
  | false=>rfl
  | true=>exact absurd (i.mpr (hc.mp rfl)) z
end
abbrev tB(b:Box):Prop:=b.l<b.r/\b.d<b.u
section
variable {w h:Int} {A B bs:List Box} {b:Box}
theorem no_out(t:Tile w h (A++b :: B))(hb:tB b):¬(Clean w h (A++B)/\Full w h (A++B)):=fun z=>t.out hb.1 hb.2 z.2
theorem zok(hb:tB b)(m:b∈A++B):¬(Clean w h (A++b :: B)/\Full w h (A++b :: B)):=fun z=>by
 have n:=List.pairwise_append.mp z.1.nov;have o:ovB b b=true:=ov_iff.mpr ⟨hb.1,hb.1,hb.1,hb.1,hb.2,hb.2,hb.2,hb.2⟩;rcases List.mem_append.mp m with x | x
 ·have:=n.2.2 b x b (by simp); rw[o] at this; cases this
 ·have:=(List.pairwise_cons.mp n.2.1).1 b x; rw[o] at this; cases this
end
theorem zom{H H':Hp}{a:Addr}{bs:List Box}(s:Same H H')(h:LstR BoxR H a bs):LstR BoxR H' a bs:=zgn (R:=BoxR) (fun s h=>zce s h) s h
theorem zpp{c:TT}{t u rest:TS}{D:Ends}{σ:L2.St}{H:Hp}(C:L2.St->Hp->Prop)(hr:∀σ' H',C σ' H'->rest D σ' H')(hi:∀nx:L2.St->Hp->Prop,(∀σ' H',C σ' H'->nx σ' H')->tIfS c t u { D with nx:=nx } σ H):tSeq (tIfS c t u) rest D σ H:=hi (rest D) hr
theorem zqu(c:Int){n:Nat}(h:0<n):∃t:Nat,c % (n:Int)=(t:Int)/\t<n :=
 ⟨(c % (n:Int)).toNat,by have:=Int.emod_nonneg c (show(n:Int)≠0 by omega); omega,by have:=Int.emod_lt_of_pos c (show 0<(n:Int) by omega); omega⟩
theorem znf{α:Type}{bs:List α}{i:Nat}{b:α}(h:bs[i]?=some b):bs=bs.take i++b :: bs.drop (i+1):=by
 obtain⟨hi,rfl⟩:=List.getElem?_eq_some_iff.mp h;rw[<-List.drop_eq_getElem_cons hi,List.take_append_drop]
section
variable {K:PySem.W.Frag} {σ:L2.St} {H:Hp} {Q:VK} {v i j:Nat} {l:Addr} {bs:List Box} {ti tj tm:TE}
theorem zki (hv:σ[v]?=some (some (.ref l))) (hB:LstR BoxR H l bs) (hi:i<=bs.length) (ei:∀H' (R:VK),R (.int (i:Int)) H'->ti σ H' R)
  (q:∀p cs H',Same H H'->H' p=some (.lst (cs.map V.ref))->At BoxR H' cs (bs.take i)->Q (.ref p) H'):tSl (rSlL K) (tVar v) tNoPart (tPart ti) σ H Q:=by
 obtain⟨cs,hl,hC⟩:=hB;have lc:cs.length=bs.length:=hC.1;refine⟨_,hv,ei _ _ ⟨_,rfl,l,_,rfl,SqL.of hl,fun p hp=>?_⟩⟩;rw[zeg _ (show i<=(cs.map V.ref).length by rw[List.length_map]; omega),<-List.map_take];exact q p _ _ (za3 hp _) za1 ((hC.take i).keep zce (za3 hp _))
theorem zmm (hv:σ[v]?=some (some (.ref l))) (hB:LstR BoxR H l bs) (hi:i<=bs.length) (ei:∀H' (R:VK),R (.int (i:Int)) H'->ti σ H' R)
  (q:∀p cs H',Same H H'->H' p=some (.lst (cs.map V.ref))->At BoxR H' cs (bs.drop i)->Q (.ref p) H'):tSl (rSlL K) (tVar v) (tPart ti) tNoPart σ H Q:=by
 obtain⟨cs,hl,hC⟩:=hB;have lc:cs.length=bs.length:=hC.1;refine⟨_,hv,ei _ _ ⟨_,rfl,l,_,rfl,SqL.of hl,fun p hp=>?_⟩⟩;rw[zeh _ (show i<=(cs.map V.ref).length by rw[List.length_map]; omega),<-List.map_drop];exact q p _ _ (za3 hp _) za1 ((hC.drop i).keep zce (za3 hp _))
theorem zn2 {p1 p2:Addr} {c1 c2:List Addr} {b1 b2:List Box} (g1:H p1=some (.lst (c1.map V.ref))) (h1:At BoxR H c1 b1) (g2:H p2=some (.lst (c2.map V.ref))) (h2:At BoxR H c2 b2) (n:b1.length+b2.length<=1000)
  (q:∀p H',Same H H'->H' p=some (.lst ((c1++c2).map V.ref))->At BoxR H' (c1++c2) (b1++b2)->Q (.ref p) H'):rCat (.ref p1) (.ref p2) H Q:=by
 refine⟨p1,p2,_,_,rfl,rfl,g1,g2,by rw[List.length_map,List.length_map]; have:=h1.1; have:=h2.1; exact szle (by omega),fun p3 hp3=>?_⟩;rw[<-List.map_append];exact q p3 _ (za3 hp3 _) za1 ((h1.app h2).keep zce (za3 hp3 _))
end
theorem zr4{q:Int}(h:q=1\/q=2):(((1:Int):Rat) / (q:Rat)).num=1/\((((1:Int):Rat) / (q:Rat)).den:Int)=q:=by
 rcases h with rfl | rfl
 ·have e:=zdc 1 1 (by decide);rw[show frac 1 1=(1,1) by decide] at e;exact⟨(congrArg Prod.fst e).symm,(congrArg Prod.snd e).symm⟩
 ·have e:=zdc 1 2 (by decide);rw[show frac 1 2=(1,2) by decide] at e;exact⟨(congrArg Prod.fst e).symm,(congrArg Prod.snd e).symm⟩
theorem zlo(x q:Int):(x:Rat)*(((1:Int):Rat) / (q:Rat))=(x:Rat) / (q:Rat):=by
 rw[Rat.div_def,Rat.div_def,show((1:Int):Rat)=1 from rfl,Rat.one_mul]
theorem rows_q(q:Int)(bs:List Box):rowsOf (((1:Int):Rat) / (q:Rat)) bs=bs.map (gap4 q):=by
 refine List.map_congr_left fun b _=>?_
 show [(b.l:Rat)*_,(b.d:Rat)*_,(b.r:Rat)*_,(b.u:Rat)*_]=gap4 q b;rw[zlo,zlo,zlo,zlo];rfl
theorem BadAt.uniq{rows:List (List Rat)}{k k':Nat}(h:BadAt rows k)(g:BadAt rows k'):k=k':=by
 obtain⟨⟨r,e,z⟩,n⟩:=h;obtain⟨⟨r',e',z'⟩,n'⟩:=g;rcases Nat.lt_trichotomy k k' with w | w | w
 ·rw[n' k r w e] at z; cases z
 ·exact w
 ·rw[n k' r' w e'] at z'; cases z'
theorem BadAt.no{rows:List (List Rat)}{k:Nat}(h:BadAt rows k)(g:∀r∈rows,okRow r=true):False:=by
 obtain⟨⟨r,e,z⟩,_⟩:=h;rw[g r (List.mem_of_getElem? e)] at z; cases z
theorem zi5{a b q:Int}(hq:1<=q)(h:(a:Rat) / (q:Rat)=(b:Rat) / (q:Rat)):a=b:=by
 have hq':(q:Rat)≠0:=by exact_mod_cast (show q≠0 by omega)
 have:(a:Rat)=(b:Rat):=by
  have h1:(a:Rat) / (q:Rat)*(q:Rat)=(b:Rat) / (q:Rat)*(q:Rat):=by rw[h]
  rwa [Rat.div_mul_cancel hq',Rat.div_mul_cancel hq'] at h1
 exact_mod_cast this
theorem zjf{q:Int}(hq:1<=q){bs:List Box}(n:NoOv bs)(t:∀b∈bs,b.l<b.r/\b.d<b.u)(ok:∀r∈bs.map (gap4 q),okRow r=true):∃cs:List Box,bs.map (gap4 q)=cs.map bxR/\(cs.map keyB).Nodup:=by
 let g:Box->Box:=fun b=>(((b.l:Rat) / (q:Rat)).num,((b.d:Rat) / (q:Rat)).num,((b.r:Rat) / (q:Rat)).num,((b.u:Rat) / (q:Rat)).num)
 have wh:∀b∈bs,((b.l:Rat) / (q:Rat)).den=1/\((b.d:Rat) / (q:Rat)).den=1/\((b.r:Rat) / (q:Rat)).den=1/\((b.u:Rat) / (q:Rat)).den=1:=fun b hb=>by
  have:=ok _ (List.mem_map.mpr ⟨b,hb,rfl⟩)
  unfold okRow at this;rw[Bool.and_eq_true] at this;have h:=this.1;simp only[gap4,whR,List.all_cons,List.all_nil,Bool.and_true,Bool.and_eq_true,decide_eq_true_iff] at h;exact h
 refine⟨bs.map g,?_,?_⟩
 ·rw[List.map_map];refine List.map_congr_left fun b hb=>?_
  obtain⟨h1,h2,h3,h4⟩:=wh b hb;show [_,_,_,_]=[_,_,_,_];rw[<-zbb h1,<-zbb h2,<-zbb h3,<-zbb h4]
 ·have nd:=key_nd n t;unfold List.Nodup at nd ⊢;rw[List.pairwise_map] at nd ⊢;rw[List.pairwise_map];refine nd.imp_of_mem fun {a b} ha hb ne e=>ne ?_
  obtain⟨a1,_,_,a4⟩:=wh a ha;obtain⟨b1,_,_,b4⟩:=wh b hb;have e1:-((a.u:Rat) / (q:Rat)).num=-((b.u:Rat) / (q:Rat)).num:=(List.cons.inj e).1;have e2:((a.l:Rat) / (q:Rat)).num=((b.l:Rat) / (q:Rat)).num:=(List.cons.inj (List.cons.inj e).2).1;have u:a.u=b.u:=zi5 hq (by rw[zbb a4,zbb b4,show((a.u:Rat) / (q:Rat)).num=((b.u:Rat) / (q:Rat)).num by omega]);have l:a.l=b.l:=zi5 hq (by rw[zbb a1,zbb b1,e2]);show [-a.u,a.l]=[-b.u,b.l];rw[u,l]
theorem no_pt{q:Int}(hq:1<=q){b:Box}(h:b.l<b.r):ptR (gap4 q b)=false:=by
 show(decide ((b.l:Rat) / (q:Rat)=(b.r:Rat) / (q:Rat)) && _)=false;rw[decide_eq_false fun z=>by have:=zi5 hq z; omega];rfl
theorem Tile.full{w h:Int}{bs:List Box}(t:Tile w h bs):Full w h bs:=fun x y x0 x1 y0 y1=>by
 have:=t.one x y x0 x1 y0 y1
 obtain⟨b,hb,hh⟩:=List.countP_pos_iff.mp (show 0<bs.countP (hits x y) by omega);exact⟨b,hb,hh⟩
section
variable {H H':Hp} {T:Addr} {x:Array Value}
theorem zna{p:Addr}{q:Rat}(hT:H T=some (.tbl x))(b:ButT T H H')(h:FrR H p q):FrR H' p q:=b _ _ (fun z=>by
 have h':H p=some (.tup [.int q.num,.int q.den]):=h;rw[z,hT] at h'; cases h') h
theorem zn9{α:Type}{R:Hp->Addr->α->Prop}(hR:∀{p x},R H p x->R H' p x){p:Addr}{xs:List α}(hT:H T=some (.tbl x))(b:ButT T H H')(h:TupR R H p xs):TupR R H' p xs:=by
 obtain⟨cs,h1,h2⟩:=h;exact⟨cs,b _ _ (fun z=>by rw[z,hT] at h1; cases h1) h1,h2.1,fun i c y e1 e2=>hR (h2.2 i c y e1 e2)⟩
theorem znb{a:Addr}{W U:Rat}{rows:List (List Rat)}(hT:H T=some (.tbl x))(b:ButT T H H')(h:FloorR H a W U rows):FloorR H' a W U rows:=by
 obtain⟨p,q,r,h1,h2,h3,h4⟩:=h;exact⟨p,q,r,b _ _ (fun z=>by rw[z,hT] at h1; cases h1) h1,zna hT b h2,zna hT b h3,zn9 (fun h=>zn9 (fun h=>zna hT b h) hT b h) hT b h4⟩
end
theorem LkD.deep{m n B:Int}{bs:List Box}{D:PyData}(h:LkD m n B bs D):D.depth<=5:=by
 cases h with
 | cov=>simp[covD,PyData.depth,PyData.depthAll]
 | tell s is =>
  have:=zbq (n:=2) (ds:=.str s :: is.map PyData.int) fun d hd=>by
   rcases List.mem_cons.mp hd with rfl | hd
   ·simp[PyData.depth]
   ·obtain⟨q,_,rfl⟩:=List.mem_map.mp hd; simp[PyData.depth]
  simp only[tellD,PyData.depth]; omega
 | gap g =>
  have:=zbq (n:=2) (ds:=.str "gap" :: (gap4 B g).map fqD) fun d hd=>by
   rcases List.mem_cons.mp hd with rfl | hd
   ·simp[PyData.depth]
   ·obtain⟨q,_,rfl⟩:=List.mem_map.mp hd; exact zey q
  simp only[gapD,PyData.depth]; omega
theorem zla{s:Str}{D:PyData}(hs:PyData.canLay0 (.str s)=true)(hl:D.canLay0=true)(hd:D.depth<=5):(PyData.tuple [.str s,D]).canLay0=true/\(PyData.tuple [.str s,D]).depth<=64:=by
 constructor
 ·simp only[PyData.canLay0];refine zbz fun d hd=>?_
  simp only[List.mem_cons,List.not_mem_nil,or_false] at hd;rcases hd with rfl | rfl
  ·exact hs
  ·exact hl
 ·have:=zbq (n:=5) (ds:=[.str s,D]) fun d hd'=>by
   simp only[List.mem_cons,List.not_mem_nil,or_false] at hd';rcases hd' with rfl | rfl
   ·simp[PyData.depth]
   ·exact hd
  simp only[PyData.depth]; omega
section
variable {P:Program} {w:World} {K:PySem.W.Frag} {mg:Str->Option Value} {base:Heap} {f g h f1 f2 f3 f4 f5 f6 f7 T:Addr} {fd gd hd d1 d2 d3 d4 d5 d6 d7:FuncData}
def spLaw(T:Addr)(K:PySem.W.Frag):Sp:=fun vs H Q _=>∃(a:Addr) (ns:List Int),vs=[.ref a]/\SqL K H a (ns.map V.int)/\ns.length<=63/\H T=some (.tbl #[])/\∀H',Q (.bl true) H'
theorem scLw:FnScope ["_law_script","_law_wide","_law_high","_law_boxes","_law_at","_law_spoilt_here","_law_floor","_law_found"] ["_law_script"] (defScope sLaw):=⟨rfl,rfl,rfl,by decide +kernel,rfl,by decide +kernel,by decide +kernel⟩
seal L2.PSs L2.PS L2.PE L2.PA in
set_option maxHeartbeats 8000000 in
theorem ok_law (F:Fun K "law" "law" sLaw f fd) (G1:FnOk P w K mg base CX0 1 f1 d1 ["_law_script","_law_k"] (spCell K)) (b1:Binds K d1 ["_law_script","_law_k"] []) (k1:PySem.W.keepIn K (.ref f1)=true) (m1:mg "_law_cell_at" = some (.ref f1))
  (G2:FnOk P w K mg base CX0 5 f2 d2 ["_law_script"] (spLr K)) (b2:Binds K d2 ["_law_script"] []) (k2:PySem.W.keepIn K (.ref f2)=true) (m2:mg "_law_laid_right" = some (.ref f2))
  (G3:FnOk P w K mg base CX0 3 f3 d3 ["_law_script","_law_first","_law_last","_law_wide","_law_high","_law_most"] (spBuilt K)) (b3:Binds K d3 ["_law_script","_law_first","_law_last","_law_wide","_law_high","_law_most"] []) (k3:PySem.W.keepIn K (.ref f3)=true) (m3:mg "_law_built" = some (.ref f3))
  (G4:FnOk P w K mg base CX0 4 f4 d4 ["_law_boxes","_law_wide","_law_high","_law_scale"] spFlo) (b4:Binds K d4 ["_law_boxes","_law_wide","_law_high","_law_scale"] []) (k4:PySem.W.keepIn K (.ref f4)=true) (m4:mg "_law_floor_of" = some (.ref f4))
  (G5:FnOk P w K mg base CX0 7 f5 d5 ["_law_floor"] (spRe T)) (b5:Binds K d5 ["_law_floor"] []) (k5:PySem.W.keepIn K (.ref f5)=true) (m5:mg "_law_refusal" = some (.ref f5))
  (G6:FnOk P w K mg base CX0 4 f6 d6 ["floor"] spLk) (b6:Binds K d6 ["floor"] []) (k6:PySem.W.keepIn K (.ref f6)=true) (m6:mg "looked" = some (.ref f6))
  (G7:FnOk P w K mg base CX0 1 f7 d7 ["_law_floor"] spNs) (b7:Binds K d7 ["_law_floor"] []) (k7:PySem.W.keepIn K (.ref f7)=true) (m7:mg "_law_no_square" = some (.ref f7)) (ml:mg "len" = none) :
  FnOk P w K mg base CX0 8 f fd ["_law_script"] (spLaw T K):=by
 refine F.ok scLw (fun vs H Q E h=>?_) (fun cdv A outer s H vs Q E hr h=>?_)
 ·obtain⟨a,ns,rfl,_⟩:=h;rfl
 obtain⟨a,ns,rfl,hS,hn,hT,q⟩:=h;have r1:=hr.mono (show 1<=7 by decide);have r3:=hr.mono (show 3<=7 by decide);have r4:=hr.mono (show 4<=7 by decide);have r5:=hr.mono (show 5<=7 by decide);refine⟨_,za5 (zaw (zik (ze4 (za7 G2 r5 (by rfl) m2 k2 b2 .nil pass0 (za0 (pv 0) za2)))) (za6 (zad zl5)) zaj)
  (za5 (za9 (i:=1) scLw.nd rfl (Or.inl rfl) (zaa zal za4 (zaa zb4 (za7 G1 r1 (by rfl) m1 k1 b1 .nil pass0 (za0 (pv 0) (za0 za4 za2))) za4)))
  (za5 (za9 (i:=2) scLw.nd rfl (Or.inl rfl) (pv 1))
  (za5 (za9 (i:=3) scLw.nd rfl (Or.inl rfl) (za7 G3 r3 (by rfl) m3 k3 b3 .nil pass0 (za0 (pv 0) (za0 za4 (za0 za4 (za0 (pv 1) (za0 (pv 2) (za0 za4 za2))))))))
  (za5 (za9 (i:=4) scLw.nd rfl (Or.inl rfl) (zaa zb4 (za7 G1 r1 (by rfl) m1 k1 b1 .nil pass0 (za0 (pv 0) (za0 za4 za2))) (zag (callLen (K:=K)) (by rfl) ml zc4 (za0 (pv 3) za2))))
  (za5 (za9 (i:=5) scLw.nd rfl (Or.inl rfl) (zaa zb4 (za7 G1 r1 (by rfl) m1 k1 b1 .nil pass0 (za0 (pv 0) (za0 za4 za2))) za4))
  (za5 (zaw (zaf zcj (pv 5) za4 (nomark _)) (za6 (za9 (i:=3) scLw.nd rfl (Or.inl rfl) (zaa zc2 (zaq (slL (K:=K)) (pv 3) zb8 (zb7 (pv 4))) (zaq (slL (K:=K)) (pv 3) (zb7 (zaa zal (pv 4) za4)) zb8)))) zaj)
  (za5 (zaw (zaf zcj (pv 5) za4 (nomark _)) (za6 (za9 (i:=3) scLw.nd rfl (Or.inl rfl) (zaa zc2 (zaa zc2 (zaq (slL (K:=K)) (pv 3) zb8 (zb7 (pv 4))) (zbl (za0 (za8 (ixL (K:=K)) (pv 3) (pv 4) (fun _ _=>rfl)) za2))) (zaq (slL (K:=K)) (pv 3) (zb7 (pv 4)) zb8)))) zaj)
  (za5 (za9 (i:=6) scLw.nd rfl (Or.inl rfl) (za7 G4 r4 (by rfl) m4 k4 b4 .nil pass0 (za0 (pv 3) (za0 (pv 1) (za0 (pv 2) (za0 (zac (za0 za4 (za0 (zaa zal za4 (zaa zb4 (za7 G1 r1 (by rfl) m1 k1 b1 .nil pass0 (za0 (pv 0) (za0 za4 za2))) za4)) za2))) za2))))))
  (za5 (za9 (i:=7) scLw.nd rfl (Or.inl rfl) (za7 G5 hr (by rfl) m5 k5 b5 .nil pass0 (za0 (pv 6) za2)))
  (za5 (zaw (PW.pt (zhk (zaf zcj (pv 5) za4 (nomark _)) (zgf (zaf zcj (pv 5) za4 (nomark _))))) (za6 (zad (zeq (zan (zpl hr.units) (za7 G6 r4 (by rfl) m6 k6 b6 .nil pass0 (za0 (pv 6) za2)) (zac (za0 zc1 za2)) (nomark _)) (zep (zan (zil hr.units) (pv 7) (zac (za0 zc1 (za0 (za7 G6 r4 (by rfl) m6 k6 b6 .nil pass0 (za0 (pv 6) za2)) za2))) (nomark _)))))) zaj)
  (za5 (zaw (zaf zqd (za7 G7 r1 (by rfl) m7 k7 b7 .nil pass0 (za0 (pv 6) za2)) zby (nomark _)) (za6 (zad (zan (zil hr.units) (pv 7) (zac (za0 zc1 (za0 (za7 G7 r1 (by rfl) m7 k7 b7 .nil pass0 (za0 (pv 6) za2)) za2))) (nomark _)))) zaj)
  (za6 (zad (zeq (zan zcj (za8 (ixT (K:=K)) (pv 7) za4 (fun _ _=>rfl)) zc1 (nomark _)) (zep (zan zcj (zag (callLen (K:=K)) (by rfl) ml zc4 (za0 (za8 (ixT (K:=K)) (pv 7) za4 (fun _ _=>rfl)) za2)) (zag (callLen (K:=K)) (by rfl) ml zc4 (za0 (pv 3) za2)) (nomark _))))))))))))))))),?_⟩
 refine⟨_,rfl,a,ns,rfl,⟨hS,hn⟩,fun H1 s1=>⟨_,rfl,iteF ?_⟩⟩;refine⟨_,rfl,a,ns,0,rfl,⟨s1.seq hS,hn⟩,by decide,fun c0 _=>⟨_,_,rfl,rfl,(show(0:Int)<9 by decide),_,_,rfl,rfl,?_⟩⟩;obtain⟨W,eW,W4,W12⟩:∃W:Int,4+c0 % 9=W/\4<=W/\W<=12:=⟨_,rfl,by omega,by omega⟩
 (try dsimp only)
 rw[eW];refine⟨_,rfl,?_⟩;refine⟨_,rfl,_,rfl,_,rfl,a,ns,W,W,rfl,⟨s1.seq hS,hn⟩,by omega,by omega,fun l H2 bs s2 hL n1 n10 fT'=>?_⟩;obtain⟨tl,tr⟩:=fT';have s02:=s1.trans s2;refine⟨_,rfl,a,ns,2,rfl,⟨s02.seq hS,hn⟩,by decide,fun c2 _=>?_⟩;obtain⟨cs,hl,hC⟩:=id hL;have lc:cs.length=bs.length:=hC.1;refine⟨_,rfl,l,_,rfl,.inl (SqL.of hl),_,_,rfl,rfl,by rw[List.length_map,lc]; omega,?_⟩;rw[List.length_map,lc]
 (try dsimp only)
 obtain⟨t,et,tl'⟩:=zqu c2 (show 0<bs.length by omega);rw[et];have hy:bs[t]?=some bs[t]:=List.getElem?_eq_getElem tl';obtain⟨cb,hcb,fb⟩:=hC.get hy;generalize bs[t]=b at hy fb;have tb:tB b:=tr b (List.mem_of_getElem? hy);have esp:=znf hy;refine⟨_,rfl,a,ns,3,rfl,⟨s02.seq hS,hn⟩,by decide,fun c3 _=>⟨_,_,rfl,rfl,(show(0:Int)<6 by decide),?_⟩⟩
 (try dsimp only)
 generalize c3 % 6=wy;unfold gName
 (try dsimp only)
 refine zpp (fun σ H3=>∃(l3:Addr) (bs3:List Box),σ=[some (.ref a),some (.int W),some (.int W),some (.ref l3),some (.int (t:Int)),some (.int wy),none,none]/\Same H H3/\LstR BoxR H3 l3 bs3/\((wy=1/\bs3=bs.take t++bs.drop (t+1))\/(wy≠1/\bs3=bs))) ?_ fun nx hx=>?_
 rotate_left
 ·refine⟨_,rfl,rfl,_,rfl,?_⟩;by_cases w1:wy=1;rotate_left
  ·exact iteDF (ivn w1) (hx _ _ ⟨l,bs,rfl,s02,hL,.inr ⟨w1,rfl⟩⟩)
  refine iteDT (iv w1) ?_;refine zki (v:=3) (i:=t) rfl hL (by omega) (fun H' R z=>⟨_,rfl,z⟩) fun p1 c1 H3 s3 g3 h3=>?_
  refine zmm (v:=3) (i:=t+1) rfl (zom s3 hL) (by omega) (fun H' R z=>⟨_,rfl,_,_,rfl,rfl,z⟩) fun p2 c2 H4 s4 g4 h4=>?_
  refine zn2 (s4 _ _ g3) (h3.keep zce s4) g4 h4 (by rw[List.length_take,List.length_drop]; omega) fun p3 H5 s5 g5 h5=>?_
  exact hx _ _ ⟨p3,_,rfl,s02.trans (s3.trans (s4.trans s5)),⟨_,g5,h5⟩,.inl ⟨w1,rfl⟩⟩
 rintro σ H3 ⟨l3,bs3,rfl,s3,hL3,or1⟩;refine zpp (fun σ H4=>∃(l4:Addr) (bs4:List Box),σ=[some (.ref a),some (.int W),some (.int W),some (.ref l4),some (.int (t:Int)),some (.int wy),none,none]/\Same H H4/\LstR BoxR H4 l4 bs4/\bs4.length<=20/\(∀b∈bs4,b∈bs)/\(((wy=1\/wy=2)/\¬(Clean W W bs4/\Full W W bs4))\/(wy≠1/\wy≠2/\bs4=bs))) ?_ fun nx hx=>?_
 rotate_left
 ·refine⟨_,rfl,rfl,_,rfl,?_⟩;by_cases w2:wy=2;rotate_left
  ·refine iteDF (ivn w2) (hx _ _ ⟨l3,bs3,rfl,s3,hL3,?_⟩);rcases or1 with ⟨w1,rfl⟩ | ⟨w1,rfl⟩
   ·refine⟨by rw[List.length_append,List.length_take,List.length_drop]; omega,fun y hy=>?_,.inl ⟨.inl w1,no_out (by rw[<-esp]; exact tl) tb⟩⟩;rcases List.mem_append.mp hy with z | z
    ·exact List.mem_of_mem_take z
    ·exact List.mem_of_mem_drop z
   ·exact⟨by omega,fun y hy=>hy,.inr ⟨w1,w2,rfl⟩⟩
  have e3:bs3=bs:=by
   rcases or1 with ⟨w1,_⟩ | ⟨_,z⟩
   ·omega
   ·exact z
  subst e3;refine iteDT (iv w2) ?_;obtain⟨cs3,hl3,hC3⟩:=id hL3;obtain⟨cb3,hcb3,fb3⟩:=hC3.get hy;refine zki (v:=3) (i:=t) rfl hL3 (by omega) (fun H' R z=>⟨_,rfl,z⟩) fun p1 c1 H4 s4 g4 h4=>?_
  refine⟨_,rfl,_,rfl,l3,_,_,_,rfl,rfl,SqL.of (s4 _ _ hl3),zak (zks hcb3),by show 1<=sizeLine; decide,fun p2 hp2=>?_⟩;have s5:=za3 hp2 (.lst [.ref cb3]);have g5:(upd H4 p2 (.lst [.ref cb3])) p2=some (.lst ([cb3].map V.ref)):=za1;generalize upd H4 p2 (.lst [.ref cb3])=H5 at s5 g5;have s35:=s4.trans s5;refine zn2 (s5 _ _ g4) (h4.keep zce s5) g5 (At.nil.snoc (R:=BoxR) (b:=cb3) (x:=b) (zce s35 fb3)) (by rw[List.length_take]; show _+1<=_; omega) fun p3 H6 s6 g6 h6=>?_
  refine zmm (v:=3) (i:=t) rfl (zom (s35.trans s6) hL3) (by omega) (fun H' R z=>⟨_,rfl,z⟩) fun p4 c4 H7 s7 g7 h7=>?_
  refine zn2 (s7 _ _ g6) (h6.keep zce s7) g7 h7 (by rw[List.length_append,List.length_take,List.length_drop]; show _+1+_<=_; omega) fun p5 H8 s8 g8 h8=>?_
  have e8:bs3.take t++([]++[b])++bs3.drop t=bs3.take t++b :: bs3.drop t:=by rw[List.append_assoc]; rfl
  refine hx _ _ ⟨p5,_,rfl,s3.trans (s35.trans (s6.trans (s7.trans s8))),⟨_,g8,h8⟩,?_⟩;rw[e8];refine⟨by rw[List.length_append,List.length_cons,List.length_take,List.length_drop]; omega,fun y hy'=>?_,.inl ⟨.inr w2,zok tb (by rw[List.take_append_drop]; exact List.mem_of_getElem? hy)⟩⟩;rcases List.mem_append.mp hy' with z | z
  ·exact List.mem_of_mem_take z
  ·rcases List.mem_cons.mp z with rfl | z
   ·exact List.mem_of_getElem? hy
   ·exact List.mem_of_mem_drop z
 rintro σ H4 ⟨l4,bs4,rfl,s4,hL4,n20,sub,or2⟩;refine⟨_,rfl,_,rfl,_,rfl,_,rfl,a,ns,4,rfl,⟨s4.seq hS,hn⟩,by decide,fun c4 _=>?_⟩;refine⟨_,_,rfl,rfl,(show(0:Int)<2 by decide),_,_,rfl,rfl,by show 2<=sizeLine; decide,fun p5 hp5=>?_⟩;obtain⟨qq,eq,hq⟩:∃qq:Int,1+c4 % 2=qq/\(qq=1\/qq=2):=⟨_,rfl,by omega⟩
 (try dsimp only)
 rw[eq];have q1:1<=qq:=by omega
 have s5:=za3 hp5 (.tup [.int 1,.int qq]);obtain⟨hn1,hn2⟩:=zr4 hq;have f5':FrR (upd H4 p5 (.tup [.int 1,.int qq])) p5 (((1:Int):Rat) / (qq:Rat)):=by
  show(upd H4 p5 (.tup [.int 1,.int qq])) p5=some (.tup [.int _,.int _]);rw[za1,hn1,hn2]
 generalize upd H4 p5 (.tup [.int 1,.int qq])=H5 at s5 f5';have bd:∀b∈bs4,(0<=b.l/\b.l<=12)/\(0<=b.d/\b.d<=12)/\(0<=b.r/\b.r<=12)/\(0<=b.u/\b.u<=12):=fun b hb=>by
  have i:=tl.inn b (sub b hb);have t:=tr b (sub b hb);unfold inB at i;omega
 have p20:(12:Nat)<=2 ^ 20:=by decide
 have p64:(12:Nat)<=2 ^ 64:=by decide
 have Fw:LawF qq W W bs4:=⟨q1,by omega,by omega,by omega,by omega,fun b hb=>by
  obtain⟨a1,a2,a3,a4⟩:=bd b hb;exact⟨by omega,by omega,by omega,by omega⟩⟩
 have lk:=Fw.lk;have sbq:Sb 7 13 (((1:Int):Rat) / (qq:Rat)):=by
  have d2:(((1:Int):Rat) / (qq:Rat)).den<=2:=by omega
  exact⟨by rw[hn1]; decide,Nat.le_trans d2 (by decide)⟩
 refine⟨l4,p5,bs4,W,W,_,rfl,zom s5 hL4,by omega,f5',sbq,by omega,by omega,fun b hb x hx=>?_,fun tf H6 s6 hF=>?_⟩
 ·obtain⟨a1,a2,a3,a4⟩:=bd b hb;simp only[bxL,List.mem_cons,List.not_mem_nil,or_false] at hx;rcases hx with rfl | rfl | rfl | rfl
  ·have:b.l.natAbs<=2 ^ 20:=by omega
   exact this
  ·have:b.d.natAbs<=2 ^ 20:=by omega
   exact this
  ·have:b.r.natAbs<=2 ^ 20:=by omega
   exact this
  ·have:b.u.natAbs<=2 ^ 20:=by omega
   exact this
 rw[zlo,rows_q] at hF;have s06:=s4.trans (s5.trans s6);have hT6:=s06 _ _ hT;have W0:0<W:=by omega
 rcases or2 with ⟨w12,bad⟩ | ⟨nw1,nw2,rfl⟩
 ·
  have told:=zkh Fw W0 W0 (c:=false) ⟨fun z=>(by cases z),fun z=>absurd z bad⟩;have nc:∀{A:Prop},LkF ((W:Rat) / (qq:Rat)) ((W:Rat) / (qq:Rat)) (bs4.map (gap4 qq)) covD->A:=fun lk=>by
   have:=told covD lk
   rw[zps] at this;cases this
  refine⟨_,rfl,tf,_,_,_,rfl,hF,lk,.inl hT6,fun D p o H7 lkD z s7 hp rd=>?_,fun lk=>nc lk,fun lk=>nc lk⟩;have fin:tRet (tAndV (tOp rNeG (tCall spLk [] E0 (tCons (tVar 6) tNil)) (tTup (tCons (tC (.str "covers")) tNil))) (tOp rEqG (tVar 7) (tTup (tCons (tC (.str "floor")) (tCons (tCall spLk [] E0 (tCons (tVar 6) tNil)) tNil))))) { nx:=fun _ H'=>Q .non H',rt:=Q } [some (.ref a),some (.int W),some (.int W),some (.ref l4),some (.int (t:Int)),some (.int wy),some (.ref tf),some (.ref p)] H7:=by
   refine⟨_,rfl,zqw (E:=E0) (zc5 s7 hF) lk fun o2 D2 H8 s8 lk2 rd2=>?_⟩;obtain rfl:=lkD.uniq lk2;refine⟨by show 1<=sizeLine; decide,fun c hc=>?_⟩;have s9:=za3 hc (.tup [.str "covers"]);refine⟨D,covD,rd2.keep s9,zku za1,lkD.lay,⟨zee,zez⟩,_,rfl,?_⟩;rw[z];refine iteT ?_;generalize upd H8 c (.tup [.str "covers"])=H9 at s9;have s79:=s8.trans s9;refine⟨_,rfl,_,rfl,zqw (E:=E0) (zc5 (s7.trans s79) hF) lk fun o3 D3 H10 s10 lk3 rd3=>?_⟩;obtain rfl:=lkD.uniq lk3;refine⟨by show 2<=sizeLine; decide,fun c2 hc2=>?_⟩;have s11:=za3 hc2 (.tup [.str "floor",.ref o3]);have s711:=s79.trans (s10.trans s11);have pk:=zla (s:="floor") (D:=D) (by first | rfl | decide +kernel | (simp only[PyData.canLay0]; decide)) lkD.lay.1 (LkD.deep lkD);refine⟨_,_,zd0 (s711 _ _ hp) (.str "floor") (rd.keep s711),zd0 za1 (.str "floor") (rd3.keep s11),pk,pk,?_⟩;rw[SeqAt.eqv_refl _ pk.1];exact q _
  refine⟨_,rfl,rfl,_,rfl,?_⟩;by_cases w1:wy=1
  ·exact iteDT (iv w1) (iteT fin)
  ·refine iteDF (ivn w1) ⟨_,rfl,rfl,_,rfl,iteDT (iv (by omega)) fin⟩
 ·
  have told:=zkh Fw W0 W0 (c:=true) ⟨fun _=>⟨tl.clean,Tile.full tl⟩,fun _=>rfl⟩;have four:∀r∈bs4.map (gap4 qq),r.length=4:=lk.four;have npt:∀r∈bs4.map (gap4 qq),ptR r=false:=fun r hr=>by
   obtain⟨b,hb,rfl⟩:=List.mem_map.mp hr;exact no_pt q1 (tr b hb).1
  have n30:(bs4.map (gap4 qq)).length<=30:=by rw[List.length_map]; omega
  refine⟨_,rfl,tf,_,_,_,rfl,hF,lk,.inl hT6,fun D p o H7 lkD z s7 hp rd=>?_,fun lkC k bad p H7 s7 hp=>?_,fun lkC ok=>⟨zjf q1 tl.noOv tr ok,fun p tt zs H7 bt ln hp hz=>?_⟩⟩
  ·have:=told D lkD
   rw[z] at this;cases this
  ·refine⟨_,rfl,rfl,_,rfl,iteDF (ivn nw1) ⟨_,rfl,rfl,_,rfl,iteDF (ivn nw2) ?_⟩⟩;refine⟨_,rfl,tf,_,_,_,rfl,zc5 s7 hF,n30,four,npt,fun k2 bad2 H8 s8=>?_,fun ok=>(bad.no ok).elim⟩;obtain rfl:=bad.uniq bad2;refine⟨rfl,_,rfl,iteNN (fun z=>by cases z) ?_⟩;refine⟨_,rfl,_,rfl,tf,_,_,_,rfl,zc5 (s7.trans s8) hF,n30,four,npt,fun k3 bad3 H9 s9=>?_,fun ok=>(bad.no ok).elim⟩;obtain rfl:=bad.uniq bad3;refine⟨by show 2<=sizeLine; decide,fun c2 hc2=>?_⟩;have s11:=za3 hc2 (.tup [.str "code",.int (k:Int)]);have s711:=s8.trans (s9.trans s11);have pk:=zla (s:="code") (D:=.int (k:Int)) (by first | rfl | decide +kernel | (simp only[PyData.canLay0]; decide)) rfl (by simp[PyData.depth]);refine⟨_,_,zd0 (s711 _ _ hp) (.str "code") (.int _),zd0 za1 (.str "code") (.int _),pk,pk,?_⟩;rw[SeqAt.eqv_refl _ pk.1];exact q _
  ·refine⟨_,rfl,rfl,_,rfl,iteDF (ivn nw1) ⟨_,rfl,rfl,_,rfl,iteDF (ivn nw2) ?_⟩⟩;refine⟨_,rfl,tf,_,_,_,rfl,znb hT6 bt hF,n30,four,npt,fun k2 bad2=>(bad2.no ok).elim,fun _ H8 s8=>?_⟩;refine⟨rfl,_,rfl,iteNS rfl ?_⟩;have hp8:=s8 _ _ hp;have z0:atI [V.str "told",.ref tt] 0=some (.str "told"):=at0;have z1:atI [V.str "told",.ref tt] 1=some (.ref tt):=at1;obtain⟨cs4,hl4,hC4⟩:=zom (s5.trans s6) hL4;have hl7:H7 l4=some (.lst (cs4.map V.ref)):=bt _ _ (fun e=>by rw[e,hT6] at hl4; cases hl4) hl4;refine⟨_,rfl,p,_,_,_,rfl,rfl,SqT.of hp8,z0,rfl,_,rfl,iteDT rfl ?_⟩;have hz8:H8 tt=some (.tup (zs.map V.int)):=s8 _ _ hz;refine⟨_,rfl,p,_,_,_,rfl,rfl,SqT.of hp8,z1,tt,_,rfl,.inr (SqT.of hz8),_,rfl,l4,_,rfl,.inl (SqL.of (s8 _ _ hl7)),rfl,?_⟩;rw[show decide (V.int (((zs.map V.int).length:Nat):Int)=V.int (((cs4.map V.ref).length:Nat):Int))=true from decide_eq_true (by rw[List.length_map,List.length_map,ln,List.length_map,hC4.1])];exact q _
end
end My
namespace My
open PySem L2 Mth
theorem zcx{α:Type}{us:List α}(h:us.length=1):∃a0,us=[a0]:=by
 match us,h with
 | [a0],_=>exact⟨a0,rfl⟩
theorem zcw{α:Type}{us:List α}(h:us.length=2):∃a0 a1,us=[a0,a1]:=by
 match us,h with
 | [a0,a1],_=>exact⟨a0,a1,rfl⟩
theorem zf7{α:Type}{us:List α}(h:us.length=3):∃a0 a1 a2,us=[a0,a1,a2]:=by
 match us,h with
 | [a0,a1,a2],_=>exact⟨a0,a1,a2,rfl⟩
theorem len_4{α:Type}{us:List α}(h:us.length=4):∃a0 a1 a2 a3,us=[a0,a1,a2,a3]:=by
 match us,h with
 | [a0,a1,a2,a3],_=>exact⟨a0,a1,a2,a3,rfl⟩
theorem len_6{α:Type}{us:List α}(h:us.length=6):∃a0 a1 a2 a3 a4 a5,us=[a0,a1,a2,a3,a4,a5]:=by
 match us,h with
 | [a0,a1,a2,a3,a4,a5],_=>exact⟨a0,a1,a2,a3,a4,a5,rfl⟩
set_option maxHeartbeats 4000000 in
theorem all_mk {l:PySem.W.OpenLaw} {w:World} {K:PySem.W.Frag} {h:Heap} {mg:Str->Option Value} {fa c53 T53 CF CN CC CS f1 f2 f3 f4 f5 f6 f7 f8 f9 f10 f11 f12 f13 f14 f15 f16 f17 f18 f19 f20 f21 f22 f23 f24 f25 f26 f27 f28 f29 f30 f31 f32 f33 f34 f35 f36 f37 f38 f39 f40 f41 f42 f43 f44 f45 f46 f47 f48 f49 f50:Addr} (X:K.In h) (G:h.Ns mainGlobals mg) (hfa:mg "law" = some (.ref fa))
  {od1 an1 od2 an2 od3 an3 od4 an4 od5 an5 od6 an6 od7 an7 od8 an8 od9 an9 od10 an10 od11 an11 od12 an12 od13 an13 od14 an14 od15 an15 od16 an16 od17 an17 od18 an18 od19 an19 od20 an20 od21 an21 od22 an22 od23 an23 od24 an24 od25 an25 od26 an26 od27 an27 od28 an28 od29 an29 od30 an30 od31 an31 od32 an32 od33 an33 od34 an34 od35 an35 od36 an36 od37 an37 od38 an38 od39 an39 od40 an40 od41 an41 od42 an42 od43 an43 od44 an44 od45 an45 od46 an46 od47 an47 od48 an48 od49 an49 od50 an50:Option Addr}
  {sl1 sl2 sl3 sl4 sl5 sl6 sl7 sl8 sl9 sl10 sl11 sl12 sl13 sl14 sl15 sl16 sl17 sl18 sl19 sl20 sl21 sl22 sl23 sl24 sl25 sl26 sl27 sl28 sl29 sl30 sl31 sl32 sl33 sl34 sl35 sl36 sl37 sl38 sl39 sl40 sl41 sl42 sl43 sl44 sl45 sl46 sl47 sl48 sl49 sl50:Array (Option Value)}
  {oc1 kV1 dc1 pm1 cd1 ct1 oc2 kV2 dc2 pm2 cd2 ct2 oc3 kV3 dc3 pm3 cd3 ct3 oc4 kV4 dc4 pm4 cd4 ct4 oc5 kV5 dc5 pm5 cd5 ct5 oc6 kV6 dc6 pm6 cd6 ct6 oc7 kV7 dc7 pm7 cd7 ct7 oc8 kV8 dc8 pm8 cd8 ct8 oc9 kV9 dc9 pm9 cd9 ct9 oc10 kV10 dc10 pm10 cd10 ct10 oc11 kV11 dc11 pm11 cd11 ct11 oc12 kV12 dc12 pm12 cd12 ct12 oc13 kV13 dc13 pm13 cd13 ct13 oc14 kV14 dc14 pm14 cd14 ct14 oc15 kV15 dc15 pm15 cd15 ct15 oc16 kV16 dc16 pm16 cd16 ct16 oc17 kV17 dc17 pm17 cd17 ct17 oc18 kV18 dc18 pm18 cd18 ct18 oc19 kV19 dc19 pm19 cd19 ct19 oc20 kV20 dc20 pm20 cd20 ct20 oc21 kV21 dc21 pm21 cd21 ct21 oc22 kV22 dc22 pm22 cd22 ct22 oc23 kV23 dc23 pm23 cd23 ct23 oc24 kV24 dc24 pm24 cd24 ct24 oc25 kV25 dc25 pm25 cd25 ct25 oc26 kV26 dc26 pm26 cd26 ct26 oc27 kV27 dc27 pm27 cd27 ct27 oc28 kV28 dc28 pm28 cd28 ct28 oc29 kV29 dc29 pm29 cd29 ct29 oc30 kV30 dc30 pm30 cd30 ct30 oc31 kV31 dc31 pm31 cd31 ct31 oc32 kV32 dc32 pm32 cd32 ct32 oc33 kV33 dc33 pm33 cd33 ct33 oc34 kV34 dc34 pm34 cd34 ct34 oc35 kV35 dc35 pm35 cd35 ct35 oc36 kV36 dc36 pm36 cd36 ct36 oc37 kV37 dc37 pm37 cd37 ct37 oc38 kV38 dc38 pm38 cd38 ct38 oc39 kV39 dc39 pm39 cd39 ct39 oc40 kV40 dc40 pm40 cd40 ct40 oc41 kV41 dc41 pm41 cd41 ct41 oc42 kV42 dc42 pm42 cd42 ct42 oc43 kV43 dc43 pm43 cd43 ct43 oc44 kV44 dc44 pm44 cd44 ct44 oc45 kV45 dc45 pm45 cd45 ct45 oc46 kV46 dc46 pm46 cd46 ct46 oc47 kV47 dc47 pm47 cd47 ct47 oc48 kV48 dc48 pm48 cd48 ct48 oc49 kV49 dc49 pm49 cd49 ct49 oc50 kV50 dc50 pm50 cd50 ct50:Value}
  (a1:PySem.W.nsIn K mainGlobals "common_part" = some (some (.ref f1))) (l1:K.lookup f1=some ⟨oc1,od1,.func (PySem.W.fnOf "common_part" "common_part" (defArgs sCommon) (defBody sCommon) (defScope sCommon) .none kV1 dc1 pm1 an1 cd1 ct1),sl1⟩) (c1:PySem.W.codeIn K cd1 "common_part" = true) (k1:PySem.W.keepIn K (.ref f1)=true)
  (a2:PySem.W.nsIn K mainGlobals "fraction" = some (some (.ref f2))) (l2:K.lookup f2=some ⟨oc2,od2,.func (PySem.W.fnOf "fraction" "fraction" (defArgs sFraction) (defBody sFraction) (defScope sFraction) .none kV2 dc2 pm2 an2 cd2 ct2),sl2⟩) (c2:PySem.W.codeIn K cd2 "fraction" = true) (k2:PySem.W.keepIn K (.ref f2)=true)
  (a3:PySem.W.nsIn K mainGlobals "minus" = some (some (.ref f3))) (l3:K.lookup f3=some ⟨oc3,od3,.func (PySem.W.fnOf "minus" "minus" (defArgs sMinus) (defBody sMinus) (defScope sMinus) .none kV3 dc3 pm3 an3 cd3 ct3),sl3⟩) (c3:PySem.W.codeIn K cd3 "minus" = true) (k3:PySem.W.keepIn K (.ref f3)=true)
  (a4:PySem.W.nsIn K mainGlobals "common_bottom" = some (some (.ref f4))) (l4:K.lookup f4=some ⟨oc4,od4,.func (PySem.W.fnOf "common_bottom" "common_bottom" (defArgs sCBot) (defBody sCBot) (defScope sCBot) .none kV4 dc4 pm4 an4 cd4 ct4),sl4⟩) (c4:PySem.W.codeIn K cd4 "common_bottom" = true) (k4:PySem.W.keepIn K (.ref f4)=true)
  (a5:PySem.W.nsIn K mainGlobals "wholes" = some (some (.ref f5))) (l5:K.lookup f5=some ⟨oc5,od5,.func (PySem.W.fnOf "wholes" "wholes" (defArgs sWholes) (defBody sWholes) (defScope sWholes) .none kV5 dc5 pm5 an5 cd5 ct5),sl5⟩) (c5:PySem.W.codeIn K cd5 "wholes" = true) (k5:PySem.W.keepIn K (.ref f5)=true)
  (a6:PySem.W.nsIn K mainGlobals "is_point" = some (some (.ref f6))) (l6:K.lookup f6=some ⟨oc6,od6,.func (PySem.W.fnOf "is_point" "is_point" (defArgs zca) (defBody zca) (defScope zca) .none kV6 dc6 pm6 an6 cd6 ct6),sl6⟩) (c6:PySem.W.codeIn K cd6 "is_point" = true) (k6:PySem.W.keepIn K (.ref f6)=true)
  (a7:PySem.W.nsIn K mainGlobals "numbers_of" = some (some (.ref f7))) (l7:K.lookup f7=some ⟨oc7,od7,.func (PySem.W.fnOf "numbers_of" "numbers_of" (defArgs zbf) (defBody zbf) (defScope zbf) .none kV7 dc7 pm7 an7 cd7 ct7),sl7⟩) (c7:PySem.W.codeIn K cd7 "numbers_of" = true) (k7:PySem.W.keepIn K (.ref f7)=true)
  (a8:PySem.W.nsIn K mainGlobals "whole_floor" = some (some (.ref f8))) (l8:K.lookup f8=some ⟨oc8,od8,.func (PySem.W.fnOf "whole_floor" "whole_floor" (defArgs zb5) (defBody zb5) (defScope zb5) .none kV8 dc8 pm8 an8 cd8 ct8),sl8⟩) (c8:PySem.W.codeIn K cd8 "whole_floor" = true) (k8:PySem.W.keepIn K (.ref f8)=true)
  (a9:PySem.W.nsIn K mainGlobals "is_neither" = some (some (.ref f9))) (l9:K.lookup f9=some ⟨oc9,od9,.func (PySem.W.fnOf "is_neither" "is_neither" (defArgs zbk) (defBody zbk) (defScope zbk) .none kV9 dc9 pm9 an9 cd9 ct9),sl9⟩) (c9:PySem.W.codeIn K cd9 "is_neither" = true) (k9:PySem.W.keepIn K (.ref f9)=true)
  (a10:PySem.W.nsIn K mainGlobals "is_out" = some (some (.ref f10))) (l10:K.lookup f10=some ⟨oc10,od10,.func (PySem.W.fnOf "is_out" "is_out" (defArgs zd8) (defBody zd8) (defScope zd8) .none kV10 dc10 pm10 an10 cd10 ct10),sl10⟩) (c10:PySem.W.codeIn K cd10 "is_out" = true) (k10:PySem.W.keepIn K (.ref f10)=true)
  (a11:PySem.W.nsIn K mainGlobals "overlap" = some (some (.ref f11))) (l11:K.lookup f11=some ⟨oc11,od11,.func (PySem.W.fnOf "overlap" "overlap" (defArgs zck) (defBody zck) (defScope zck) .none kV11 dc11 pm11 an11 cd11 ct11),sl11⟩) (c11:PySem.W.codeIn K cd11 "overlap" = true) (k11:PySem.W.keepIn K (.ref f11)=true)
  (a12:PySem.W.nsIn K mainGlobals "first_overlap" = some (some (.ref f12))) (l12:K.lookup f12=some ⟨oc12,od12,.func (PySem.W.fnOf "first_overlap" "first_overlap" (defArgs zat) (defBody zat) (defScope zat) .none kV12 dc12 pm12 an12 cd12 ct12),sl12⟩) (c12:PySem.W.codeIn K cd12 "first_overlap" = true) (k12:PySem.W.keepIn K (.ref f12)=true)
  (a13:PySem.W.nsIn K mainGlobals "borders" = some (some (.ref f13))) (l13:K.lookup f13=some ⟨oc13,od13,.func (PySem.W.fnOf "borders" "borders" (defArgs zcp) (defBody zcp) (defScope zcp) .none kV13 dc13 pm13 an13 cd13 ct13),sl13⟩) (c13:PySem.W.codeIn K cd13 "borders" = true) (k13:PySem.W.keepIn K (.ref f13)=true)
  (a14:PySem.W.nsIn K mainGlobals "covered_cells" = some (some (.ref f14))) (l14:K.lookup f14=some ⟨oc14,od14,.func (PySem.W.fnOf "covered_cells" "covered_cells" (defArgs zau) (defBody zau) (defScope zau) .none kV14 dc14 pm14 an14 cd14 ct14),sl14⟩) (c14:PySem.W.codeIn K cd14 "covered_cells" = true) (k14:PySem.W.keepIn K (.ref f14)=true)
  (a15:PySem.W.nsIn K mainGlobals "first_gap" = some (some (.ref f15))) (l15:K.lookup f15=some ⟨oc15,od15,.func (PySem.W.fnOf "first_gap" "first_gap" (defArgs zbw) (defBody zbw) (defScope zbw) .none kV15 dc15 pm15 an15 cd15 ct15),sl15⟩) (c15:PySem.W.codeIn K cd15 "first_gap" = true) (k15:PySem.W.keepIn K (.ref f15)=true)
  (a16:PySem.W.nsIn K mainGlobals "looked_whole" = some (some (.ref f16))) (l16:K.lookup f16=some ⟨oc16,od16,.func (PySem.W.fnOf "looked_whole" "looked_whole" (defArgs zaz) (defBody zaz) (defScope zaz) .none kV16 dc16 pm16 an16 cd16 ct16),sl16⟩) (c16:PySem.W.codeIn K cd16 "looked_whole" = true) (k16:PySem.W.keepIn K (.ref f16)=true)
  (a17:PySem.W.nsIn K mainGlobals "looked" = some (some (.ref f17))) (l17:K.lookup f17=some ⟨oc17,od17,.func (PySem.W.fnOf "looked" "looked" (defArgs zd7) (defBody zd7) (defScope zd7) .none kV17 dc17 pm17 an17 cd17 ct17),sl17⟩) (c17:PySem.W.codeIn K cd17 "looked" = true) (k17:PySem.W.keepIn K (.ref f17)=true)
  (a18:PySem.W.nsIn K mainGlobals "check_covers" = some (some (.ref f18))) (l18:K.lookup f18=some ⟨oc18,od18,.func (PySem.W.fnOf "check_covers" "check_covers" (defArgs zb3) (defBody zb3) (defScope zb3) .none kV18 dc18 pm18 an18 cd18 ct18),sl18⟩) (c18:PySem.W.codeIn K cd18 "check_covers" = true) (k18:PySem.W.keepIn K (.ref f18)=true)
  (a19:PySem.W.nsIn K mainGlobals "width_of" = some (some (.ref f19))) (l19:K.lookup f19=some ⟨oc19,od19,.func (PySem.W.fnOf "width_of" "width_of" (defArgs zc7) (defBody zc7) (defScope zc7) .none kV19 dc19 pm19 an19 cd19 ct19),sl19⟩) (c19:PySem.W.codeIn K cd19 "width_of" = true) (k19:PySem.W.keepIn K (.ref f19)=true)
  (a20:PySem.W.nsIn K mainGlobals "is_square" = some (some (.ref f20))) (l20:K.lookup f20=some ⟨oc20,od20,.func (PySem.W.fnOf "is_square" "is_square" (defArgs zbv) (defBody zbv) (defScope zbv) .none kV20 dc20 pm20 an20 cd20 ct20),sl20⟩) (c20:PySem.W.codeIn K cd20 "is_square" = true) (k20:PySem.W.keepIn K (.ref f20)=true)
  (a21:PySem.W.nsIn K mainGlobals "is_whole" = some (some (.ref f21))) (l21:K.lookup f21=some ⟨oc21,od21,.func (PySem.W.fnOf "is_whole" "is_whole" (defArgs zc9) (defBody zc9) (defScope zc9) .none kV21 dc21 pm21 an21 cd21 ct21),sl21⟩) (c21:PySem.W.codeIn K cd21 "is_whole" = true) (k21:PySem.W.keepIn K (.ref f21)=true)
  (a22:PySem.W.nsIn K mainGlobals "code_of" = some (some (.ref f22))) (l22:K.lookup f22=some ⟨oc22,od22,.func (PySem.W.fnOf "code_of" "code_of" (defArgs zco) (defBody zco) (defScope zco) .none kV22 dc22 pm22 an22 cd22 ct22),sl22⟩) (c22:PySem.W.codeIn K cd22 "code_of" = true) (k22:PySem.W.keepIn K (.ref f22)=true)
  (a23:PySem.W.nsIn K mainGlobals "highest" = some (some (.ref f23))) (l23:K.lookup f23=some ⟨oc23,od23,.func (PySem.W.fnOf "highest" "highest" (defArgs zcn) (defBody zcn) (defScope zcn) .none kV23 dc23 pm23 an23 cd23 ct23),sl23⟩) (c23:PySem.W.codeIn K cd23 "highest" = true) (k23:PySem.W.keepIn K (.ref f23)=true)
  (a24:PySem.W.nsIn K mainGlobals "joined_pieces" = some (some (.ref f24))) (l24:K.lookup f24=some ⟨oc24,od24,.func (PySem.W.fnOf "joined_pieces" "joined_pieces" (defArgs zas) (defBody zas) (defScope zas) .none kV24 dc24 pm24 an24 cd24 ct24),sl24⟩) (c24:PySem.W.codeIn K cd24 "joined_pieces" = true) (k24:PySem.W.keepIn K (.ref f24)=true)
  (a25:PySem.W.nsIn K mainGlobals "hung" = some (some (.ref f25))) (l25:K.lookup f25=some ⟨oc25,od25,.func (PySem.W.fnOf "hung" "hung" (defArgs zfd) (defBody zfd) (defScope zfd) .none kV25 dc25 pm25 an25 cd25 ct25),sl25⟩) (c25:PySem.W.codeIn K cd25 "hung" = true) (k25:PySem.W.keepIn K (.ref f25)=true)
  (a26:PySem.W.nsIn K mainGlobals "first_border" = some (some (.ref f26))) (l26:K.lookup f26=some ⟨oc26,od26,.func (PySem.W.fnOf "first_border" "first_border" (defArgs zb2) (defBody zb2) (defScope zb2) .none kV26 dc26 pm26 an26 cd26 ct26),sl26⟩) (c26:PySem.W.codeIn K cd26 "first_border" = true) (k26:PySem.W.keepIn K (.ref f26)=true)
  (a27:PySem.W.nsIn K mainGlobals "is_full" = some (some (.ref f27))) (l27:K.lookup f27=some ⟨oc27,od27,.func (PySem.W.fnOf "is_full" "is_full" (defArgs zcm) (defBody zcm) (defScope zcm) .none kV27 dc27 pm27 an27 cd27 ct27),sl27⟩) (c27:PySem.W.codeIn K cd27 "is_full" = true) (k27:PySem.W.keepIn K (.ref f27)=true)
  (a28:PySem.W.nsIn K mainGlobals "square_at" = some (some (.ref f28))) (l28:K.lookup f28=some ⟨oc28,od28,.func (PySem.W.fnOf "square_at" "square_at" (defArgs zbr) (defBody zbr) (defScope zbr) .none kV28 dc28 pm28 an28 cd28 ct28),sl28⟩) (c28:PySem.W.codeIn K cd28 "square_at" = true) (k28:PySem.W.keepIn K (.ref f28)=true)
  (a29:PySem.W.nsIn K mainGlobals "floor_by" = some (some (.ref f29))) (l29:K.lookup f29=some ⟨oc29,od29,.func (PySem.W.fnOf "floor_by" "floor_by" (defArgs zcb) (defBody zcb) (defScope zcb) .none kV29 dc29 pm29 an29 cd29 ct29),sl29⟩) (c29:PySem.W.codeIn K cd29 "floor_by" = true) (k29:PySem.W.keepIn K (.ref f29)=true)
  (a30:PySem.W.nsIn K mainGlobals "_law_cell_at" = some (some (.ref f30))) (l30:K.lookup f30=some ⟨oc30,od30,.func (PySem.W.fnOf "_law_cell_at" "_law_cell_at" (defArgs sCellAt) (defBody sCellAt) (defScope sCellAt) .none kV30 dc30 pm30 an30 cd30 ct30),sl30⟩) (c30:PySem.W.codeIn K cd30 "_law_cell_at" = true) (k30:PySem.W.keepIn K (.ref f30)=true)
  (a31:PySem.W.nsIn K mainGlobals "_law_lowest" = some (some (.ref f31))) (l31:K.lookup f31=some ⟨oc31,od31,.func (PySem.W.fnOf "_law_lowest" "_law_lowest" (defArgs zbi) (defBody zbi) (defScope zbi) .none kV31 dc31 pm31 an31 cd31 ct31),sl31⟩) (c31:PySem.W.codeIn K cd31 "_law_lowest" = true) (k31:PySem.W.keepIn K (.ref f31)=true)
  (a32:PySem.W.nsIn K mainGlobals "_law_wheel" = some (some (.ref f32))) (l32:K.lookup f32=some ⟨oc32,od32,.func (PySem.W.fnOf "_law_wheel" "_law_wheel" (defArgs zbs) (defBody zbs) (defScope zbs) .none kV32 dc32 pm32 an32 cd32 ct32),sl32⟩) (c32:PySem.W.codeIn K cd32 "_law_wheel" = true) (k32:PySem.W.keepIn K (.ref f32)=true)
  (a33:PySem.W.nsIn K mainGlobals "_law_two" = some (some (.ref f33))) (l33:K.lookup f33=some ⟨oc33,od33,.func (PySem.W.fnOf "_law_two" "_law_two" (defArgs zcl) (defBody zcl) (defScope zcl) .none kV33 dc33 pm33 an33 cd33 ct33),sl33⟩) (c33:PySem.W.codeIn K cd33 "_law_two" = true) (k33:PySem.W.keepIn K (.ref f33)=true)
  (a34:PySem.W.nsIn K mainGlobals "_law_broken" = some (some (.ref f34))) (l34:K.lookup f34=some ⟨oc34,od34,.func (PySem.W.fnOf "_law_broken" "_law_broken" (defArgs zbj) (defBody zbj) (defScope zbj) .none kV34 dc34 pm34 an34 cd34 ct34),sl34⟩) (c34:PySem.W.codeIn K cd34 "_law_broken" = true) (k34:PySem.W.keepIn K (.ref f34)=true)
  (a35:PySem.W.nsIn K mainGlobals "_law_built" = some (some (.ref f35))) (l35:K.lookup f35=some ⟨oc35,od35,.func (PySem.W.fnOf "_law_built" "_law_built" (defArgs zbu) (defBody zbu) (defScope zbu) .none kV35 dc35 pm35 an35 cd35 ct35),sl35⟩) (c35:PySem.W.codeIn K cd35 "_law_built" = true) (k35:PySem.W.keepIn K (.ref f35)=true)
  (a36:PySem.W.nsIn K mainGlobals "_law_scaled_one" = some (some (.ref f36))) (l36:K.lookup f36=some ⟨oc36,od36,.func (PySem.W.fnOf "_law_scaled_one" "_law_scaled_one" (defArgs zao) (defBody zao) (defScope zao) .none kV36 dc36 pm36 an36 cd36 ct36),sl36⟩) (c36:PySem.W.codeIn K cd36 "_law_scaled_one" = true) (k36:PySem.W.keepIn K (.ref f36)=true)
  (a37:PySem.W.nsIn K mainGlobals "_law_scaled" = some (some (.ref f37))) (l37:K.lookup f37=some ⟨oc37,od37,.func (PySem.W.fnOf "_law_scaled" "_law_scaled" (defArgs zbh) (defBody zbh) (defScope zbh) .none kV37 dc37 pm37 an37 cd37 ct37),sl37⟩) (c37:PySem.W.codeIn K cd37 "_law_scaled" = true) (k37:PySem.W.keepIn K (.ref f37)=true)
  (a38:PySem.W.nsIn K mainGlobals "_law_floor_of" = some (some (.ref f38))) (l38:K.lookup f38=some ⟨oc38,od38,.func (PySem.W.fnOf "_law_floor_of" "_law_floor_of" (defArgs zb1) (defBody zb1) (defScope zb1) .none kV38 dc38 pm38 an38 cd38 ct38),sl38⟩) (c38:PySem.W.codeIn K cd38 "_law_floor_of" = true) (k38:PySem.W.keepIn K (.ref f38)=true)
  (a39:PySem.W.nsIn K mainGlobals "_law_spot" = some (some (.ref f39))) (l39:K.lookup f39=some ⟨oc39,od39,.func (PySem.W.fnOf "_law_spot" "_law_spot" (defArgs sSpot) (defBody sSpot) (defScope sSpot) .none kV39 dc39 pm39 an39 cd39 ct39),sl39⟩) (c39:PySem.W.codeIn K cd39 "_law_spot" = true) (k39:PySem.W.keepIn K (.ref f39)=true)
  (a40:PySem.W.nsIn K mainGlobals "_law_laid" = some (some (.ref f40))) (l40:K.lookup f40=some ⟨oc40,od40,.func (PySem.W.fnOf "_law_laid" "_law_laid" (defArgs zc8) (defBody zc8) (defScope zc8) .none kV40 dc40 pm40 an40 cd40 ct40),sl40⟩) (c40:PySem.W.codeIn K cd40 "_law_laid" = true) (k40:PySem.W.keepIn K (.ref f40)=true)
  (a41:PySem.W.nsIn K mainGlobals "_law_sizes_by" = some (some (.ref f41))) (l41:K.lookup f41=some ⟨oc41,od41,.func (PySem.W.fnOf "_law_sizes_by" "_law_sizes_by" (defArgs zb0) (defBody zb0) (defScope zb0) .none kV41 dc41 pm41 an41 cd41 ct41),sl41⟩) (c41:PySem.W.codeIn K cd41 "_law_sizes_by" = true) (k41:PySem.W.keepIn K (.ref f41)=true)
  (a42:PySem.W.nsIn K mainGlobals "_law_spoilt" = some (some (.ref f42))) (l42:K.lookup f42=some ⟨oc42,od42,.func (PySem.W.fnOf "_law_spoilt" "_law_spoilt" (defArgs zbg) (defBody zbg) (defScope zbg) .none kV42 dc42 pm42 an42 cd42 ct42),sl42⟩) (c42:PySem.W.codeIn K cd42 "_law_spoilt" = true) (k42:PySem.W.keepIn K (.ref f42)=true)
  (a43:PySem.W.nsIn K mainGlobals "_law_heard" = some (some (.ref f43))) (l43:K.lookup f43=some ⟨oc43,od43,.func (PySem.W.fnOf "_law_heard" "_law_heard" (defArgs zbt) (defBody zbt) (defScope zbt) .none kV43 dc43 pm43 an43 cd43 ct43),sl43⟩) (c43:PySem.W.codeIn K cd43 "_law_heard" = true) (k43:PySem.W.keepIn K (.ref f43)=true)
  (a44:PySem.W.nsIn K mainGlobals "_law_laid_right" = some (some (.ref f44))) (l44:K.lookup f44=some ⟨oc44,od44,.func (PySem.W.fnOf "_law_laid_right" "_law_laid_right" (defArgs zap) (defBody zap) (defScope zap) .none kV44 dc44 pm44 an44 cd44 ct44),sl44⟩) (c44:PySem.W.codeIn K cd44 "_law_laid_right" = true) (k44:PySem.W.keepIn K (.ref f44)=true)
  (a45:PySem.W.nsIn K mainGlobals "_law_refusal" = some (some (.ref f45))) (l45:K.lookup f45=some ⟨oc45,od45,.func (PySem.W.fnOf "_law_refusal" "_law_refusal" (defArgs zb6) (defBody zb6) (defScope zb6) .none kV45 dc45 pm45 an45 cd45 ct45),sl45⟩) (c45:PySem.W.codeIn K cd45 "_law_refusal" = true) (k45:PySem.W.keepIn K (.ref f45)=true)
  (a46:PySem.W.nsIn K mainGlobals "_law_no_square" = some (some (.ref f46))) (l46:K.lookup f46=some ⟨oc46,od46,.func (PySem.W.fnOf "_law_no_square" "_law_no_square" (defArgs zar) (defBody zar) (defScope zar) .none kV46 dc46 pm46 an46 cd46 ct46),sl46⟩) (c46:PySem.W.codeIn K cd46 "_law_no_square" = true) (k46:PySem.W.keepIn K (.ref f46)=true)
  (a47:PySem.W.nsIn K mainGlobals "law" = some (some (.ref f47))) (l47:K.lookup f47=some ⟨oc47,od47,.func (PySem.W.fnOf "law" "law" (defArgs sLaw) (defBody sLaw) (defScope sLaw) .none kV47 dc47 pm47 an47 cd47 ct47),sl47⟩) (c47:PySem.W.codeIn K cd47 "law" = true) (k47:PySem.W.keepIn K (.ref f47)=true)
  (a48:PySem.W.findIn K (.ref CN) "__init__" = some (some (.ref f48))) (i48:PySem.W.isFn K (.ref f48)=true) (l48:K.lookup f48=some ⟨oc48,od48,.func (PySem.W.fnOf "__init__" "NoFloor.__init__" (defArgs sNoFInit) (defBody sNoFInit) (defScope sNoFInit) .none kV48 dc48 pm48 an48 cd48 ct48),sl48⟩) (c48:PySem.W.codeIn K cd48 "NoFloor.__init__" = true) (k48:PySem.W.keepIn K (.ref f48)=true)
  (a49:PySem.W.findIn K (.ref CC) "__init__" = some (some (.ref f49))) (i49:PySem.W.isFn K (.ref f49)=true) (l49:K.lookup f49=some ⟨oc49,od49,.func (PySem.W.fnOf "__init__" "NoCode.__init__" (defArgs sNoCInit) (defBody sNoCInit) (defScope sNoCInit) .none kV49 dc49 pm49 an49 cd49 ct49),sl49⟩) (c49:PySem.W.codeIn K cd49 "NoCode.__init__" = true) (k49:PySem.W.keepIn K (.ref f49)=true)
  (a50:PySem.W.findIn K (.ref CS) "__init__" = some (some (.ref f50))) (i50:PySem.W.isFn K (.ref f50)=true) (l50:K.lookup f50=some ⟨oc50,od50,.func (PySem.W.fnOf "__init__" "NoSize.__init__" (defArgs sNoSInit) (defBody sNoSInit) (defScope sNoSInit) .none kV50 dc50 pm50 an50 cd50 ct50),sl50⟩) (c50:PySem.W.codeIn K cd50 "NoSize.__init__" = true) (k50:PySem.W.keepIn K (.ref f50)=true)
  (aCF:PySem.W.nsIn K mainGlobals "FloorError" = some (some (.ref CF)))
  (aCN:PySem.W.nsIn K mainGlobals "NoFloor" = some (some (.ref CN)))
  (aCC:PySem.W.nsIn K mainGlobals "NoCode" = some (some (.ref CC)))
  (aCS:PySem.W.nsIn K mainGlobals "NoSize" = some (some (.ref CS)))
  (xN:L2.excI K CN [.type "ValueError",.type "Exception",.type "BaseException",.type "object"] "ValueError.__new__" f48=true)
  (eN:PySem.W.exmOne K (.ref CN) (.ref CN)=some true)
  (sN1:PySem.W.findIn K (.ref CN) "__setattr__" = some (some (.builtin "object.__setattr__")))
  (sN2:L2.exIn K CN=true)
  (sN3:PySem.W.findIn K (.ref CN) "found" = some none)
  (gN1:PySem.W.findIn K (.ref CN) "__getattribute__" = some (some (.builtin "BaseException.__getattribute__")))
  (gN2:PySem.W.findIn K (.ref CN) "__getattr__" = some none)
  (gN3:PySem.W.findIn K (.ref CN) "__class__" = some (some (.builtin "object.__class__")))
  (gN6:PySem.W.mroIn K CN (.type "object")=some true)
  (gN7:PySem.W.mroIn K CN (.type "BaseException")=some true)
  (gN8:(PySem.W.clsIn K CN).isSome=true)
  (gN9:((PySem.W.clsIn K CN).any fun cd=>cd.hasDict)=true)
  (xC:L2.excI K CC [.type "ValueError",.type "Exception",.type "BaseException",.type "object"] "ValueError.__new__" f49=true)
  (eC:PySem.W.exmOne K (.ref CC) (.ref CC)=some true)
  (sC1:PySem.W.findIn K (.ref CC) "__setattr__" = some (some (.builtin "object.__setattr__")))
  (sC2:L2.exIn K CC=true)
  (sC3:PySem.W.findIn K (.ref CC) "place" = some none)
  (gC1:PySem.W.findIn K (.ref CC) "__getattribute__" = some (some (.builtin "BaseException.__getattribute__")))
  (gC2:PySem.W.findIn K (.ref CC) "__getattr__" = some none)
  (gC3:PySem.W.findIn K (.ref CC) "__class__" = some (some (.builtin "object.__class__")))
  (gC6:PySem.W.mroIn K CC (.type "object")=some true)
  (gC7:PySem.W.mroIn K CC (.type "BaseException")=some true)
  (gC8:(PySem.W.clsIn K CC).isSome=true)
  (gC9:((PySem.W.clsIn K CC).any fun cd=>cd.hasDict)=true)
  (xS:L2.excI K CS [.type "ValueError",.type "Exception",.type "BaseException",.type "object"] "ValueError.__new__" f50=true)
  (eS:PySem.W.exmOne K (.ref CS) (.ref CS)=some true)
  (sS1:PySem.W.findIn K (.ref CS) "__setattr__" = some (some (.builtin "object.__setattr__")))
  (sS2:L2.exIn K CS=true)
  (sS3:PySem.W.findIn K (.ref CS) "at" = some none)
  (gS1:PySem.W.findIn K (.ref CS) "__getattribute__" = some (some (.builtin "BaseException.__getattribute__")))
  (gS2:PySem.W.findIn K (.ref CS) "__getattr__" = some none)
  (gS3:PySem.W.findIn K (.ref CS) "__class__" = some (some (.builtin "object.__class__")))
  (gS6:PySem.W.mroIn K CS (.type "object")=some true)
  (gS7:PySem.W.mroIn K CS (.type "BaseException")=some true)
  (gS8:(PySem.W.clsIn K CS).isSome=true)
  (gS9:((PySem.W.clsIn K CS).any fun cd=>cd.hasDict)=true)
  (eCN:PySem.W.exmOne K (.ref CC) (.ref CN)=some false)
  (ySF:PySem.W.kitOne K (.ref CS) (.ref CF)=some true)
  (ySV:PySem.W.kitOne K (.ref CS) (.type "ValueError")=some true)
  (ySC:PySem.W.kitOne K (.ref CS) (.ref CC)=some false)
  (g4:PySem.W.specialIn K (.builtin "object.__class__") "__get__" = some (some (.builtin "getset_descriptor.__get__")))
  (g5:PySem.W.takesIn K (.builtin "object.__class__")=some true)
  (xcd:cd22=.ref c53)
  (xkt:K.lookup T53=none)
  (xhd:PySem.W.codeHdIn K c53 T53=true)
  (z_abs:PySem.W.nsIn K mainGlobals "abs" = some none)
  (z_len:PySem.W.nsIn K mainGlobals "len" = some none)
  (z_range:PySem.W.nsIn K mainGlobals "range" = some none)
  (z_list:PySem.W.nsIn K mainGlobals "list" = some none)
  (z_tuple:PySem.W.nsIn K mainGlobals "tuple" = some none)
  (z_isinstance:PySem.W.nsIn K mainGlobals "isinstance" = some none)
  (z_min:PySem.W.nsIn K mainGlobals "min" = some none)
  (z_max:PySem.W.nsIn K mainGlobals "max" = some none)
  (z_enumerate:PySem.W.nsIn K mainGlobals "enumerate" = some none)
  (z_set:PySem.W.nsIn K mainGlobals "set" = some none)
  (z_sorted:PySem.W.nsIn K mainGlobals "sorted" = some none)
  (z_all:PySem.W.nsIn K mainGlobals "all" = some none)
  (z_any:PySem.W.nsIn K mainGlobals "any" = some none)
  (z_ValueError:PySem.W.nsIn K mainGlobals "ValueError" = some none)
  : ∃fd:FuncData,(∀(s:Shared) (v:Value),BindsTo s fd ⟨[v],[]⟩ [("_law_script",v)])/\K.lookup T53=none/\(∃c,PySem.W.codeHdIn K c T53=true)/\∀base:Heap,K.In base->base.Ns mainGlobals mg->BMain mg base->FnOk l.prog w K mg base CX0 8 fa fd ["_law_script"] (spLaw T53 K):=by
 have e:=hfa.symm.trans (PySem.W.mg_of X G a47);cases e;have F1:=zai (st:=sCommon) l1 c1 k1;have b1:=F1.binds (ps:=["one","other"]) fun _ _ _ _ _ _ us hl=>by obtain⟨_,_,rfl⟩:=zcw hl; rfl
 have m1:=PySem.W.mg_of X G a1;have F2:=zai (st:=sFraction) l2 c2 k2;have b2:=F2.binds (ps:=["top","bottom"]) fun _ _ _ _ _ _ us hl=>by obtain⟨_,_,rfl⟩:=zcw hl; rfl
 have m2:=PySem.W.mg_of X G a2;have F3:=zai (st:=sMinus) l3 c3 k3;have b3:=F3.binds (ps:=["one","other"]) fun _ _ _ _ _ _ us hl=>by obtain⟨_,_,rfl⟩:=zcw hl; rfl
 have m3:=PySem.W.mg_of X G a3;have F4:=zai (st:=sCBot) l4 c4 k4;have b4:=F4.binds (ps:=["row"]) fun _ _ _ _ _ _ us hl=>by obtain⟨_,rfl⟩:=zcx hl; rfl
 have m4:=PySem.W.mg_of X G a4;have F5:=zai (st:=sWholes) l5 c5 k5;have b5:=F5.binds (ps:=["row","bottom"]) fun _ _ _ _ _ _ us hl=>by obtain⟨_,_,rfl⟩:=zcw hl; rfl
 have m5:=PySem.W.mg_of X G a5;have F6:=zai (st:=zca) l6 c6 k6;have b6:=F6.binds (ps:=["rectangle"]) fun _ _ _ _ _ _ us hl=>by obtain⟨_,rfl⟩:=zcx hl; rfl
 have m6:=PySem.W.mg_of X G a6;have F7:=zai (st:=zbf) l7 c7 k7;have b7:=F7.binds (ps:=["floor"]) fun _ _ _ _ _ _ us hl=>by obtain⟨_,rfl⟩:=zcx hl; rfl
 have m7:=PySem.W.mg_of X G a7;have F8:=zai (st:=zb5) l8 c8 k8;have b8:=F8.binds (ps:=["floor","bottom"]) fun _ _ _ _ _ _ us hl=>by obtain⟨_,_,rfl⟩:=zcw hl; rfl
 have m8:=PySem.W.mg_of X G a8;have F9:=zai (st:=zbk) l9 c9 k9;have b9:=F9.binds (ps:=["rectangle"]) fun _ _ _ _ _ _ us hl=>by obtain⟨_,rfl⟩:=zcx hl; rfl
 have m9:=PySem.W.mg_of X G a9;have F10:=zai (st:=zd8) l10 c10 k10;have b10:=F10.binds (ps:=["rectangle","width","height"]) fun _ _ _ _ _ _ us hl=>by obtain⟨_,_,_,rfl⟩:=zf7 hl; rfl
 have m10:=PySem.W.mg_of X G a10;have F11:=zai (st:=zck) l11 c11 k11;have b11:=F11.binds (ps:=["one","other"]) fun _ _ _ _ _ _ us hl=>by obtain⟨_,_,rfl⟩:=zcw hl; rfl
 have m11:=PySem.W.mg_of X G a11;have F12:=zai (st:=zat) l12 c12 k12;have b12:=F12.binds (ps:=["rectangles"]) fun _ _ _ _ _ _ us hl=>by obtain⟨_,rfl⟩:=zcx hl; rfl
 have m12:=PySem.W.mg_of X G a12;have F13:=zai (st:=zcp) l13 c13 k13;have b13:=F13.binds (ps:=["rectangles","at","most"]) fun _ _ _ _ _ _ us hl=>by obtain⟨_,_,_,rfl⟩:=zf7 hl; rfl
 have m13:=PySem.W.mg_of X G a13;have F14:=zai (st:=zau) l14 c14 k14;have b14:=F14.binds (ps:=["columns","rows","rectangles"]) fun _ _ _ _ _ _ us hl=>by obtain⟨_,_,_,rfl⟩:=zf7 hl; rfl
 have m14:=PySem.W.mg_of X G a14;have F15:=zai (st:=zbw) l15 c15 k15;have b15:=F15.binds (ps:=["width","height","rectangles"]) fun _ _ _ _ _ _ us hl=>by obtain⟨_,_,_,rfl⟩:=zf7 hl; rfl
 have m15:=PySem.W.mg_of X G a15;have F16:=zai (st:=zaz) l16 c16 k16;have b16:=F16.binds (ps:=["width","height","rectangles"]) fun _ _ _ _ _ _ us hl=>by obtain⟨_,_,_,rfl⟩:=zf7 hl; rfl
 have m16:=PySem.W.mg_of X G a16;have F17:=zai (st:=zd7) l17 c17 k17;have b17:=F17.binds (ps:=["floor"]) fun _ _ _ _ _ _ us hl=>by obtain⟨_,rfl⟩:=zcx hl; rfl
 have m17:=PySem.W.mg_of X G a17;have F18:=zai (st:=zb3) l18 c18 k18;have b18:=F18.binds (ps:=["floor"]) fun _ _ _ _ _ _ us hl=>by obtain⟨_,rfl⟩:=zcx hl; rfl
 have m18:=PySem.W.mg_of X G a18;have F19:=zai (st:=zc7) l19 c19 k19;have b19:=F19.binds (ps:=["rectangle"]) fun _ _ _ _ _ _ us hl=>by obtain⟨_,rfl⟩:=zcx hl; rfl
 have m19:=PySem.W.mg_of X G a19;have F20:=zai (st:=zbv) l20 c20 k20;have b20:=F20.binds (ps:=["rectangle"]) fun _ _ _ _ _ _ us hl=>by obtain⟨_,rfl⟩:=zcx hl; rfl
 have m20:=PySem.W.mg_of X G a20;have F21:=zai (st:=zc9) l21 c21 k21;have b21:=F21.binds (ps:=["rectangle"]) fun _ _ _ _ _ _ us hl=>by obtain⟨_,rfl⟩:=zcx hl; rfl
 have m21:=PySem.W.mg_of X G a21;have F22:=zai (st:=zco) l22 c22 k22;have b22:=F22.binds (ps:=["floor"]) fun _ _ _ _ _ _ us hl=>by obtain⟨_,rfl⟩:=zcx hl; rfl
 have m22:=PySem.W.mg_of X G a22;have F23:=zai (st:=zcn) l23 c23 k23;have b23:=F23.binds (ps:=["border"]) fun _ _ _ _ _ _ us hl=>by obtain⟨_,rfl⟩:=zcx hl; rfl
 have m23:=PySem.W.mg_of X G a23;have F24:=zai (st:=zas) l24 c24 k24;have b24:=F24.binds (ps:=["pieces"]) fun _ _ _ _ _ _ us hl=>by obtain⟨_,rfl⟩:=zcx hl; rfl
 have m24:=PySem.W.mg_of X G a24;have F25:=zai (st:=zfd) l25 c25 k25;have b25:=F25.binds (ps:=["border","size"]) fun _ _ _ _ _ _ us hl=>by obtain⟨_,_,rfl⟩:=zcw hl; rfl
 have m25:=PySem.W.mg_of X G a25;have F26:=zai (st:=zb2) l26 c26 k26;have b26:=F26.binds (ps:=["width","height"]) fun _ _ _ _ _ _ us hl=>by obtain⟨_,_,rfl⟩:=zcw hl; rfl
 have m26:=PySem.W.mg_of X G a26;have F27:=zai (st:=zcm) l27 c27 k27;have b27:=F27.binds (ps:=["border"]) fun _ _ _ _ _ _ us hl=>by obtain⟨_,rfl⟩:=zcx hl; rfl
 have m27:=PySem.W.mg_of X G a27;have F28:=zai (st:=zbr) l28 c28 k28;have b28:=F28.binds (ps:=["border","size"]) fun _ _ _ _ _ _ us hl=>by obtain⟨_,_,rfl⟩:=zcw hl; rfl
 have m28:=PySem.W.mg_of X G a28;have F29:=zai (st:=zcb) l29 c29 k29;have b29:=F29.binds (ps:=["width","height","sizes"]) fun _ _ _ _ _ _ us hl=>by obtain⟨_,_,_,rfl⟩:=zf7 hl; rfl
 have m29:=PySem.W.mg_of X G a29;have F30:=zai (st:=sCellAt) l30 c30 k30;have b30:=F30.binds (ps:=["_law_script","_law_k"]) fun _ _ _ _ _ _ us hl=>by obtain⟨_,_,rfl⟩:=zcw hl; rfl
 have m30:=PySem.W.mg_of X G a30;have F31:=zai (st:=zbi) l31 c31 k31;have b31:=F31.binds (ps:=["_law_top","_law_bottom"]) fun _ _ _ _ _ _ us hl=>by obtain⟨_,_,rfl⟩:=zcw hl; rfl
 have m31:=PySem.W.mg_of X G a31;have F32:=zai (st:=zbs) l32 c32 k32;have b32:=F32.binds (ps:=["_law_box","_law_x","_law_y","_law_way"]) fun _ _ _ _ _ _ us hl=>by obtain⟨_,_,_,_,rfl⟩:=len_4 hl; rfl
 have m32:=PySem.W.mg_of X G a32;have F33:=zai (st:=zcl) l33 c33 k33;have b33:=F33.binds (ps:=["_law_low","_law_high","_law_cell"]) fun _ _ _ _ _ _ us hl=>by obtain⟨_,_,_,rfl⟩:=zf7 hl; rfl
 have m33:=PySem.W.mg_of X G a33;have F34:=zai (st:=zbj) l34 c34 k34;have b34:=F34.binds (ps:=["_law_box","_law_cell"]) fun _ _ _ _ _ _ us hl=>by obtain⟨_,_,rfl⟩:=zcw hl; rfl
 have m34:=PySem.W.mg_of X G a34;have F35:=zai (st:=zbu) l35 c35 k35;have b35:=F35.binds (ps:=["_law_script","_law_first","_law_last","_law_wide","_law_high","_law_most"]) fun _ _ _ _ _ _ us hl=>by obtain⟨_,_,_,_,_,_,rfl⟩:=len_6 hl; rfl
 have m35:=PySem.W.mg_of X G a35;have F36:=zai (st:=zao) l36 c36 k36;have b36:=F36.binds (ps:=["_law_number","_law_scale"]) fun _ _ _ _ _ _ us hl=>by obtain⟨_,_,rfl⟩:=zcw hl; rfl
 have m36:=PySem.W.mg_of X G a36;have F37:=zai (st:=zbh) l37 c37 k37;have b37:=F37.binds (ps:=["_law_box","_law_scale"]) fun _ _ _ _ _ _ us hl=>by obtain⟨_,_,rfl⟩:=zcw hl; rfl
 have m37:=PySem.W.mg_of X G a37;have F38:=zai (st:=zb1) l38 c38 k38;have b38:=F38.binds (ps:=["_law_boxes","_law_wide","_law_high","_law_scale"]) fun _ _ _ _ _ _ us hl=>by obtain⟨_,_,_,_,rfl⟩:=len_4 hl; rfl
 have m38:=PySem.W.mg_of X G a38;have F39:=zai (st:=sSpot) l39 c39 k39;have b39:=F39.binds (ps:=["_law_tops"]) fun _ _ _ _ _ _ us hl=>by obtain⟨_,rfl⟩:=zcx hl; rfl
 have m39:=PySem.W.mg_of X G a39;have F40:=zai (st:=zc8) l40 c40 k40;have b40:=F40.binds (ps:=["_law_width","_law_height","_law_sizes"]) fun _ _ _ _ _ _ us hl=>by obtain⟨_,_,_,rfl⟩:=zf7 hl; rfl
 have m40:=PySem.W.mg_of X G a40;have F41:=zai (st:=zb0) l41 c41 k41;have b41:=F41.binds (ps:=["_law_script","_law_width","_law_height"]) fun _ _ _ _ _ _ us hl=>by obtain⟨_,_,_,rfl⟩:=zf7 hl; rfl
 have m41:=PySem.W.mg_of X G a41;have F42:=zai (st:=zbg) l42 c42 k42;have b42:=F42.binds (ps:=["_law_script","_law_sizes"]) fun _ _ _ _ _ _ us hl=>by obtain⟨_,_,rfl⟩:=zcw hl; rfl
 have m42:=PySem.W.mg_of X G a42;have F43:=zai (st:=zbt) l43 c43 k43;have b43:=F43.binds (ps:=["_law_width","_law_height","_law_sizes"]) fun _ _ _ _ _ _ us hl=>by obtain⟨_,_,_,rfl⟩:=zf7 hl; rfl
 have m43:=PySem.W.mg_of X G a43;have F44:=zai (st:=zap) l44 c44 k44;have b44:=F44.binds (ps:=["_law_script"]) fun _ _ _ _ _ _ us hl=>by obtain⟨_,rfl⟩:=zcx hl; rfl
 have m44:=PySem.W.mg_of X G a44;have F45:=zai (st:=zb6) l45 c45 k45;have b45:=F45.binds (ps:=["_law_floor"]) fun _ _ _ _ _ _ us hl=>by obtain⟨_,rfl⟩:=zcx hl; rfl
 have m45:=PySem.W.mg_of X G a45;have F46:=zai (st:=zar) l46 c46 k46;have b46:=F46.binds (ps:=["_law_floor"]) fun _ _ _ _ _ _ us hl=>by obtain⟨_,rfl⟩:=zcx hl; rfl
 have m46:=PySem.W.mg_of X G a46;have F47:=zai (st:=sLaw) l47 c47 k47;have F48:=zai (st:=sNoFInit) l48 c48 k48;have b48:=F48.binds (ps:=["self","found"]) fun _ _ _ _ _ _ us hl=>by obtain⟨_,_,rfl⟩:=zcw hl; rfl
 have F49:=zai (st:=sNoCInit) l49 c49 k49;have b49:=F49.binds (ps:=["self","place"]) fun _ _ _ _ _ _ us hl=>by obtain⟨_,_,rfl⟩:=zcw hl; rfl
 have F50:=zai (st:=sNoSInit) l50 c50 k50;have b50:=F50.binds (ps:=["self","at"]) fun _ _ _ _ _ _ us hl=>by obtain⟨_,_,rfl⟩:=zcw hl; rfl
 have mCF:=PySem.W.mg_of X G aCF;have mCN:=PySem.W.mg_of X G aCN;have mCC:=PySem.W.mg_of X G aCC;have mCS:=PySem.W.mg_of X G aCS;have SN:L2.XStore K CN "found":=⟨sN1,sN2,sN3⟩;have GN:L2.XGet K CN "found":=⟨⟨gN1,gN2,gN3,g4,g5,gN6,gN7,gN8⟩,sN3,gN9⟩;have SC:L2.XStore K CC "place":=⟨sC1,sC2,sC3⟩;have GC:L2.XGet K CC "place":=⟨⟨gC1,gC2,gC3,g4,g5,gC6,gC7,gC8⟩,sC3,gC9⟩;have SS:L2.XStore K CS "at":=⟨sS1,sS2,sS3⟩;have GS:L2.XGet K CS "at":=⟨⟨gS1,gS2,gS3,g4,g5,gS6,gS7,gS8⟩,sS3,gS9⟩;have m_abs:=PySem.W.mg_none_of X G z_abs;have m_len:=PySem.W.mg_none_of X G z_len;have m_range:=PySem.W.mg_none_of X G z_range;have m_list:=PySem.W.mg_none_of X G z_list;have m_tuple:=PySem.W.mg_none_of X G z_tuple;have m_isinstance:=PySem.W.mg_none_of X G z_isinstance;have m_min:=PySem.W.mg_none_of X G z_min;have m_max:=PySem.W.mg_none_of X G z_max;have m_enumerate:=PySem.W.mg_none_of X G z_enumerate;have m_set:=PySem.W.mg_none_of X G z_set;have m_sorted:=PySem.W.mg_none_of X G z_sorted;have m_all:=PySem.W.mg_none_of X G z_all;have m_any:=PySem.W.mg_none_of X G z_any;have m_ValueError:=PySem.W.mg_none_of X G z_ValueError;refine⟨PySem.W.fnOf "law" "law" (defArgs sLaw) (defBody sLaw) (defScope sLaw) .none kV47 dc47 pm47 an47 cd47 ct47,fun s v=>.of_eq rfl,xkt,⟨_,xhd⟩,fun base X' _ hB=>?_⟩;have hC:=PySem.W.codeHd_of_K X' xhd;have O48:FnOk l.prog w K mg base CX0 1 f48 _ ["self","found"] (sp1 CN "found"):=zqk F48 SN;have O49:FnOk l.prog w K mg base CX0 1 f49 _ ["self","place"] (sp1 CC "place"):=zql F49 SC;have O50:FnOk l.prog w K mg base CX0 1 f50 _ ["self","at"] (sp1 CS "at"):=zqj F50 SS;have O1:FnOk l.prog w K mg base CX0 1 f1 _ ["one","other"] spGcd:=zlg F1   m_abs;have O2:FnOk l.prog w K mg base CX0 2 f2 _ ["top","bottom"] (spFrac CF):=zhr F2  O1 b1 k1 m1;have O3:FnOk l.prog w K mg base CX0 3 f3 _ ["one","other"] (spBin fun x y=>x-y):=zof F3  O2 b2 k2 m2;have O4:FnOk l.prog w K mg base CX0 2 f4 _ ["row"] spCBL:=zoi F4  O1 b1 k1 m1;have O5:FnOk l.prog w K mg base CX0 1 f5 _ ["row","bottom"] spWholes:=zle F5;have O6:FnOk l.prog w K mg base CX0 1 f6 _ ["rectangle"] spIsP:=ok_isp F6;have O7:FnOk l.prog w K mg base CX0 1 f7 _ ["floor"] spNums:=zqi F7   m_list;have O8:FnOk l.prog w K mg base CX0 2 f8 _ ["floor","bottom"] spWF:=ok_wf F8  O5 b5 k5 m5;have O9:FnOk l.prog w K mg base CX0 1 f9 _ ["rectangle"] spNi:=ok_ni F9;have O10:FnOk l.prog w K mg base CX0 1 f10 _ ["rectangle","width","height"] spOut:=ok_out F10;have O11:FnOk l.prog w K mg base CX0 1 f11 _ ["one","other"] spOv:=ok_ov F11   m_max m_min;have O12:FnOk l.prog w K mg base CX0 2 f12 _ ["rectangles"] spFO:=ok_fo F12  O11 b11 k11 m11 m_enumerate m_range m_len;have O13:FnOk l.prog w K mg base CX0 1 f13 _ ["rectangles","at","most"] spBd:=ok_bd F13   m_set m_sorted;have O14:FnOk l.prog w K mg base CX0 1 f14 _ ["columns","rows","rectangles"] spCov:=ok_cov F14   m_range;have O15:FnOk l.prog w K mg base CX0 2 f15 _ ["width","height","rectangles"] spFG:=ok_fg F15  O13 b13 k13 m13 O14 b14 k14 m14 m_range m_len;have O16:FnOk l.prog w K mg base CX0 3 f16 _ ["width","height","rectangles"] spLW:=ok_lw F16  O9 b9 k9 m9 O10 b10 k10 m10 O12 b12 k12 m12 O15 b15 k15 m15 m_enumerate;have O17:FnOk l.prog w K mg base CX0 4 f17 _ ["floor"] spLk:=zlf F17  O7 b7 k7 m7 O2 b2 k2 m2 O4 b4 k4 m4 O16 b16 k16 m16 O8 b8 k8 m8 m_tuple;have O18:FnOk l.prog w K mg base (CXr l.prog w) 5 f18 _ ["floor"] (spChk CN):=zoh F18  O17 b17 k17 m17 O48 b48 i48 mCN xN;have O19:FnOk l.prog w K mg base CX0 4 f19 _ ["rectangle"] spWd:=ok_wd F19  O3 b3 k3 m3;have O20:FnOk l.prog w K mg base CX0 5 f20 _ ["rectangle"] spSq:=ok_sq F20  O6 b6 k6 m6 O19 b19 k19 m19 O3 b3 k3 m3;have O21:FnOk l.prog w K mg base CX0 1 f21 _ ["rectangle"] spWg:=zqo F21   m_all;have O22:FnOk l.prog w K mg base (CXr l.prog w) 6 f22 _ ["floor"] (spCd CN CC T53):=ok_cd F22 xcd hC hB O18 b18 k18 m18 O21 b21 k21 m21 O20 b20 k20 m20 m_enumerate m_sorted m_tuple O49 b49 i49 mCC xC;have O23:FnOk l.prog w K mg base CX0 1 f23 _ ["border"] spHigh:=zqq F23   m_enumerate;have O24:FnOk l.prog w K mg base CX0 1 f24 _ ["pieces"] spJoin:=zqn F24;have O25:FnOk l.prog w K mg base CX0 2 f25 _ ["border","size"] spHung:=zqp F25  O23 b23 k23 m23 O24 b24 k24 m24;have O26:FnOk l.prog w K mg base CX0 1 f26 _ ["width","height"] spFirst:=zog F26;have O27:FnOk l.prog w K mg base CX0 2 f27 _ ["border"] spFull:=zqr F27  O23 b23 k23 m23;have O28:FnOk l.prog w K mg base CX0 2 f28 _ ["border","size"] spSqAt:=zqg F28  O23 b23 k23 m23;have O29:FnOk l.prog w K mg base (CXr l.prog w) 3 f29 _ ["width","height","sizes"] (spFB CS):=ok_fb F29  O26 b26 k26 m26 O25 b25 k25 m25 O28 b28 k28 m28 O27 b27 k27 m27 m_enumerate m_tuple m_len O50 b50 i50 mCS xS;have O30:FnOk l.prog w K mg base CX0 1 f30 _ ["_law_script","_law_k"] (spCell K):=zqs F30   m_len;have O31:FnOk l.prog w K mg base CX0 1 f31 _ ["_law_top","_law_bottom"] spLow:=ok_low F31   m_abs;have O32:FnOk l.prog w K mg base CX0 1 f32 _ ["_law_box","_law_x","_law_y","_law_way"] spWheel:=zoe F32;have O33:FnOk l.prog w K mg base CX0 1 f33 _ ["_law_low","_law_high","_law_cell"] spTwo:=ok_two F33;have O34:FnOk l.prog w K mg base CX0 2 f34 _ ["_law_box","_law_cell"] spBroken:=zlh F34  O33 b33 k33 m33 O32 b32 k32 m32;have O35:FnOk l.prog w K mg base CX0 3 f35 _ ["_law_script","_law_first","_law_last","_law_wide","_law_high","_law_most"] (spBuilt K):=zoj F35  O30 b30 k30 m30 O34 b34 k34 m34 m_len m_min m_range;have O36:FnOk l.prog w K mg base CX0 2 f36 _ ["_law_number","_law_scale"] spScO:=ok_scO F36  O31 b31 k31 m31;have O37:FnOk l.prog w K mg base CX0 3 f37 _ ["_law_box","_law_scale"] spScd:=ok_scd F37  O36 b36 k36 m36 m_tuple;have O38:FnOk l.prog w K mg base CX0 4 f38 _ ["_law_boxes","_law_wide","_law_high","_law_scale"] spFlo:=ok_flo F38  O36 b36 k36 m36 O37 b37 k37 m37 m_tuple;have O39:FnOk l.prog w K mg base CX0 1 f39 _ ["_law_tops"] spSpot:=zqh F39   m_max m_len;have O40:FnOk l.prog w K mg base CX0 2 f40 _ ["_law_width","_law_height","_law_sizes"] spLaid:=zqm F40  O39 b39 k39 m39 m_max m_len m_range m_enumerate;have O41:FnOk l.prog w K mg base CX0 2 f41 _ ["_law_script","_law_width","_law_height"] (spSb K):=ok_sb F41  O30 b30 k30 m30 O39 b39 k39 m39 m_min m_len m_range;have O42:FnOk l.prog w K mg base CX0 2 f42 _ ["_law_script","_law_sizes"] (spSpo K):=ok_spo F42  O30 b30 k30 m30 m_len;have O43:FnOk l.prog w K mg base CX0 4 f43 _ ["_law_width","_law_height","_law_sizes"] spHe:=ok_he F43  O29 b29 k29 m29 mCS mCF mCC m_isinstance m_ValueError eS ySF ySV ySC GS;have O44:FnOk l.prog w K mg base CX0 5 f44 _ ["_law_script"] (spLr K):=ok_lr F44  O30 b30 k30 m30 O41 b41 k41 m41 O42 b42 k42 m42 O40 b40 k40 m40 O43 b43 k43 m43 m_tuple;have O45:FnOk l.prog w K mg base CX0 7 f45 _ ["_law_floor"] (spRe T53):=ok_re F45  O22 b22 k22 m22 mCN mCC eN eCN eC GN GC;have O46:FnOk l.prog w K mg base CX0 1 f46 _ ["_law_floor"] spNs:=ok_ns F46   m_enumerate m_any;exact ok_law F47 O30 b30 k30 m30 O44 b44 k44 m44 O35 b35 k35 m35 O38 b38 k38 m38 O45 b45 k45 m45 O17 b17 k17 m17 O46 b46 k46 m46 m_len
theorem walk {l:PySem.W.OpenLaw} {q:Program} {loose:List Str} {XP:(Str->Option Value)->Heap->Prop} {YP:World->Heap->Prop} {d:DefRec} {K:Params->PySem.W.Frag} {T:Addr} (hn:l.most=some 63) (hdf:d.params.defaults=[])
  (hY:∀(w:World) (h:Heap),YP w h->(K w.params).In h/\h.get? T=some (PySem.W.tabObj #[]))
  (F:∀(w:World) (mg:Str->Option Value) (fa:Addr) (h:Heap),(K w.params).In h->h.Ns mainGlobals mg->mg d.name=some (.ref fa) →
   ∃fd:FuncData,(∀(s:Shared) (u:Value),BindsTo s fd ⟨[u],[]⟩ [("_law_script",u)])/\(K w.params).lookup T=none/\(∃c,PySem.W.codeHdIn (K w.params) c T=true)/\∀base:Heap,(K w.params).In base->base.Ns mainGlobals mg->BMain mg base->FnOk l.prog w (K w.params) mg base CX0 8 fa fd ["_law_script"] (spLaw T (K w.params))) :
  PySem.W.WalkO q loose XP YP l.row.toRowW d [] (fun f vs=>PySem.call f vs) :=
 L2.zns (n:=63) (k:=8) (x:="_law_script") (sp:=fun w=>spLaw T (K w.params)) hn (by decide) hdf ⟨rfl,by decide,by decide⟩ hY F fun _ _ a ns hl hT hS=>⟨a,ns,rfl,hS,hl,hT,fun _=>rfl⟩
end My
namespace PySem.W.Fast
theorem tw4020787265268622698:True:=trivial
theorem tw662386274288985126:True:=trivial
theorem tw1115453829017423987:True:=trivial
theorem tw18318214956986658100:True:=trivial
theorem tw1204370182510719202:True:=trivial
theorem tw6989772311509360183:True:=trivial
theorem tw9959523512130723669:True:=trivial
theorem tw5125521119394654051:True:=trivial
theorem tw16778869217378774357:True:=trivial
theorem tw14647255477921863106:True:=trivial
theorem tw12646793398301064139:True:=trivial
theorem tw10797831477177594314:True:=trivial
theorem tw1065122300411138963:True:=trivial
theorem tw2874261521682113735:True:=trivial
theorem tw1301464974702333727:True:=trivial
theorem tw10301068537376631066:True:=trivial
theorem tw12498925034941554988:True:=trivial
theorem tw5426890438489519878:True:=trivial
theorem tw13723688151063795309:True:=trivial
theorem tw11192836195282679272:True:=trivial
theorem tw1830744945464084799:True:=trivial
theorem tw15936118806039651233:True:=trivial
theorem tw17503253895304812935:True:=trivial
theorem tw10157276881061921016:True:=trivial
theorem tw12294701846182841452:True:=trivial
theorem tw2398908417219156453:True:=trivial
theorem tw14776302105293593648:True:=trivial
theorem tw4067538585865468412:True:=trivial
theorem tw7395516223853891005:True:=trivial
theorem tw12559373396484943027:True:=trivial
theorem tw7295690711521792631:True:=trivial
theorem tw17409270554084786549:True:=trivial
theorem tw17578375679316054899:True:=trivial
theorem tw14896745000384136657:True:=trivial
theorem tw13932882266237078288:True:=trivial
theorem tw17178790885974788227:True:=trivial
theorem tw14681882193698817488:True:=trivial
theorem tw2241057246626028396:True:=trivial
theorem tw10134378259014176321:True:=trivial
theorem tw915390989905947255:True:=trivial
theorem tw11014791584105931474:True:=trivial
theorem tw13939134508448993618:True:=trivial
theorem tw11949724211480972012:True:=trivial
theorem tw7490592281270405267:True:=trivial
theorem tw3720112243245133138:True:=trivial
theorem tw7663838276031011875:True:=trivial
theorem tw6954981586075519362:True:=trivial
theorem tw18436774910698128604:True:=trivial
theorem tw83530851983409761:True:=trivial
theorem tw12813951404952105738:True:=trivial
theorem tw14008921542836335532:True:=trivial
theorem tw17974314860354985958:True:=trivial
theorem tw16114548201107325899:True:=trivial
theorem tw15068076237836127730:True:=trivial
theorem tw14647059753131400349:True:=trivial
theorem tw745312819890804551:True:=trivial
theorem tw10843123425104750407:True:=trivial
theorem tw16765627422651842617:True:=trivial
theorem tw7208855532956799737:True:=trivial
theorem tw4719129216369235639:True:=trivial
theorem tw13746742653192347940:True:=trivial
theorem tw2577185003685522519:True:=trivial
theorem tw9494724369607112197:True:=trivial
theorem tw2664375755435602438:True:=trivial
theorem tw797259807412165870:True:=trivial
theorem tw8449736893396945761:True:=trivial
theorem tw2282773626906944505:True:=trivial
theorem tw92680891166498213:True:=trivial
theorem tw16931279216574816067:True:=trivial
theorem tw2272029163838457705:True:=trivial
theorem tw15038672202098666013:True:=trivial
theorem tw1821218316235315238:True:=trivial
theorem tw1656523836192389777:True:=trivial
theorem tw14033192814427965099:True:=trivial
theorem tw8546211056864752158:True:=trivial
theorem tw12348809291847782212:True:=trivial
theorem tw16697446250854417548:True:=trivial
theorem tw15096689387323183338:True:=trivial
theorem tw13648324530309093672:True:=trivial
theorem tw11106498331895715618:True:=trivial
theorem tw9984518396027267102:True:=trivial
theorem tw5180067704282950002:True:=trivial
theorem tw17733375554256679110:True:=trivial
theorem tw13305127635385471053:True:=trivial
theorem tw4191244957352577354:True:=trivial
theorem tw15197351712529713435:True:=trivial
theorem tw13446446717535735126:True:=trivial
theorem tw9538965292404320446:True:=trivial
theorem tw5202834432472835569:True:=trivial
theorem tw677425527815181196:True:=trivial
theorem tw14956044721195272266:True:=trivial
theorem tw15602520036181193263:True:=trivial
theorem tw13978010750569201222:True:=trivial
theorem tw17639977630441475186:True:=trivial
theorem tw3491902547782064764:True:=trivial
theorem tw1498434916393089276:True:=trivial
theorem tw11448735381997357728:True:=trivial
theorem tw15049564471198752453:True:=trivial
theorem tw4919120082685619669:True:=trivial
theorem tw3382257513436626271:True:=trivial
theorem tw6531584758599960092:True:=trivial
theorem tw6463944905812517234:True:=trivial
theorem tw804043537445890951:True:=trivial
theorem tw868994906055818912:True:=trivial
theorem tw5374896804554692594:True:=trivial
theorem tw5748869158095675230:True:=trivial
theorem tw12481720469764282856:True:=trivial
theorem tw18402357902928274859:True:=trivial
theorem tw13320891369014813215:True:=trivial
theorem tw5539468765850163427:True:=trivial
theorem tw2178588829196281362:True:=trivial
theorem tw11662004976371219602:True:=trivial
theorem tw8679144679982529225:True:=trivial
theorem tw12048675194410605193:True:=trivial
theorem tw11791574968946465115:True:=trivial
theorem tw1021928250331127399:True:=trivial
theorem tw11047519231685627802:True:=trivial
theorem tw16202245891025002777:True:=trivial
theorem tw4163801574501477242:True:=trivial
theorem tw13413019780541829527:True:=trivial
theorem tw12250390422191629330:True:=trivial
theorem tw6061697547521164259:True:=trivial
theorem tw3671052916289730641:True:=trivial
theorem tw10019325515797459927:True:=trivial
theorem tw7591035303206254221:True:=trivial
theorem tw4276683496471256492:True:=trivial
theorem tw17193636638268576999:True:=trivial
theorem tw2817079992694930545:True:=trivial
theorem tw14226215128080265608:True:=trivial
theorem tw11734548350769539756:True:=trivial
theorem tw5228575248846041296:True:=trivial
theorem tw693116914038823892:True:=trivial
theorem tw11771733127665251273:True:=trivial
theorem tw13737862239268135014:True:=trivial
theorem tw17926520273219416844:True:=trivial
theorem tw16010318410099438302:True:=trivial
theorem tw17685748702268347170:True:=trivial
theorem tw15147551340688797484:True:=trivial
theorem tw18417802365034923563:True:=trivial
theorem tw17394176141394981948:True:=trivial
theorem tw9181415949003323953:True:=trivial
theorem tw7904976922090609266:True:=trivial
theorem tw15785655122568663000:True:=trivial
theorem tw225607246431555369:True:=trivial
theorem tw7184743641353339708:True:=trivial
theorem tw16931290427069738362:True:=trivial
theorem tw14104732579692749728:True:=trivial
theorem tw12218590041850960183:True:=trivial
theorem tw1303782795364837384:True:=trivial
theorem tw16930598229420440407:True:=trivial
theorem tw18346018842593450107:True:=trivial
theorem tw15282839147689120268:True:=trivial
theorem tw4373997323380874448:True:=trivial
theorem tw11711821494502701393:True:=trivial
theorem tw1907689058889557195:True:=trivial
theorem tw7759202686801595940:True:=trivial
theorem tw3658355398461046573:True:=trivial
theorem tw14324761904697845192:True:=trivial
theorem tw17706363562695035861:True:=trivial
theorem tw1971755461953449530:True:=trivial
theorem tw15456355432778355906:True:=trivial
theorem tw5883756568878298758:True:=trivial
theorem tw14147089183397190892:True:=trivial
theorem tw421955803569942904:True:=trivial
theorem tw3420479282477630104:True:=trivial
theorem tw3990153194849532731:True:=trivial
theorem tw3254267753942548737:True:=trivial
theorem tw3805822416816261091:True:=trivial
theorem tw4479982002738482667:True:=trivial
theorem tw7274179543964925212:True:=trivial
theorem tw5960831121074759315:True:=trivial
theorem tw2025172508599775238:True:=trivial
theorem tw17804993556076857882:True:=trivial
theorem tw8242129555559195107:True:=trivial
theorem tw9307690571662532614:True:=trivial
theorem tw11224954849635097739:True:=trivial
theorem tw5241060910720494547:True:=trivial
theorem tw14666129964473983892:True:=trivial
theorem tw2033436762076672278:True:=trivial
theorem tw2633143753233398200:True:=trivial
theorem tw2988366000546593924:True:=trivial
theorem tw17298320226985080714:True:=trivial
theorem tw4961856241473510011:True:=trivial
theorem tw9233676371167125979:True:=trivial
theorem tw5445841185690795671:True:=trivial
theorem tw6787104112263985207:True:=trivial
theorem tw10276605897618398578:True:=trivial
theorem tw17440740260217065990:True:=trivial
theorem tw3009000828722122226:True:=trivial
theorem tw11405194582355878300:True:=trivial
theorem tw6502769615703818528:True:=trivial
theorem tw16704914677689108715:True:=trivial
theorem tw18109149279263329233:True:=trivial
theorem tw10558293158031882819:True:=trivial
theorem tw11091383113293490050:True:=trivial
theorem tw6484593853592441701:True:=trivial
theorem tw5911928163855996217:True:=trivial
theorem tw17482548345366994287:True:=trivial
theorem tw285277889740649543:True:=trivial
theorem tw4145104273465471258:True:=trivial
theorem tw11804829946516057730:True:=trivial
theorem tw7115036635184611458:True:=trivial
theorem te10205251113599300871:True:=trivial
theorem tw3959044768123751641:True:=trivial
theorem tw8719358729328709453:True:=trivial
theorem tw7974262079626535994:True:=trivial
theorem tw387678533764936465:True:=trivial
theorem tw6468255559675450671:True:=trivial
theorem tw2836828015544245827:True:=trivial
theorem tw1411425535325660180:True:=trivial
theorem tw3316384106373744646:True:=trivial
theorem tw12453200572608158959:True:=trivial
theorem tw12399918172082186812:True:=trivial
theorem tw18370022555219051431:True:=trivial
theorem tw11971169605754649074:True:=trivial
theorem tw3888661833363967087:True:=trivial
theorem tw18341207783587995355:True:=trivial
theorem tw6548349779699161651:True:=trivial
theorem tw9510683951939241775:True:=trivial
theorem tw1279226591065896487:True:=trivial
theorem tw8243941971667019027:True:=trivial
theorem tw1286141945927304838:True:=trivial
theorem tw9188242771569905344:True:=trivial
theorem tw6344719376110123414:True:=trivial
theorem tw3536142008131828965:True:=trivial
theorem tw15703509515660113755:True:=trivial
theorem tw6192346766217262068:True:=trivial
theorem tw7485039792023729714:True:=trivial
theorem tw14369707750298456796:True:=trivial
theorem tw9533875914278946948:True:=trivial
theorem tw13161301954337793742:True:=trivial
theorem tw13179929045084100769:True:=trivial
theorem tw7864212656345958305:True:=trivial
theorem tw11105144261459178930:True:=trivial
theorem tw17982663265454862769:True:=trivial
end PySem.W.Fast
open PySem PySem.W PyProof.Rows
set_option maxRecDepth 100000 in
set_option maxHeartbeats 0 in
theorem PySem.Challenge.cw_currentfloor_k53_sizes_refused_holds : PySem.Challenge.rw_currentfloor_k53_sizes_refused.Holds := by
  w_on; o_law; k_head; (case hw => w_witness2)
  k_fill
  refine My.walk (l := PySem.Challenge.rw_currentfloor_k53_sizes_refused) rfl rfl (fun w h Y => ⟨PySem.W.km_in_of Y, PySem.W.km_tabs_of Y _ (List.mem_singleton_self _)⟩) ?F
  case F =>
    intro w mg fa h KX G hmg
    refine' My.all_mk KX G hmg ?a1 ?l1 ?c1 ?k1 ?a2 ?l2 ?c2 ?k2 ?a3 ?l3 ?c3 ?k3 ?a4 ?l4 ?c4 ?k4 ?a5 ?l5 ?c5 ?k5 ?a6 ?l6 ?c6 ?k6 ?a7 ?l7 ?c7 ?k7 ?a8 ?l8 ?c8 ?k8 ?a9 ?l9 ?c9 ?k9 ?a10 ?l10 ?c10 ?k10 ?a11 ?l11 ?c11 ?k11 ?a12 ?l12 ?c12 ?k12 ?a13 ?l13 ?c13 ?k13 ?a14 ?l14 ?c14 ?k14 ?a15 ?l15 ?c15 ?k15 ?a16 ?l16 ?c16 ?k16 ?a17 ?l17 ?c17 ?k17 ?a18 ?l18 ?c18 ?k18 ?a19 ?l19 ?c19 ?k19 ?a20 ?l20 ?c20 ?k20 ?a21 ?l21 ?c21 ?k21 ?a22 ?l22 ?c22 ?k22 ?a23 ?l23 ?c23 ?k23 ?a24 ?l24 ?c24 ?k24 ?a25 ?l25 ?c25 ?k25 ?a26 ?l26 ?c26 ?k26 ?a27 ?l27 ?c27 ?k27 ?a28 ?l28 ?c28 ?k28 ?a29 ?l29 ?c29 ?k29 ?a30 ?l30 ?c30 ?k30 ?a31 ?l31 ?c31 ?k31 ?a32 ?l32 ?c32 ?k32 ?a33 ?l33 ?c33 ?k33 ?a34 ?l34 ?c34 ?k34 ?a35 ?l35 ?c35 ?k35 ?a36 ?l36 ?c36 ?k36 ?a37 ?l37 ?c37 ?k37 ?a38 ?l38 ?c38 ?k38 ?a39 ?l39 ?c39 ?k39 ?a40 ?l40 ?c40 ?k40 ?a41 ?l41 ?c41 ?k41 ?a42 ?l42 ?c42 ?k42 ?a43 ?l43 ?c43 ?k43 ?a44 ?l44 ?c44 ?k44 ?a45 ?l45 ?c45 ?k45 ?a46 ?l46 ?c46 ?k46 ?a47 ?l47 ?c47 ?k47 ?a48 ?i48 ?l48 ?c48 ?k48 ?a49 ?i49 ?l49 ?c49 ?k49 ?a50 ?i50 ?l50 ?c50 ?k50 ?aCF ?aCN ?aCC ?aCS ?xN ?eN ?sN1 ?sN2 ?sN3 ?gN1 ?gN2 ?gN3 ?gN6 ?gN7 ?gN8 ?gN9 ?xC ?eC ?sC1 ?sC2 ?sC3 ?gC1 ?gC2 ?gC3 ?gC6 ?gC7 ?gC8 ?gC9 ?xS ?eS ?sS1 ?sS2 ?sS3 ?gS1 ?gS2 ?gS3 ?gS6 ?gS7 ?gS8 ?gS9 ?eCN ?ySF ?ySV ?ySC ?g4 ?g5 ?xcd ?xkt ?xhd ?z_abs ?z_len ?z_range ?z_list ?z_tuple ?z_isinstance ?z_min ?z_max ?z_enumerate ?z_set ?z_sorted ?z_all ?z_any ?z_ValueError
    (case aCF => k_is)
    (case aCN => k_is)
    (case aCC => k_is)
    (case aCS => k_is)
    (case a1 => k_is)
    (case l1 => k_is)
    (case c1 => k_is)
    (case k1 => k_is)
    (case a2 => k_is)
    (case l2 => k_is)
    (case c2 => k_is)
    (case k2 => k_is)
    (case a3 => k_is)
    (case l3 => k_is)
    (case c3 => k_is)
    (case k3 => k_is)
    (case a4 => k_is)
    (case l4 => k_is)
    (case c4 => k_is)
    (case k4 => k_is)
    (case a5 => k_is)
    (case l5 => k_is)
    (case c5 => k_is)
    (case k5 => k_is)
    (case a6 => k_is)
    (case l6 => k_is)
    (case c6 => k_is)
    (case k6 => k_is)
    (case a7 => k_is)
    (case l7 => k_is)
    (case c7 => k_is)
    (case k7 => k_is)
    (case a8 => k_is)
    (case l8 => k_is)
    (case c8 => k_is)
    (case k8 => k_is)
    (case a9 => k_is)
    (case l9 => k_is)
    (case c9 => k_is)
    (case k9 => k_is)
    (case a10 => k_is)
    (case l10 => k_is)
    (case c10 => k_is)
    (case k10 => k_is)
    (case a11 => k_is)
    (case l11 => k_is)
    (case c11 => k_is)
    (case k11 => k_is)
    (case a12 => k_is)
    (case l12 => k_is)
    (case c12 => k_is)
    (case k12 => k_is)
    (case a13 => k_is)
    (case l13 => k_is)
    (case c13 => k_is)
    (case k13 => k_is)
    (case a14 => k_is)
    (case l14 => k_is)
    (case c14 => k_is)
    (case k14 => k_is)
    (case a15 => k_is)
    (case l15 => k_is)
    (case c15 => k_is)
    (case k15 => k_is)
    (case a16 => k_is)
    (case l16 => k_is)
    (case c16 => k_is)
    (case k16 => k_is)
    (case a17 => k_is)
    (case l17 => k_is)
    (case c17 => k_is)
    (case k17 => k_is)
    (case a18 => k_is)
    (case l18 => k_is)
    (case c18 => k_is)
    (case k18 => k_is)
    (case a19 => k_is)
    (case l19 => k_is)
    (case c19 => k_is)
    (case k19 => k_is)
    (case a20 => k_is)
    (case l20 => k_is)
    (case c20 => k_is)
    (case k20 => k_is)
    (case a21 => k_is)
    (case l21 => k_is)
    (case c21 => k_is)
    (case k21 => k_is)
    (case a22 => k_is)
    (case l22 => k_is)
    (case c22 => k_is)
    (case k22 => k_is)
    (case a23 => k_is)
    (case l23 => k_is)
    (case c23 => k_is)
    (case k23 => k_is)
    (case a24 => k_is)
    (case l24 => k_is)
    (case c24 => k_is)
    (case k24 => k_is)
    (case a25 => k_is)
    (case l25 => k_is)
    (case c25 => k_is)
    (case k25 => k_is)
    (case a26 => k_is)
    (case l26 => k_is)
    (case c26 => k_is)
    (case k26 => k_is)
    (case a27 => k_is)
    (case l27 => k_is)
    (case c27 => k_is)
    (case k27 => k_is)
    (case a28 => k_is)
    (case l28 => k_is)
    (case c28 => k_is)
    (case k28 => k_is)
    (case a29 => k_is)
    (case l29 => k_is)
    (case c29 => k_is)
    (case k29 => k_is)
    (case a30 => k_is)
    (case l30 => k_is)
    (case c30 => k_is)
    (case k30 => k_is)
    (case a31 => k_is)
    (case l31 => k_is)
    (case c31 => k_is)
    (case k31 => k_is)
    (case a32 => k_is)
    (case l32 => k_is)
    (case c32 => k_is)
    (case k32 => k_is)
    (case a33 => k_is)
    (case l33 => k_is)
    (case c33 => k_is)
    (case k33 => k_is)
    (case a34 => k_is)
    (case l34 => k_is)
    (case c34 => k_is)
    (case k34 => k_is)
    (case a35 => k_is)
    (case l35 => k_is)
    (case c35 => k_is)
    (case k35 => k_is)
    (case a36 => k_is)
    (case l36 => k_is)
    (case c36 => k_is)
    (case k36 => k_is)
    (case a37 => k_is)
    (case l37 => k_is)
    (case c37 => k_is)
    (case k37 => k_is)
    (case a38 => k_is)
    (case l38 => k_is)
    (case c38 => k_is)
    (case k38 => k_is)
    (case a39 => k_is)
    (case l39 => k_is)
    (case c39 => k_is)
    (case k39 => k_is)
    (case a40 => k_is)
    (case l40 => k_is)
    (case c40 => k_is)
    (case k40 => k_is)
    (case a41 => k_is)
    (case l41 => k_is)
    (case c41 => k_is)
    (case k41 => k_is)
    (case a42 => k_is)
    (case l42 => k_is)
    (case c42 => k_is)
    (case k42 => k_is)
    (case a43 => k_is)
    (case l43 => k_is)
    (case c43 => k_is)
    (case k43 => k_is)
    (case a44 => k_is)
    (case l44 => k_is)
    (case c44 => k_is)
    (case k44 => k_is)
    (case a45 => k_is)
    (case l45 => k_is)
    (case c45 => k_is)
    (case k45 => k_is)
    (case a46 => k_is)
    (case l46 => k_is)
    (case c46 => k_is)
    (case k46 => k_is)
    (case a47 => k_is)
    (case l47 => k_is)
    (case c47 => k_is)
    (case k47 => k_is)
    (case a48 => k_is)
    (case i48 => k_is)
    (case l48 => k_is)
    (case c48 => k_is)
    (case k48 => k_is)
    (case a49 => k_is)
    (case i49 => k_is)
    (case l49 => k_is)
    (case c49 => k_is)
    (case k49 => k_is)
    (case a50 => k_is)
    (case i50 => k_is)
    (case l50 => k_is)
    (case c50 => k_is)
    (case k50 => k_is)
    (case xN => kernel_rfl)
    (case eN => kernel_rfl)
    (case sN1 => first | k_is | kernel_rfl)
    (case sN2 => kernel_rfl)
    (case sN3 => first | k_is | kernel_rfl)
    (case gN1 => first | k_is | kernel_rfl)
    (case gN2 => first | k_is | kernel_rfl)
    (case gN3 => first | k_is | kernel_rfl)
    (case gN6 => first | k_is | kernel_rfl)
    (case gN7 => first | k_is | kernel_rfl)
    (case gN8 => first | k_is | kernel_rfl)
    (case gN9 => kernel_rfl)
    (case xC => kernel_rfl)
    (case eC => kernel_rfl)
    (case sC1 => first | k_is | kernel_rfl)
    (case sC2 => kernel_rfl)
    (case sC3 => first | k_is | kernel_rfl)
    (case gC1 => first | k_is | kernel_rfl)
    (case gC2 => first | k_is | kernel_rfl)
    (case gC3 => first | k_is | kernel_rfl)
    (case gC6 => first | k_is | kernel_rfl)
    (case gC7 => first | k_is | kernel_rfl)
    (case gC8 => first | k_is | kernel_rfl)
    (case gC9 => kernel_rfl)
    (case xS => kernel_rfl)
    (case eS => kernel_rfl)
    (case sS1 => first | k_is | kernel_rfl)
    (case sS2 => kernel_rfl)
    (case sS3 => first | k_is | kernel_rfl)
    (case gS1 => first | k_is | kernel_rfl)
    (case gS2 => first | k_is | kernel_rfl)
    (case gS3 => first | k_is | kernel_rfl)
    (case gS6 => first | k_is | kernel_rfl)
    (case gS7 => first | k_is | kernel_rfl)
    (case gS8 => first | k_is | kernel_rfl)
    (case gS9 => kernel_rfl)
    (case eCN => kernel_rfl)
    (case ySF => kernel_rfl)
    (case ySV => kernel_rfl)
    (case ySC => kernel_rfl)
    (case g4 => first | k_is | kernel_rfl)
    (case g5 => first | k_is | kernel_rfl)
    (case xcd => rfl)
    (case xkt => kernel_rfl)
    (case xhd => kernel_rfl)
    (case z_abs => k_is)
    (case z_len => k_is)
    (case z_range => k_is)
    (case z_list => k_is)
    (case z_tuple => k_is)
    (case z_isinstance => k_is)
    (case z_min => k_is)
    (case z_max => k_is)
    (case z_enumerate => k_is)
    (case z_set => k_is)
    (case z_sorted => k_is)
    (case z_all => k_is)
    (case z_any => k_is)
    (case z_ValueError => k_is)
