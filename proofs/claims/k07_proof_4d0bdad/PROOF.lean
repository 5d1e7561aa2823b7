import PyProof.Rows.All
import Wide.All
import OpenK.AllK
import Wide.FinOn
import Lean
import PyProof.EqAt
import PyProof.EqKinds
import PyProof.TupleCall
import PySem.Challenge.RW_currentfloor_k07_texts_refused
noncomputable section
set_option Elab.async false
set_option linter.all false
set_option maxRecDepth 100000
namespace L2
open PySem PySem.Spec PyProof.Rows
abbrev Key:=Sum Int Str
def keyIs:Key->Value->Bool
 | .inl k,v=>Value.isInt k v
 | .inr x,v=>Value.isStrOf x v
def keyH(w:World):Key->Int
 | .inl k=>hashInt k
 | .inr x=>hashStr w x
theorem zb2:∀{k:Key} {v:Value},keyIs k v=true->(∃i t,k=Sum.inl i/\v=Value.int i t)\/(∃x t,k=Sum.inr x/\v=Value.str x t)
 | .inl i,v,h=>by
  obtain⟨t,e⟩:=Value.isInt_shape (k:=i) (v:=v) h;exact .inl ⟨i,t,rfl,e⟩
 | .inr x,v,h=>by
  obtain⟨t,e⟩:=Value.isStrOf_shape (x:=x) (v:=v) h;exact .inr ⟨x,t,rfl,e⟩
theorem zmq(i:Int)(t:Tok):keyIs (.inl i) (.int i t)=true:=by simp[keyIs,Value.isInt]
theorem zmp(x:Str)(t:Tok):keyIs (.inr x) (.str x t)=true:=by simp[keyIs,Value.isStrOf]
theorem key_ll(a b:Int):decide ((Sum.inl a:Key)=Sum.inl b)=(a == b):=by
 by_cases e:a=b
 ·subst e; simp
 ·have h:¬(Sum.inl a:Key)=Sum.inl b:=fun q=>e (Sum.inl.inj q)
  rw[decide_eq_false h];exact(beq_eq_false_iff_ne.mpr e).symm
theorem key_rr(a b:Str):decide ((Sum.inr a:Key)=Sum.inr b)=decide (a=b):=by
 by_cases e:a=b
 ·subst e; simp
 ·have h:¬(Sum.inr a:Key)=Sum.inr b:=fun q=>e (Sum.inr.inj q)
  rw[decide_eq_false h,decide_eq_false e]
theorem key_lr(a:Int)(b:Str):decide ((Sum.inl a:Key)=Sum.inr b)=false:=decide_eq_false (fun q=>nomatch q)
theorem key_rl(a:Str)(b:Int):decide ((Sum.inr a:Key)=Sum.inl b)=false:=decide_eq_false (fun q=>nomatch q)
def mixKind(prog:Program)(w:World):PySem.KeyKind prog w Key where
 is:=keyIs
 hash:=keyH w
 inj:=fun v a b ha hb=>by
  rcases zb2 ha with ⟨i,t,rfl,rfl⟩ | ⟨x,t,rfl,rfl⟩
  ·rcases zb2 hb with ⟨j,u,rfl,e⟩ | ⟨y,u,rfl,e⟩
   ·injection e with e1 _; rw[e1]
   ·exact nomatch e
  ·rcases zb2 hb with ⟨j,u,rfl,e⟩ | ⟨y,u,rfl,e⟩
   ·exact nomatch e
   ·injection e with e1 _; rw[e1]
 byValue:=fun k v h=>by
  rcases zb2 h with ⟨i,t,rfl,rfl⟩ | ⟨x,t,rfl,rfl⟩ <;> rfl
 pyHash:=fun hv h=>by
  rcases zb2 hv with ⟨i,t,rfl,rfl⟩ | ⟨x,t,rfl,rfl⟩
  ·exact wpAny_pyHash_int h
  ·exact wpAny_pyHash_str h
 eqBool:=fun hu hv h=>by
  rcases zb2 hu with ⟨i,t,rfl,rfl⟩ | ⟨x,t,rfl,rfl⟩
  ·rcases zb2 hv with ⟨j,u,rfl,rfl⟩ | ⟨y,u,rfl,rfl⟩
   ·rw[key_ll] at h; exact wpAny_eqBool_int h
   ·rw[key_lr] at h; exact SeqAt.EqAt.int_str i t y u _ _ _ _ h
  ·rcases zb2 hv with ⟨j,u,rfl,rfl⟩ | ⟨y,u,rfl,rfl⟩
   ·rw[key_rl] at h; exact SeqAt.EqAt.str_int x t j u _ _ _ _ h
   ·rw[key_rr] at h; exact wpAny_eqBool_str h
 «strs»:=fun k x t v h=>by
  rcases zb2 h with ⟨i,u,rfl,e⟩ | ⟨y,u,rfl,e⟩
  ·exact nomatch e
  ·injection e with e1 _
   subst e1;cases v <;> rfl
theorem zis(prog:Program)(w:World)(i:Int)(t:Tok):(mixKind prog w).is (.inl i) (.int i t)=true:=zmq i t
theorem zir(prog:Program)(w:World)(x:Str)(t:Tok):(mixKind prog w).is (.inr x) (.str x t)=true:=zmp x t
inductive V where
 | non | bl (b:Bool) | int (i:Int) | str (x:Str) | byt (b:Array UInt8) | flt (b:UInt64) | ref (a:Addr) | ty (n:String)
 deriving DecidableEq
def RelV:V->Value->Prop
 | .non,u=>u=Value.none
 | .bl b,u=>u=Value.bool b
 | .int i,u=>∃t,u=Value.int i t
 | .str x,u=>∃t,u=Value.str x t
 | .byt b,u=>∃t,u=Value.bytes b t
 | .flt b,u=>∃t,u=Value.float b t
 | .ref a,u=>u=Value.ref a
 | .ty n,u=>u=Value.type n
abbrev Vals:List V->List Value->Prop:=Paired RelV
theorem Vals.length{xs:List V}{us:List Value}(r:Vals xs us):xs.length=us.length:=Paired.length r
theorem Vals.get:∀{xs:List V} {us:List Value} {i:Nat} {x:V},Vals xs us->xs[i]?=some x->∃u,us[i]?=some u/\RelV x u
 | _,_,_,_,.nil,e=>by simp at e
 | _,_,0,_,.cons r _,e=>by simp at e; subst e; exact⟨_,rfl,r⟩
 | _,_,i+1,x,.cons _ t,e=>by
  obtain⟨u,h1,h2⟩:=Vals.get (i:=i) (x:=x) t (by simpa using e);exact⟨u,by simpa using h1,h2⟩
theorem Vals.set{x:V}{u:Value}(r:RelV x u):∀{xs:List V} {us:List Value} (i:Nat),Vals xs us->Vals (xs.set i x) (us.set i u)
 | _,_,_,.nil=>.nil
 | _,_,0,.cons _ t=>.cons r t
 | _,_,i+1,.cons q t=>.cons q (Vals.set r i t)
theorem Vals.append:∀{xs ys:List V} {us ws:List Value},Vals xs us->Vals ys ws->Vals (xs++ys) (us++ws)
 | _,_,_,_,.nil,s=>s
 | _,_,_,_,.cons r t,s=>.cons r (Vals.append t s)
theorem Vals.take:∀{xs:List V} {us:List Value} (n:Nat),Vals xs us->Vals (xs.take n) (us.take n)
 | _,_,0,_=>.nil
 | _,_,_+1,.nil=>.nil
 | _,_,n+1,.cons r t=>.cons r (Vals.take n t)
theorem Vals.drop:∀{xs:List V} {us:List Value} (n:Nat),Vals xs us->Vals (xs.drop n) (us.drop n)
 | _,_,0,r=>r
 | _,_,_+1,.nil=>.nil
 | _,_,n+1,.cons _ t=>Vals.drop n t
def RelO:Option V->Option Value->Prop
 | some v,some u=>RelV v u
 | none,none=>True
 | _,_=>False
def KV{κ:Type}:List (κ×V)->List (κ×Value)->Prop:=Paired fun (p:κ×V) (q:κ×Value)=>p.1=q.1/\RelV p.2 q.2
def kV:Key->V
 | .inl i=>.int i
 | .inr x=>.str x
inductive HO where
  | lst (xs:List V)
  | tup (xs:List V)
  | dK (kvs:List (Key×V)) | dT (kvs:List (List Key×V))
  | set (S:Int->Bool) (n:Nat)
  | ins (C dx:Addr) (fs:List (Str×V))
  | own (x:Addr)
  | xd (fs:List (Str×V))
  | met (f x:Addr)
  | rng (lo hi:Int)
  | frz (o:Obj) (u:HO)
  | tbl (ps:Array Value)
  | ext (φ:Heap->Prop)
abbrev Hp:=Addr->Option HO
def upd(H:Hp)(a:Addr)(o:HO):Hp:=fun b=>if b=a then some o else H b
theorem za1{H:Hp}{a:Addr}{o:HO}:upd H a o a=some o:=by unfold upd; rw[if_pos rfl]
theorem upd_ne{H:Hp}{a b:Addr}{o:HO}(h:b≠a):upd H a o b=H b:=by unfold upd; rw[if_neg h]
theorem ne_of{H:Hp}{a b:Addr}{o u:HO}(h:H a=some o)(h':H b=some u)(d:o≠u):a≠b:=by
 intro e; subst e; rw[h] at h'; exact d (Option.some.inj h')
theorem ne_of_none{H:Hp}{a b:Addr}{o:HO}(h:H a=some o)(h':H b=none):a≠b:=by
 intro e; subst e; rw[h] at h'; cases h'
section
variable (P:Program) (w:World)
def ObjOk(H:Hp)(h:Heap)(a:Addr):HO->Prop
 | .lst xs=>xs.length<=sizeLine/\∃(its:List Value) (n:Nat),Vals xs its/\h.get? a=some { cls:=.type "list",data:=.seq its.toArray n }
 | .tup xs=>xs.length<=sizeLine/\∃its:List Value,Vals xs its/\IsTup h a its.toArray/\∃o,h.get? a=some o/\o.dict=none
 | .dK kvs=>kvs.length<=sizeLine/\(a == sysModules)=false/\∃vs,KV kvs vs/\h.DictOf (mixKind P w) a vs
 | .dT kvs=>kvs.length<=sizeLine/\(a == sysModules)=false/\∃xs:List (List Key×Addr×Value),
   Paired (fun (p:List Key×V) (q:List Key×Addr×Value)=>p.1=q.1/\H q.2.1=some (.tup (p.1.map kV))/\RelV p.2 q.2.2) kvs xs /\
   ∃o es ep,h.get? a=some o/\o.ExactDict/\o.data=.dict es ep/\es.toList=xs.map (entryOfKey (tupleKind (mixKind P w)))/\(xs.map (·.1)).Nodup
 | .set S n=>h.SetOf (intKind P w) a S n
 | .ins C dx fs=>H dx=some (.own a)/\fs.length<=1000/\dx≠a/\h.get? a=some (PySem.W.instObj C dx) /\
   ∃mA,h.Ns1 dx mA/\(∀f,RelO (fs.lookup f) (mA f))/\PySem.Within mA (fs.map (·.1))
 | .own _=>∃o,h.get? a=some o
 | .xd fs=>∃mA,h.Ns1 a mA/\∀f,RelO (fs.lookup f) (mA f)
 | .rng lo hi=>∃t u v,h.get? a=some { cls:=.type "range",data:=.fields #[.int lo t,.int hi u,.int 1 v] }
 | .frz o u=>h.get? a=some o/\ObjOk H h a u
 | .tbl ps=>h.get? a=some { cls:=.none,data:=.fields ps }
 | .met f x=>h.get? a=some (PySem.W.methodObj (.ref f) (.ref x))
 | .ext φ=>φ h/\(∃o,h.get? a=some o)/\∀h1 h2:Heap,φ h1->(∀o,h1.get? a=some o->h2.get? a=some o)->φ h2
def HOk(H:Hp)(h:Heap):Prop:=∀a o,H a=some o->ObjOk P w H h a o
end
section
variable {P:Program} {w:World} {H H':Hp} {h h':Heap} {a:Addr} {o:HO}
theorem ObjOk.lt(x:ObjOk P w H h a o):a<h.objs.size:=by
 cases o with
 | lst xs=>obtain⟨_,_,_,_,e⟩:=x; exact Heap.lt_size e
 | tup xs=>obtain⟨_,_,_,p,_⟩:=x; exact p.lt
 | dK kvs=>obtain⟨_,_,_,_,o,_,_,e,_⟩:=x; exact Heap.lt_size e
 | dT kvs=>obtain⟨_,_,_,_,o,_,_,e,_⟩:=x; exact Heap.lt_size e
 | set S n=>obtain⟨o,_,_,_,e,_⟩:=x; exact Heap.lt_size e
 | ins C dx fs=>obtain⟨_,_,_,e,_⟩:=x; exact Heap.lt_size e
 | own y=>obtain⟨_,e⟩:=x; exact Heap.lt_size e
 | xd fs=>obtain⟨_,⟨_,_,_,e,_⟩,_⟩:=x; exact Heap.lt_size e
 | rng lo hi=>obtain⟨_,_,_,e⟩:=x; exact Heap.lt_size e
 | frz ob u=>obtain⟨e,_⟩:=x; exact Heap.lt_size e
 | tbl ps=>exact Heap.lt_size (show h.get? a=some _ from x)
 | met f y=>exact Heap.lt_size (show h.get? a=some _ from x)
 | ext φ=>obtain⟨_,⟨_,e⟩,_⟩:=x; exact Heap.lt_size e
theorem Paired.mapP{α β:Type}{F G:α->β->Prop}:∀{l₁:List α} {l₂:List β},Paired F l₁ l₂->(∀a b,F a b->G a b)->Paired G l₁ l₂
 | _,_,.nil,_=>.nil
 | _,_,.cons r t,f=>.cons (f _ _ r) (Paired.mapP t f)
theorem ObjOk.stay (x:ObjOk P w H h a o) (k:∀b u,(b=a\/H b=some (.own a))->h.get? b=some u->h'.get? b=some u)
  (ho:∀b,H b=some (.own a)->H' b=some (.own a)) (ht:∀b xs,H b=some (.tup xs)->H' b=some (.tup xs)):ObjOk P w H' h' a o:=by
 induction o with
 | lst xs=>obtain⟨z,its,n,r,e⟩:=x; exact⟨z,its,n,r,k _ _ (.inl rfl) e⟩
 | tup xs=>obtain⟨z,its,r,⟨ob,e,c⟩,ob2,e2,c2⟩:=x; exact⟨z,its,r,⟨ob,k _ _ (.inl rfl) e,c⟩,ob2,k _ _ (.inl rfl) e2,c2⟩
 | dK kvs=>obtain⟨z,y,vs,r,ob,es,ep,e,c⟩:=x; exact⟨z,y,vs,r,ob,es,ep,k _ _ (.inl rfl) e,c⟩
 | dT kvs =>
  obtain⟨z,y,xs,r,ob,es,ep,e,c⟩:=x;exact⟨z,y,xs,Paired.mapP r fun p q z=>⟨z.1,ht _ _ z.2.1,z.2.2⟩,ob,es,ep,k _ _ (.inl rfl) e,c⟩
 | set S n=>obtain⟨ob,es,ep,t,e,c⟩:=x; exact⟨ob,es,ep,t,k _ _ (.inl rfl) e,c⟩
 | ins C dx fs =>
  obtain⟨d,z,ne,e,mA,⟨od,es,ep,e2,c⟩,r⟩:=x;exact⟨ho _ d,z,ne,k _ _ (.inl rfl) e,mA,⟨od,es,ep,k _ _ (.inr d) e2,c⟩,r⟩
 | own y=>obtain⟨ob,e⟩:=x; exact⟨ob,k _ _ (.inl rfl) e⟩
 | xd fs=>obtain⟨mA,⟨od,es,ep,e,c⟩,r⟩:=x; exact⟨mA,⟨od,es,ep,k _ _ (.inl rfl) e,c⟩,r⟩
 | rng lo hi=>obtain⟨t,u,v,e⟩:=x; exact⟨t,u,v,k _ _ (.inl rfl) e⟩
 | frz ob u ih=>obtain⟨e,q⟩:=x; exact⟨k _ _ (.inl rfl) e,ih q⟩
 | tbl ps =>
  have e:h.get? a=some { cls:=.none,data:=.fields ps }:=x;show h'.get? a=some { cls:=.none,data:=.fields ps };exact k a _ (.inl rfl) e
 | met f y =>
  have e:h.get? a=some (PySem.W.methodObj (.ref f) (.ref y)):=x;show h'.get? a=some (PySem.W.methodObj (.ref f) (.ref y));exact k a _ (.inl rfl) e
 | ext φ=>obtain⟨p,⟨o,e⟩,st⟩:=x; exact⟨st _ _ p fun o q=>k _ _ (.inl rfl) q,⟨o,k _ _ (.inl rfl) e⟩,st⟩
theorem HOk.lt(x:HOk P w H h)(e:H a=some o):a<h.objs.size:=(x a o e).lt
theorem HOk.fresh(x:HOk P w H h)(e:h.objs.size<=a):H a=none:=by
 cases q:H a with
 | none=>rfl
 | some u=>exact absurd (Nat.lt_of_lt_of_le (x.lt q) e) (Nat.lt_irrefl _)
theorem HOk.kept(x:HOk P w H h)(k:∀b u,h.get? b=some u->h'.get? b=some u):HOk P w H h':=fun a o e =>
 (x a o e).stay (fun b u _ q=>k b u q) (fun _ q=>q) fun _ _ q=>q
theorem HOk.laid(x:HOk P w H h)(k:∀b u,h.get? b=some u->h'.get? b=some u)(hp:h.objs.size<=a)(new:ObjOk P w (upd H a o) h' a o):HOk P w (upd H a o) h':=fun b u e=>by
 have hn:=x.fresh hp;by_cases hb:b=a
 ·subst hb; rw[za1] at e; cases e; exact new
 ·rw[upd_ne hb] at e;exact(x b u e).stay (fun c v _ q=>k c v q) (fun c q=>by rw[upd_ne (ne_of_none q hn)]; exact q) fun c xs q=>by rw[upd_ne (ne_of_none q hn)]; exact q
end
def Rd(H:Hp)(a:Addr)(u:HO):Prop:=H a=some u\/∃o,H a=some (.frz o u)
theorem Rd.of{H:Hp}{a:Addr}{u:HO}(h:H a=some u):Rd H a u:=.inl h
theorem Rd.ok{P:Program}{w:World}{H:Hp}{h:Heap}{a:Addr}{u:HO}(r:Rd H a u)(x:HOk P w H h):ObjOk P w H h a u:=by
 rcases r with r | ⟨o,r⟩
 ·exact x a u r
 ·obtain⟨_,q⟩:=x a _ r;exact q
def Mut:Option HO->Prop
 | some (.lst _)=>True
 | some (.dK _)=>True
 | some (.dT _)=>True
 | some (.set _ _)=>True
 | some (.ins _ _ _)=>True
 | some (.ext _)=>True
 | _=>False
section
variable {P:Program} {w:World} {H:Hp} {h h':Heap} {x e:Addr} {o':HO}
theorem HOk.write (ok:HOk P w H h) (mu:Mut (H x)) (he:e=x\/H e=some (.own x)) (k:∀b u,b≠e->h.get? b=some u->h'.get? b=some u) (heo:∃u,h'.get? e=some u)
  (new:ObjOk P w (upd H x o') h' x o'):HOk P w (upd H x o') h':=fun b u q=>by
 have nown:∀c y,H c=some (.own y)->c≠x:=fun c y r z=>by subst z; rw[r] at mu; exact mu
 have ntup:∀c xs,H c=some (.tup xs)->c≠x:=fun c xs r z=>by subst z; rw[r] at mu; exact mu
 by_cases hb:b=x
 ·subst hb; rw[za1] at q; cases q; exact new
 ·rw[upd_ne hb] at q;by_cases hbe:b=e
  ·have q':H b=some (.own x):=by
    rcases he with z | z
    ·exact absurd (hbe.trans z) hb
    ·rw[hbe]; exact z
   rw[q] at q'; cases q';obtain⟨v,hv⟩:=heo;exact⟨v,by rw[hbe]; exact hv⟩
  ·refine(ok b u q).stay (fun c v hc r=>k c v ?_ r) (fun c r=>by rw[upd_ne (nown c b r)]; exact r) fun c xs r=>by rw[upd_ne (ntup c xs r)]; exact r
   rcases hc with rfl | hc
   ·exact hbe
   ·rintro rfl;rcases he with z | z
    ·exact nown c b hc z
    ·rw[hc] at z; cases z; exact hb rfl
end
structure Un(fs ex:List Addr)(H H':Hp)(h h':Heap):Prop where
 keep:∀b o,h.get? b=some o->H b=none->b∉fs->b∉ex->h'.get? b=some o
 slot:∀b o,h.get? b=some o->H b=none->b∈fs->b∉ex->∃sl,h'.get? b=some { o with slots:=sl }
 free:∀b o,h.get? b=some o->H b=none->b∉ex->H' b=none
 there:∀b o,h.get? b=some o->b∉ex->∃o',h'.get? b=some o'
 tups:∀b xs,H b=some (.tup xs)->H' b=some (.tup xs)
 frzs:∀b o u,H b=some (.frz o u)->H' b=some (.frz o u)
 tbls:∀b ps,H b=some (.tbl ps)->∃more,H' b=some (.tbl (ps++more))
section
variable {fs fs' ex ex':List Addr} {H H1 H2:Hp} {h h1 h2 h':Heap} {a x e:Addr} {o:HO}
theorem Un.any(u:Un fs ex H H1 h h1){b:Addr}{ob:Obj}(q:h.get? b=some ob)(n:H b=none)(hx:b∉ex):∃sl,h1.get? b=some { ob with slots:=sl }:=by
 by_cases hb:b∈fs
 ·exact u.slot b ob q n hb hx
 ·exact⟨ob.slots,u.keep b ob q n hb hx⟩
theorem Un.trans(a:Un fs ex H H1 h h1)(b:Un fs ex H1 H2 h1 h2):Un fs ex H H2 h h2 where
 keep:=fun c ob q n hc hx=>b.keep c ob (a.keep c ob q n hc hx) (a.free c ob q n hx) hc hx
 slot:=fun c ob q n hc hx=>by
  obtain⟨sl,e1⟩:=a.slot c ob q n hc hx;obtain⟨sl',e2⟩:=b.slot c _ e1 (a.free c ob q n hx) hc hx;exact⟨sl',e2⟩
 free:=fun c ob q n hx=>by
  obtain⟨o',e1⟩:=a.there c ob q hx;exact b.free c o' e1 (a.free c ob q n hx) hx
 there:=fun c ob q hx=>by
  obtain⟨o',e1⟩:=a.there c ob q hx;exact b.there c o' e1 hx
 tups:=fun c xs q=>b.tups c xs (a.tups c xs q)
 frzs:=fun c ob xs q=>b.frzs c ob xs (a.frzs c ob xs q)
 tbls:=fun c ps q=>by
  obtain⟨m1,e1⟩:=a.tbls c ps q;obtain⟨m2,e2⟩:=b.tbls c _ e1;exact⟨m1++m2,by rw[e2,Array.append_assoc]⟩
theorem Un.kept(k:∀b u,h.get? b=some u->h'.get? b=some u):Un fs ex H H h h' :=
 ⟨fun b ob q _ _ _=>k b ob q,fun b ob q _ _ _=>⟨ob.slots,k b ob q⟩,fun _ _ _ n _=>n,fun b ob q _=>⟨ob,k b ob q⟩,fun _ _ q=>q,fun _ _ _ q=>q,fun _ ps q=>⟨#[],by rw[q]; simp⟩⟩
theorem Un.refl:Un fs ex H H h h:=Un.kept fun _ _ q=>q
theorem Un.laid(k:∀b u,h.get? b=some u->h'.get? b=some u)(hp:h.objs.size<=a)(hn:H a=none):Un fs ex H (upd H a o) h h' where
 keep:=fun b u q _ _ _=>k b u q
 slot:=fun b u q _ _ _=>⟨u.slots,k b u q⟩
 free:=fun b u q n _=>by rw[upd_ne (Nat.ne_of_lt (Nat.lt_of_lt_of_le (Heap.lt_size q) hp))]; exact n
 there:=fun b u q _=>⟨u,k b u q⟩
 tups:=fun b xs q=>by rw[upd_ne (ne_of_none q hn)]; exact q
 frzs:=fun b u xs q=>by rw[upd_ne (ne_of_none q hn)]; exact q
 tbls:=fun b ps q=>⟨#[],by rw[upd_ne (ne_of_none q hn),q]; simp⟩
theorem Un.write(mu:Mut (H x))(he:e=x\/H e=some (.own x))(k:∀b u,b≠e->h.get? b=some u->h'.get? b=some u)(heo:∃u,h'.get? e=some u):Un fs ex H (upd H x o) h h':=by
 have hx:∀b,H b=none->b≠x:=fun b n z=>by subst z; rw[n] at mu; exact mu
 have hb:∀b,H b=none->b≠e:=fun b n z=>by
  subst z;rcases he with r | r
  ·exact hx b n r
  ·rw[n] at r; cases r
 have hm:∀b u,H b=some u->¬Mut (some u)->b≠x:=fun b u q nm z=>by subst z; rw[q] at mu; exact nm mu
 refine⟨fun b u q n _ _=>k b u (hb b n) q,fun b u q n _ _=>⟨u.slots,k b u (hb b n) q⟩,fun b u q n _=>by rw[upd_ne (hx b n)]; exact n,fun b u q _=>?_,
  fun b xs q=>by rw[upd_ne (hm b _ q fun z=>z)]; exact q,fun b u xs q=>by rw[upd_ne (hm b _ q fun z=>z)]; exact q,fun b ps q=>⟨#[],by rw[upd_ne (hm b _ q fun z=>z),q]; simp⟩⟩
 by_cases hbe:b=e
 ·subst hbe; exact heo
 ·exact⟨u,k b u hbe q⟩
theorem Un.mono(u:Un fs ex H H1 h h1)(hs:∀b∈fs,b∈fs')(hx:∀b∈ex,b∈ex'):Un fs' ex' H H1 h h1 :=
 ⟨fun b ob q n hb he=>u.keep b ob q n (fun z=>hb (hs b z)) fun z=>he (hx b z),fun _ _ q n _ he=>u.any q n fun z=>he (hx _ z),fun b ob q n he=>u.free b ob q n fun z=>he (hx b z),fun b ob q he=>u.there b ob q fun z=>he (hx b z),u.tups,u.frzs,u.tbls⟩
end
def trk(h:Heap)(H:Hp):List Addr:=(List.range h.objs.size).filter fun a=>(H a).isSome
def hidT(h:Heap)(H:Hp):Heap:=PySem.W.hideAll h (trk h H)
theorem zhv(h:Heap)(H:Hp):(hidT h H).objs.size=h.objs.size:=PySem.W.hideAll_size _ _
theorem zjy{h:Heap}{H:Hp}{b:Addr}{o:Obj}(e:h.get? b=some o)(n:H b=none):(hidT h H).get? b=some o :=
 PySem.W.hideAll_get _ e fun hm=>by
  have q:(H b).isSome=true:=(List.mem_filter.mp hm).2;rw[n] at q; simp at q
theorem zm4{h:Heap}{H:Hp}{b:Addr}{o:Obj}(e:(hidT h H).get? b=some o):h.get? b=some o/\H b=none:=by
 have e':h.get? b=some o:=PySem.W.of_hideAll (trk h H) e;refine⟨e',?_⟩;cases q:H b with
 | none=>rfl
 | some x =>
  have hm:b∈trk h H:=List.mem_filter.mpr ⟨List.mem_range.mpr (Heap.lt_size e'),by simp[q]⟩;have z:(hidT h H).get? b=none:=PySem.W.hideAll_none (trk h H) hm;rw[z] at e; cases e
def allNews(g h:Heap)(L:Addr):List (Addr×Obj):=(List.range h.objs.size).filterMap fun a=>if a=L\/(g.get? a).isSome=true then none else (h.get? a).map fun o=>(a,o)
def rest(g h:Heap)(L d:Addr):List (Addr×Obj):=(allNews g h L).filter fun p=>decide (p.1≠d)
structure Mod(K:PySem.W.Frag)(mg:Str->Option Value)(base:Heap):Prop where
 kin:K.In base
 glob:base.Ns mainGlobals mg
 blt:∃mb,base.Ns builtinsNs mb/\∀x:Str,x≠"__name__"->mb x=bootBuiltins x
 nolimit:base.NoLimit
structure Cx where
 prog:Program
 w:World
 K:PySem.W.Frag
 mg:Str->Option Value
 base:Heap
 A:Around
 N:List Str
 s₀:Shared
 H₀:Hp
 env:Env
 outer:List Env
 stack:List Env
 ex:List Addr
 fn:Str->Bool
 calm:Bool
 pn:List (Addr×Obj)
 xe:Value->Shared->Prop
def frs(l:List Env):List Addr:=l.filterMap (·.frame)
abbrev Cx.fs(X:Cx):List Addr:=frs X.outer
def Vis(sc:Scope)(x:Str):Prop:=sc.names.lookup x=some .local\/sc.names.lookup x=some .cell\/sc.names.lookup x=some .free
def Loc(sc:Scope)(x:Str):Prop:=sc.names.lookup x=some .local\/sc.names.lookup x=some .cell
def Look(env:Env)(h:Heap)(m:Str->Option Value)(x:Str)(u:Value):Prop :=
 (env.kindOf x=some .local/\m x=some u)\/((env.kindOf x=some .cell\/env.kindOf x=some .free)/\∃c,env.cells.lookup x=some c/\h.IsCell c (some u))
structure Cx.Ok(X:Cx):Prop where
 mod:Mod X.K X.mg X.base
 kind:X.env.scope.kind=.function
 glob:X.env.globals=mainGlobals
 blt:X.env.builtins=builtinsNs
 above:X.s₀.heap.objs.size<=X.env.locals
 inj:∀x y c,X.env.cells.lookup x=some c->X.env.cells.lookup y=some c->x=y
 has:∀x,(X.env.kindOf x=some .cell\/X.env.kindOf x=some .free)->∃c,X.env.cells.lookup x=some c
 cab:∀x c,X.fn x=true->X.env.cells.lookup x=some c->X.s₀.heap.objs.size<=c
 hd:X.calm=true->X.A.handled=none
 frames:X.A.frames=some X.stack
 stk:X.stack=X.outer\/(X.stack=X.env :: X.outer/\X.env.frame=some X.env.locals)
 exf:∀b∈X.ex,b≠X.env.locals/\∀x c,X.env.cells.lookup x=some c->c≠b
 bs:∀b o,X.base.get? b=some o->X.s₀.heap.get? b=some o/\X.H₀ b=none
 bsz:X.base.objs.size<=X.s₀.heap.objs.size
 noex:∀b o,X.base.get? b=some o->b∉X.ex
 exfs:∀b∈X.ex,b∉X.fs
 funs:X.s₀.heap.FunFrames X.base X.outer
 frf:∀b∈X.fs,X.H₀ b=none
structure Inv(X:Cx)(pins:List (Addr×Obj))(σ:List (Option V))(H:Hp)(s:Shared):Prop where
 ok:X.Ok
 os:s.os=X.s₀.os
 bare:AllBare s.gens
 base:Un X.fs X.ex X.H₀ H X.s₀.heap s.heap
 loc:∃m,s.heap.Ns X.env.locals m/\∀(i:Nat) (x:Str) (v:V),X.N[i]?=some x->σ[i]?=some (some v)->Vis X.env.scope x->∃u,RelV v u/\Look X.env s.heap m x u
 cell:∀x c,X.env.cells.lookup x=some c->∃v,s.heap.IsCell c v
 free:H X.env.locals=none
 freeC:∀x c,X.env.cells.lookup x=some c->H c=none
 pin:∀p∈X.pn++pins,s.heap.get? p.1=some p.2/\H p.1=none/\p.1≠X.env.locals/\p.1∉X.fs/\∀v,p.2.data≠.cell v
 hok:HOk X.prog X.w H s.heap
 len:σ.length=X.N.length
section
variable {X:Cx} {pins:List (Addr×Obj)} {σ:List (Option V)} {H H':Hp} {s:Shared} {h':Heap}
theorem Cx.Ok.nofr(ok:X.Ok){b:Addr}{o:Obj}(e:X.base.get? b=some o):b∉X.fs:=fun hb=>by
 have:=(ok.funs.mem hb).1
 rw[e] at this; cases this
theorem Inv.bs(I:Inv X pins σ H s):∀b o,X.base.get? b=some o->s.heap.get? b=some o/\H b=none:=fun b o e =>
 ⟨I.base.keep b o (I.ok.bs b o e).1 (I.ok.bs b o e).2 (I.ok.nofr e) (I.ok.noex b o e),I.base.free b o (I.ok.bs b o e).1 (I.ok.bs b o e).2 (I.ok.noex b o e)⟩
theorem Inv.bk(I:Inv X pins σ H s):∀b o,X.base.get? b=some o->s.heap.get? b=some o:=fun b o e=>(I.bs b o e).1
theorem Inv.mod(I:Inv X pins σ H s):Mod X.K X.mg X.base:=I.ok.mod
theorem Inv.kIn(I:Inv X pins σ H s):X.K.In s.heap:=I.ok.mod.kin.keeps I.bk
theorem Inv.nolimit(I:Inv X pins σ H s):s.heap.NoLimit:=I.ok.mod.nolimit.keeps I.bk
theorem Inv.fr(I:Inv X pins σ H s):∃m,Fr X.base X.env.locals s.heap m :=
 let ⟨m,hn,_⟩:=I.loc
 ⟨m,hn,I.bk,Nat.le_trans I.ok.bsz I.ok.above⟩
theorem Inv.lt(I:Inv X pins σ H s):X.env.locals<s.heap.objs.size:=let ⟨_,hn,_⟩:=I.loc; hn.lt
theorem Inv.sz(I:Inv X pins σ H s):X.s₀.heap.objs.size<=s.heap.objs.size:=Nat.le_trans I.ok.above (Nat.le_of_lt I.lt)
theorem Inv.nofs(I:Inv X pins σ H s){a:Addr}(h:s.heap.objs.size<=a):a∉X.fs:=fun hb=>by
 obtain⟨_,o,ho,_⟩:=I.ok.funs.mem hb;exact absurd (Nat.lt_of_lt_of_le (Heap.lt_size ho) (Nat.le_trans I.sz h)) (Nat.lt_irrefl _)
theorem Inv.cne(I:Inv X pins σ H s):∀x c,X.env.cells.lookup x=some c->c≠X.env.locals:=fun x c e z=>by
 obtain⟨v,o,ho,hd⟩:=I.cell x c e;obtain⟨m,⟨o',es,ep,ho',hd',_⟩,_⟩:=I.loc;rw[z,ho'] at ho; cases ho; rw[hd'] at hd; cases hd
theorem Inv.funs(I:Inv X pins σ H s):s.heap.FunFrames X.base X.outer:=by
 have all:∀(l:List Env),(∀b∈frs l,b∈X.fs)->X.s₀.heap.FunFrames X.base l->s.heap.FunFrames X.base l:=by
  intro l
  induction l with
  | nil=>intro _ _; trivial
  | cons env r ih =>
   intro hs hl;obtain⟨hk,⟨L,o,hf,hn,ho,hd⟩,hr⟩:=hl;have hL:L∈X.fs:=hs L (by unfold frs; rw[List.filterMap_cons,hf]; exact List.mem_cons_self);obtain⟨sl,e⟩:=I.base.slot L o ho (I.ok.frf L hL) hL fun z=>I.ok.exfs L z hL
   exact⟨hk,⟨L,_,hf,hn,e,hd⟩,ih (fun b hb=>hs b (by unfold frs; rw[List.filterMap_cons,hf]; exact List.mem_cons_of_mem _ hb)) hr⟩
 exact all X.outer (fun _ hb=>hb) I.ok.funs
theorem Inv.stack(I:Inv X pins σ H s):s.heap.FunFrames X.base X.stack:=by
 rcases I.ok.stk with e | ⟨e,hf⟩
 ·rw[e]; exact I.funs
 ·rw[e];obtain⟨m,hn,_⟩:=I.loc;refine .cons (by rw[I.ok.kind]; decide) hf hn ?_ I.funs;exact Heap.get?_none_of_le (Nat.le_trans I.ok.bsz I.ok.above)
theorem Inv.stkSub(I:Inv X pins σ H s):∀b∈frs X.stack,b∈X.env.locals :: X.fs:=fun b hb=>by
 rcases I.ok.stk with e | ⟨e,hf⟩
 ·rw[e] at hb; exact List.mem_cons_of_mem _ hb
 ·rw[e] at hb;unfold frs at hb;rw[List.filterMap_cons,hf] at hb;exact hb
theorem Inv.stkFree(I:Inv X pins σ H s):∀b∈frs X.stack,H b=none:=fun b hb=>by
 rcases List.mem_cons.mp (I.stkSub b hb) with e | hb
 ·rw[e]; exact I.free
 ·obtain⟨_,o,ho,_⟩:=I.ok.funs.mem hb;exact I.base.free b o ho (I.ok.frf b hb) fun z=>I.ok.exfs b z hb
theorem Inv.step {g':Array GenState} {t':Nat} {d':Drawn} {ch:List Addr} (I:Inv X pins σ H s)
  (hch:∀b∈ch,(b∈X.ex\/X.s₀.heap.objs.size<=b)/\b≠X.env.locals/\(∀x c,X.env.cells.lookup x=some c->c≠b)/\∀p∈X.pn++pins,p.1≠b)
  (keep:∀b o,b≠X.env.locals->b∉X.fs->b∉ch->s.heap.get? b=some o->H b=none->h'.get? b=some o)
  (slot:∀b o,b≠X.env.locals->b∈X.fs->b∉ch->s.heap.get? b=some o->H b=none->∃sl,h'.get? b=some { o with slots:=sl }) (free:∀b o,b∉ch->s.heap.get? b=some o->H b=none->H' b=none)
  (there:∀b o,b∉ch->s.heap.get? b=some o->∃o',h'.get? b=some o')
  (tups:∀b xs,H b=some (.tup xs)->H' b=some (.tup xs)) (frzs:∀b o u,H b=some (.frz o u)->H' b=some (.frz o u)) (tbls:∀b ps,H b=some (.tbl ps)->∃more,H' b=some (.tbl (ps++more)))
  (ns:∀m,s.heap.Ns X.env.locals m->h'.Ns X.env.locals m) (hok:HOk X.prog X.w H' h') (hg:AllBare g') :
  Inv X pins σ H' { s with heap:=h',gens:=g',drawn:=d',toks:=t' }:=by
 have neL:∀b o,X.s₀.heap.get? b=some o->b≠X.env.locals:=fun b o e=>Nat.ne_of_lt (Nat.lt_of_lt_of_le (Heap.lt_size e) I.ok.above)
 have neC:∀b o,X.s₀.heap.get? b=some o->b∉X.ex->b∉ch:=fun b o e hx hb=>by
  rcases(hch b hb).1 with z | z
  ·exact hx z
  ·exact absurd (Nat.lt_of_lt_of_le (Heap.lt_size e) z) (Nat.lt_irrefl _)
 have cellK:∀x c,X.env.cells.lookup x=some c->∀v,s.heap.IsCell c v->h'.IsCell c v:=fun x c e v ⟨o,ho,hd⟩=>by
  have nch:c∉ch:=fun z=>(hch c z).2.2.1 x c e rfl
  by_cases hc:c∈X.fs
  ·obtain⟨sl,q⟩:=slot c o (I.cne x c e) hc nch ho (I.freeC x c e);exact⟨_,q,hd⟩
  ·exact⟨o,keep c o (I.cne x c e) hc nch ho (I.freeC x c e),hd⟩
 refine⟨I.ok,I.os,hg,⟨fun b o e n hb hx=>?_,fun b o e n hb hx=>?_,fun b o e n hx=>?_,fun b o e hx=>?_,fun b xs e=>tups b xs (I.base.tups b xs e),fun b o xs e=>frzs b o xs (I.base.frzs b o xs e),fun b ps e=>?_⟩,?_,fun x c e=>?_,?_,fun x c e=>?_,fun p hp=>?_,hok,I.len⟩
 ·exact keep b o (neL b o e) hb (neC b o e hx) (I.base.keep b o e n hb hx) (I.base.free b o e n hx)
 ·obtain⟨sl,e1⟩:=I.base.slot b o e n hb hx;obtain⟨sl',e2⟩:=slot b _ (neL b o e) hb (neC b o e hx) e1 (I.base.free b o e n hx);exact⟨sl',e2⟩
 ·obtain⟨o',e1⟩:=I.base.there b o e hx;exact free b o' (neC b o e hx) e1 (I.base.free b o e n hx)
 ·obtain⟨o',e1⟩:=I.base.there b o e hx;exact there b o' (neC b o e hx) e1
 ·obtain⟨m1,e1⟩:=I.base.tbls b ps e;obtain⟨m2,e2⟩:=tbls b _ e1;exact⟨m1++m2,by rw[e2,Array.append_assoc]⟩
 ·obtain⟨m,hn,hl⟩:=I.loc;refine⟨m,ns m hn,fun i x v e1 e2 e3=>?_⟩;obtain⟨u,r,l⟩:=hl i x v e1 e2 e3;refine⟨u,r,?_⟩;rcases l with l | ⟨k,c,e,z⟩
  ·exact .inl l
  ·exact .inr ⟨k,c,e,cellK x c e _ z⟩
 ·obtain⟨v,z⟩:=I.cell x c e;exact⟨v,cellK x c e v z⟩
 ·obtain⟨m,⟨o,_,_,ho,_⟩,_⟩:=I.loc;exact free _ o (fun z=>(hch _ z).2.1 rfl) ho I.free
 ·obtain⟨v,o,ho,hd⟩:=I.cell x c e;exact free c o (fun z=>(hch c z).2.2.1 x c e rfl) ho (I.freeC x c e)
 ·obtain⟨e,n,ne,nf,d⟩:=I.pin p hp;have nch:p.1∉ch:=fun z=>(hch p.1 z).2.2.2 p hp rfl
  exact⟨keep p.1 p.2 ne nf nch e n,free p.1 p.2 nch e n,ne,nf,d⟩
theorem Inv.un{t':Nat}(I:Inv X pins σ H s)(u:Un X.fs [] H H' s.heap h')(hok:HOk X.prog X.w H' h'):Inv X pins σ H' { s with heap:=h',toks:=t' }:=by
 obtain⟨m,⟨o,es,ep,ho,r⟩,_⟩:=id I.loc;obtain⟨sl,hL⟩:=u.any ho I.free (by simp);exact I.step (g':=s.gens) (d':=s.drawn) (ch:=[]) (fun _ z=>nomatch z) (fun b o _ hb _ e n=>u.keep b o e n hb (by simp)) (fun b o _ hb _ e n=>u.slot b o e n hb (by simp)) (fun b o _ e n=>u.free b o e n (by simp)) (fun b o _ e=>u.there b o e (by simp)) u.tups u.frzs u.tbls (fun m' hm=>by
  obtain⟨o',es',ep',ho',r'⟩:=hm;rw[ho] at ho'; cases ho';exact⟨_,es',ep',hL,r'⟩) hok I.bare
theorem Inv.call {g':Array GenState} {t':Nat} {d':Drawn} {ch:List Addr} (I:Inv X pins σ H s) (u:Un (frs X.stack) ch H H' s.heap h') (hok:HOk X.prog X.w H' h') (hg:AllBare g')
  (hch:∀b∈ch,(b∈X.ex\/X.s₀.heap.objs.size<=b)/\b≠X.env.locals/\(∀x c,X.env.cells.lookup x=some c->c≠b)/\∀p∈X.pn++pins,p.1≠b) :
  Inv X pins σ H' { s with heap:=h',gens:=g',drawn:=d',toks:=t' }:=by
 obtain⟨m,⟨o,es,ep,ho,r⟩,_⟩:=id I.loc;obtain⟨sl,hL⟩:=u.any ho I.free fun z=>(hch _ z).2.1 rfl
 exact I.step (ch:=ch) hch (fun b o hL hb hc e n=>u.keep b o e n (fun z=>(List.mem_cons.mp (I.stkSub b z)).elim hL hb) hc) (fun b o _ _ hc e n=>u.any e n hc) (fun b o hc e n=>u.free b o e n hc) (fun b o hc e=>u.there b o e hc) u.tups u.frzs u.tbls (fun m' hm=>by
  obtain⟨o',es',ep',ho',r'⟩:=hm;rw[ho] at ho'; cases ho';exact⟨_,es',ep',hL,r'⟩) hok hg
theorem Inv.turned {t':Nat} {it:Addr} (I:Inv X pins σ H s) (k:∀b o,b≠it->s.heap.get? b=some o->h'.get? b=some o) (hn:H it=none) (hL:it≠X.env.locals)
  (h1:it∈X.ex\/X.s₀.heap.objs.size<=it) (h2:∀x c,X.env.cells.lookup x=some c->c≠it) (h3:∀p∈X.pn++pins,p.1≠it):Inv X pins σ H { s with heap:=h',toks:=t' }:=by
 have nit:∀b u,H b=some u->b≠it:=fun b u e z=>by rw[z,hn] at e; cases e
 refine I.step (g':=s.gens) (d':=s.drawn) (ch:=[it]) (fun b hb=>?_) (fun b o _ _ hc e _=>k b o (fun z=>hc (by simp[z])) e) (fun b o _ _ hc e _=>⟨o.slots,k b o (fun z=>hc (by simp[z])) e⟩) (fun _ _ _ _ n=>n)
  (fun b o hc e=>⟨o,k b o (fun z=>hc (by simp[z])) e⟩) (fun _ _ e=>e) (fun _ _ _ e=>e) (fun b ps e=>⟨#[],by rw[e]; simp⟩) (fun m hm=>?_) (fun b u e=>?_) I.bare
 ·have e:b=it:=by simpa using hb
  subst e;exact⟨h1,hL,h2,h3⟩
 ·obtain⟨o,es,ep,ho,r⟩:=hm;exact⟨o,es,ep,k _ o (Ne.symm hL) ho,r⟩
 ·refine(I.hok b u e).stay (fun c v hc q=>k c v ?_ q) (fun _ q=>q) fun _ _ q=>q
  rcases hc with z | z
  ·rw[z]; exact nit b u e
  ·exact nit c _ z
theorem Inv.tok(I:Inv X pins σ H s)(t:Nat):Inv X pins σ H { s with toks:=t }:=I.un (h':=s.heap) (t':=t) Un.refl I.hok
theorem Inv.kept{t':Nat}(I:Inv X pins σ H s)(k:∀b u,s.heap.get? b=some u->h'.get? b=some u):Inv X pins σ H { s with heap:=h',toks:=t' }:=I.un (Un.kept k) (I.hok.kept k)
theorem Inv.laid{a:Addr}{o:HO}{t':Nat}(I:Inv X pins σ H s)(k:∀b u,s.heap.get? b=some u->h'.get? b=some u)(hp:s.heap.objs.size<=a)(new:ObjOk X.prog X.w (upd H a o) h' a o):
  Inv X pins σ (upd H a o) { s with heap:=h',toks:=t' }:=I.un (Un.laid k hp (I.hok.fresh hp)) (I.hok.laid k hp new)
theorem Inv.write {x e:Addr} {o:HO} {t':Nat} (I:Inv X pins σ H s) (mu:Mut (H x)) (he:e=x\/H e=some (.own x)) (k:∀b u,b≠e->s.heap.get? b=some u->h'.get? b=some u) (heo:∃u,h'.get? e=some u)
  (new:ObjOk X.prog X.w (upd H x o) h' x o):Inv X pins σ (upd H x o) { s with heap:=h',toks:=t' }:=I.un (Un.write mu he k heo) (I.hok.write mu he k heo new)
theorem Inv.pins_of{pins':List (Addr×Obj)}(I:Inv X pins σ H s)(h:∀p∈pins',s.heap.get? p.1=some p.2/\H p.1=none/\p.1≠X.env.locals/\p.1∉X.fs/\∀v,p.2.data≠.cell v):Inv X pins' σ H s :=
 ⟨I.ok,I.os,I.bare,I.base,I.loc,I.cell,I.free,I.freeC,fun p hp=>(List.mem_append.mp hp).elim (fun z=>I.pin p (List.mem_append_left _ z)) (h p),I.hok,I.len⟩
theorem zgo{N:List Str}(hN:N.Nodup){i j:Nat}{x:Str}(a:N[i]?=some x)(b:N[j]?=some x):i=j:=by
 obtain⟨h1,e1⟩:=List.getElem?_eq_some_iff.mp a;obtain⟨h2,e2⟩:=List.getElem?_eq_some_iff.mp b;exact(List.getElem_inj hN).mp (e1.trans e2.symm)
theorem zh5 {M:Model} {A:Around} {E:Value->Shared->Prop} {i:Nat} {x:Str} {v:V} {u:Value} {Q:Unit->Shared->Prop} (I:Inv X pins σ H s) (hN:X.N.Nodup) (hi:X.N[i]?=some x) (hx:Loc X.env.scope x) (r:RelV v u)
  (h:∀s',Inv X pins (σ.set i (some v)) H s'->(∃a,Heap.SameBut a s.heap s'.heap/\(a=X.env.locals\/X.env.cells.lookup x=some a))->Q () s') (hf:X.fn x=true\/X.env.scope.names.lookup x=some .local:=by first | exact .inl rfl | exact .inr rfl | assumption):wpAny M A (storeName X.env x u) Q E s:=by
 obtain⟨m,hn,hl⟩:=id I.loc;have hcls:(X.env.scope.kind == .class || (X.env.scope.kind == .module && X.env.locals != X.env.globals))=false:=by rw[I.ok.kind]; rfl
 have hiσ:i<σ.length:=by rw[I.len]; exact(List.getElem?_eq_some_iff.mp hi).1
 have cne:=I.cne;have tracked:∀{a:Addr} {h':Heap},(∃o,s.heap.get? a=some o/\H a=none)->Heap.SameBut a s.heap h'->HOk X.prog X.w H h':=fun {a h'} ha hs b ob e=>by
  obtain⟨_,_,hfree⟩:=ha;refine(I.hok b ob e).stay (fun c w' hc q=>(hs.2 c ?_).trans q) (fun _ q=>q) fun _ _ q=>q
  rintro rfl;rcases hc with rfl | hc
  ·rw[hfree] at e; cases e
  ·rw[hfree] at hc; cases hc
 rcases hx with hk | hk
 ·refine wpAny_storeName_local hk hn (fun h' hn' hs=>?_) hcls;obtain⟨oL,_,_,hoL,_⟩:=id hn;refine h _ ⟨I.ok,I.os,I.bare,⟨fun b o e n hb hx=>?_,fun b o e n hb hx=>?_,I.base.free,fun b o e hx=>?_,I.base.tups,I.base.frzs,I.base.tbls⟩,⟨_,hn',fun j y v' e1 e2 e3=>?_⟩,fun y c e=>?_,I.free,I.freeC,fun p hp=>?_,tracked ⟨oL,hoL,I.free⟩ hs,by simpa using I.len⟩ ⟨_,hs,.inl rfl⟩
  ·exact(hs.2 b (Nat.ne_of_lt (Nat.lt_of_lt_of_le (Heap.lt_size e) I.ok.above))).trans (I.base.keep b o e n hb hx)
  ·obtain⟨sl,e1⟩:=I.base.slot b o e n hb hx;exact⟨sl,(hs.2 b (Nat.ne_of_lt (Nat.lt_of_lt_of_le (Heap.lt_size e) I.ok.above))).trans e1⟩
  ·obtain⟨o',e1⟩:=I.base.there b o e hx;exact⟨o',(hs.2 b (Nat.ne_of_lt (Nat.lt_of_lt_of_le (Heap.lt_size e) I.ok.above))).trans e1⟩
  ·by_cases hj:j=i
   ·subst hj;rw[hi] at e1; cases e1;rw[List.getElem?_set_self hiσ] at e2;cases e2;exact⟨u,r,.inl ⟨hk,by simp⟩⟩
   ·rw[List.getElem?_set_ne (Ne.symm hj)] at e2;obtain⟨u',r',q⟩:=hl j y v' e1 e2 e3;refine⟨u',r',?_⟩;rcases q with ⟨k,e⟩ | ⟨k,c,e,z⟩
    ·refine .inl ⟨k,?_⟩
     have:y≠x:=fun e=>hj (zgo hN e1 (e ▸ hi))
     simp[this,e]
    ·exact .inr ⟨k,c,e,z.sameBut hs (cne y c e)⟩
  ·obtain⟨w',z⟩:=I.cell y c e;exact⟨w',z.sameBut hs (cne y c e)⟩
  ·obtain⟨e,n,ne,nf,d⟩:=I.pin p hp;exact⟨(hs.2 p.1 ne).trans e,n,ne,nf,d⟩
 ·have hfn:X.fn x=true:=by
   rcases hf with z | z
   ·exact z
   ·rw[z] at hk; cases hk
  obtain⟨c,hc⟩:=I.ok.has x (.inl hk);obtain⟨w',z⟩:=I.cell x c hc;refine wpAny_storeName_cell I.ok.kind hk hc z (fun h' hc' hs=>?_);obtain⟨oc,hoc,hocd⟩:=id z;refine h { s with heap:=h' } ⟨I.ok,I.os,I.bare,⟨fun b o e n hb hx=>?_,fun b o e n hb hx=>?_,I.base.free,fun b o e hx=>?_,I.base.tups,I.base.frzs,I.base.tbls⟩,⟨m,hn.sameBut hs (Ne.symm (cne x c hc)),fun j y v' e1 e2 e3=>?_⟩,fun y c' e=>?_,I.free,I.freeC,fun p hp=>?_,tracked ⟨oc,hoc,I.freeC x c hc⟩ hs,by simpa using I.len⟩ ⟨c,hs,.inr hc⟩
  ·exact(hs.2 b (Nat.ne_of_lt (Nat.lt_of_lt_of_le (Heap.lt_size e) (I.ok.cab x c hfn hc)))).trans (I.base.keep b o e n hb hx)
  ·obtain⟨sl,e1⟩:=I.base.slot b o e n hb hx;exact⟨sl,(hs.2 b (Nat.ne_of_lt (Nat.lt_of_lt_of_le (Heap.lt_size e) (I.ok.cab x c hfn hc)))).trans e1⟩
  ·obtain⟨o',e1⟩:=I.base.there b o e hx;exact⟨o',(hs.2 b (Nat.ne_of_lt (Nat.lt_of_lt_of_le (Heap.lt_size e) (I.ok.cab x c hfn hc)))).trans e1⟩
  ·by_cases hj:j=i
   ·subst hj;rw[hi] at e1; cases e1;rw[List.getElem?_set_self hiσ] at e2;cases e2;exact⟨u,r,.inr ⟨.inl hk,c,hc,hc'⟩⟩
   ·rw[List.getElem?_set_ne (Ne.symm hj)] at e2;obtain⟨u',r',q⟩:=hl j y v' e1 e2 e3;refine⟨u',r',?_⟩;rcases q with q | ⟨k,c',e,z'⟩
    ·exact .inl q
    ·refine .inr ⟨k,c',e,z'.sameBut hs ?_⟩;rintro rfl;exact hj (zgo hN e1 (I.ok.inj _ _ _ e hc ▸ hi))
  ·by_cases hcc:c'=c
   ·subst hcc; exact⟨_,hc'⟩
   ·obtain⟨w2,z2⟩:=I.cell y c' e;exact⟨w2,z2.sameBut hs hcc⟩
  ·obtain⟨e,n,ne,nf,d⟩:=I.pin p hp;refine⟨(hs.2 p.1 ?_).trans e,n,ne,nf,d⟩;intro q;rw[q,hoc] at e;have q':oc=p.2:=Option.some.inj e;exact d w' (by rw[<-q']; exact hocd)
theorem zeg {M:Model} {A:Around} {E:Value->Shared->Prop} {i:Nat} {x:Str} {v:V} {u:Value} {Q:Unit->Shared->Prop} (I:Inv X pins σ H s) (hN:X.N.Nodup) (hi:X.N[i]?=some x) (hx:Loc X.env.scope x) (r:RelV v u)
  (h:∀s',Inv X pins (σ.set i (some v)) H s'->Q () s') (hf:X.fn x=true\/X.env.scope.names.lookup x=some .local:=by first | exact .inl rfl | exact .inr rfl | assumption):wpAny M A (storeName X.env x u) Q E s :=
 zh5 I hN hi hx r (fun s' I' _=>h s' I') hf
theorem Inv.call' {s':Shared} {ch:List Addr} (I:Inv X pins σ H s) (ho:s'.os=s.os) (u:Un (frs X.stack) ch H H' s.heap s'.heap) (hok:HOk X.prog X.w H' s'.heap) (hg:AllBare s'.gens)
  (hch:∀b∈ch,(b∈X.ex\/X.s₀.heap.objs.size<=b)/\b≠X.env.locals/\(∀x c,X.env.cells.lookup x=some c->c≠b)/\∀p∈X.pn++pins,p.1≠b):Inv X pins σ H' s':=by
 obtain⟨h',g',d',t',o'⟩:=s';have e:o'=s.os:=ho;subst e;exact I.call (g':=g') (t':=t') (d':=d') u hok hg hch
end
abbrev XK:=Value->Option Addr->Hp->Prop
abbrev St:=List (Option V)
abbrev VK:=V->Hp->Prop
abbrev TE:=St->Hp->VK->Prop
abbrev TT:=St->Hp->(Bool->Hp->Prop)->Prop
abbrev TA:=St->Hp->(List V->Hp->Prop)->Prop
structure Ends where
 nx:St->Hp->Prop
 rt:VK
 bk:St->Hp->Prop:=fun _ _=>False
 ct:St->Hp->Prop:=fun _ _=>False
abbrev TS:=Ends->St->Hp->Prop
def EP(X:Cx)(pins:List (Addr×Obj))(σ:St)(Q:VK)(u:Value)(s':Shared):Prop:=∃v H',Inv X pins σ H' s'/\RelV v u/\Q v H'
def TP(X:Cx)(pins:List (Addr×Obj))(σ:St)(Q:Bool->Hp->Prop)(b:Bool)(s':Shared):Prop:=∃H',Inv X pins σ H' s'/\Q b H'
def AP(X:Cx)(pins:List (Addr×Obj))(σ:St)(Q:List V->Hp->Prop)(us:List Value)(s':Shared):Prop:=∃vs H',Inv X pins σ H' s'/\Vals vs us/\Q vs H'
def SP(X:Cx)(pins:List (Addr×Obj))(D:Ends)(f:Flow)(s':Shared):Prop :=
 match f with
 | .next=>∃σ' H',Inv X pins σ' H' s'/\D.nx σ' H'
 | .brk=>∃σ' H',Inv X pins σ' H' s'/\D.bk σ' H'
 | .cont=>∃σ' H',Inv X pins σ' H' s'/\D.ct σ' H'
 | .ret u=>∃v σ' H',Inv X pins σ' H' s'/\RelV v u/\D.rt v H'
def PE(X:Cx)(e:Expr)(t:TE):Prop :=
 ∀(pins:List (Addr×Obj)) (s:Shared) (σ:St) (H:Hp) (Q:VK),Inv X pins σ H s->t σ H Q->wpAny (model X.prog X.w) X.A (eval e X.env) (EP X pins σ Q) X.xe s
def PT(X:Cx)(e:Expr)(t:TT):Prop :=
 ∀(pins:List (Addr×Obj)) (s:Shared) (σ:St) (H:Hp) (Q:Bool->Hp->Prop),Inv X pins σ H s->t σ H Q->wpAny (model X.prog X.w) X.A (isTrue e X.env (eval e X.env)) (TP X pins σ Q) X.xe s
def PW(X:Cx)(e:Expr)(t:TT):Prop :=
 ∀(whole:Sem Value) (pins:List (Addr×Obj)) (s:Shared) (σ:St) (H:Hp) (Q:Bool->Hp->Prop),Inv X pins σ H s->t σ H Q->wpAny (model X.prog X.w) X.A (isTrue e X.env whole) (TP X pins σ Q) X.xe s
theorem PW.pt{X:Cx}{e:Expr}{t:TT}(h:PW X e t):PT X e t:=h _
def PA(X:Cx)(es:List Expr)(t:TA):Prop :=
 ∀(pos:Pos) (pins:List (Addr×Obj)) (s:Shared) (σ:St) (H:Hp) (Q:List V->Hp->Prop),Inv X pins σ H s->t σ H Q->wpAny (model X.prog X.w) X.A (spliced (backTo pos (starEach es X.env))) (AP X pins σ Q) X.xe s
def PS(X:Cx)(st:Stmt)(t:TS):Prop :=
 ∀(pins:List (Addr×Obj)) (s:Shared) (σ:St) (H:Hp) (D:Ends),Inv X pins σ H s->t D σ H->wpAny (model X.prog X.w) X.A (exec st X.env) (SP X pins D) X.xe s
def PSs(X:Cx)(st:List Stmt)(t:TS):Prop :=
 ∀(pins:List (Addr×Obj)) (s:Shared) (σ:St) (H:Hp) (D:Ends),Inv X pins σ H s->t D σ H->wpAny (model X.prog X.w) X.A (execs st X.env) (SP X pins D) X.xe s
theorem thn{α:Type}{t:Sem α}{Q Q':α->Shared->Prop}{M:Model}{A:Around}{E:Value->Shared->Prop}{s:Shared}(h:wpAny M A t Q E s)(hQ:∀a s,Q a s->Q' a s):wpAny M A t Q' E s:=wpAny_mono h hQ fun _ _ x=>x
section
variable {X:Cx}
inductive VarR(i:Nat)(σ:St)(H:Hp)(Q:VK):Prop
 | mk (v:V) (e:σ[i]?=some (some v)) (q:Q v H):VarR i σ H Q
def tVar(i:Nat):TE:=fun σ H Q=>VarR i σ H Q
inductive BlR(x:V)(H:Hp)(Q:Bool->Hp->Prop):Prop
 | mk (c:Bool) (e:x=.bl c) (q:Q c H):BlR x H Q
def tC(v:V):TE:=fun _ H Q=>Q v H
theorem pe_var{i:Nat}{x:Str}{pos:Pos}(hN:X.N[i]?=some x)(hv:Vis X.env.scope x)(hd:(x == ("__debug__":Str))=false:=by decide)(hcd:(x == ("__classdict__":Str))=false:=by decide):PE X (.Name x pos) (tVar i):=by
 intro pins s σ H Q I h;obtain⟨v,e,h⟩:=h;obtain⟨m,hn,hl⟩:=I.loc;obtain⟨u,r,l⟩:=hl i x v hN e hv;have fin:EP X pins σ Q u s:=⟨v,H,I,r,h⟩;rcases l with ⟨hk,hm⟩ | ⟨hk,c,hc,hcell⟩
 ·exact wpAny_Name (wpAny_loadName_local I.ok.kind hk hn hm fin) hd
 ·rcases hk with hk | hk
  ·exact wpAny_Name (wpAny_loadName_cell I.ok.kind hk hc hcell fin) hd
  ·exact wpAny_Name (wpAny_loadName_free I.ok.kind hk hc hcell fin hcd) hd
theorem za3{i j pos}:PE X (.Constant (.int i) j pos) (tC (.int i)):=fun _ _ _ H _ I h=>wpAny_Constant_int ⟨.int i,H,I.tok _,⟨_,rfl⟩,h⟩
theorem zgl{b j pos}:PE X (.Constant (.bool b) j pos) (tC (.bl b)):=fun _ _ _ H _ I h=>Constant_bool ⟨.bl b,H,I,rfl,h⟩
theorem zlv{j pos}:PE X (.Constant .none j pos) (tC .non):=fun _ _ _ H _ I h=>Constant_none ⟨.non,H,I,rfl,h⟩
theorem zaa{x j pos}:PE X (.Constant (.str x) j pos) (tC (.str x)):=fun _ _ _ H _ I h=>Calls.Constant_str ⟨.str x,H,I.tok _,⟨_,rfl⟩,h⟩
def Gl(X:Cx)(x:Str):Prop:=X.env.kindOf x=some .globalImplicit
theorem zfb {E:Value->Shared->Prop} {pins:List (Addr×Obj)} {s:Shared} {σ:St} {H:Hp} {x:Str} {u:Value} {pos:Pos} {Q:Value->Shared->Prop} (I:Inv X pins σ H s) (hg:Gl X x) (hm:X.mg x=some u) (h:Q u s)
  (hd:(x == ("__debug__":Str))=false:=by decide):wpAny (model X.prog X.w) X.A (eval (.Name x pos) X.env) Q E s :=
 Calls.Name_function_global I.ok.kind hg (Calls.loadGlobal_global (by rw[I.ok.glob]; exact I.mod.glob.keeps I.bk) hm h) hd
theorem zhp {E:Value->Shared->Prop} {pins:List (Addr×Obj)} {s:Shared} {σ:St} {H:Hp} {x:Str} {u:Value} {pos:Pos} {Q:Value->Shared->Prop} (I:Inv X pins σ H s) (hg:Gl X x) (hm:X.mg x=none) (hv:bootBuiltins x=some u) (h:Q u s)
  (hn:x≠"__name__":=by decide) (hd:(x == ("__debug__":Str))=false:=by decide):wpAny (model X.prog X.w) X.A (eval (.Name x pos) X.env) Q E s:=by
 obtain⟨mb,h1,h2⟩:=I.mod.blt;exact Calls.Name_function_global I.ok.kind hg (Calls.loadGlobal_builtin (by rw[I.ok.glob]; exact I.mod.glob.keeps I.bk) hm (by rw[I.ok.blt]; exact h1.keeps I.bk) ((h2 x hn).trans hv) h) hd
theorem ze4{x:Str}{v:V}{u:Value}{pos:Pos}(hg:Gl X x)(hm:X.mg x=some u)(r:RelV v u)(hd:(x == ("__debug__":Str))=false:=by decide):PE X (.Name x pos) (tC v) :=
 fun _ _ _ H _ I h=>zfb I hg hm ⟨v,H,I,r,h⟩ hd
variable {a b:Expr} {ta tb:TE} {pos:Pos}
def PC(X:Cx)(op:CmpOp)(a b:Expr)(t:TE):Prop :=
 ∀(pins:List (Addr×Obj)) (s:Shared) (σ:St) (H:Hp) (Q:VK),Inv X pins σ H s->t σ H Q →
  wpAny (model X.prog X.w) X.A (eval a X.env) (fun v s₁=>wpAny (model X.prog X.w) X.A (eval b X.env) (fun u s₂=>wpAny (model X.prog X.w) X.A (compareOp op v u) (EP X pins σ Q) X.xe s₂) X.xe s₁) X.xe s
theorem nobehind(b:Expr){op:CmpOp}(h:op≠.In)(h2:op≠.NotIn):behindInMarks op b=false:=by
 have e1:(op == CmpOp.In)=false:=by cases op <;> first | rfl | exact absurd rfl h
 have e2:(op == CmpOp.NotIn)=false:=by cases op <;> first | rfl | exact absurd rfl h2
 cases b <;> simp[behindInMarks,e1,e2]
def tB(t:TE):TT:=fun σ H Q=>t σ H fun x H1=>BlR x H1 Q
theorem zjf{op:CmpOp}{t:TE}(h:PC X op a b t)(h1:behindInMarks op b=false:=by first | exact nobehind _ (by decide) (by decide) | rfl):PT X (.Compare a [op] [b] pos) (tB t):=by
 intro pins s σ H Q I hw;refine wpAny_isTrue_Compare1 (thn (h pins s σ H _ I hw) fun v s1 h1=>thn h1 fun u s2 h2=>thn h2 fun c s3 ⟨x,H1,I1,r1,q1⟩=>?_) h1;obtain⟨d,rfl,q⟩:=q1;cases r1;exact wpAny_truthy_bool ⟨H1,I1,q⟩
theorem zec{e:Expr}{t:TE}(h:PE X e t)(he:∀whole,isTrue e X.env whole=(do let v <-whole; standAt e.pos; holding [v] (truthy v)):=by intro _; rfl):PT X e (tB t):=by
 intro pins s σ H Q I hw;refine isTrue_plain (thn (h pins s σ H _ I hw) fun v s1 ⟨x,H1,I1,r1,q1⟩=>?_) (he _);obtain⟨d,rfl,q⟩:=q1;cases r1;exact wpAny_truthy_bool ⟨H1,I1,q⟩
variable {tA tB':TT} {rest:List Expr}
def tOr(t u:TT):TT:=fun σ H Q=>t σ H fun c H1=>if c=true then Q true H1 else u σ H1 Q
def tNot(t:TT):TT:=fun σ H Q=>t σ H fun c H1=>Q (!c) H1
theorem zfp(ha:PT X a tA):PW X (.BoolOp .Or [a] pos) tA:=by
 intro wh pins s σ H Q I h;refine isTrue_or (thn (ha pins s σ H Q I h) fun c s1 e=>?_);cases c with
 | false=>exact isTrue_or_nil e
 | true=>exact e
theorem zkk(ha:PT X a tA)(hb:PW X (.BoolOp .Or (b :: rest) pos) tB'):PW X (.BoolOp .Or (a :: b :: rest) pos) (tOr tA tB'):=by
 intro wh pins s σ H Q I h;refine isTrue_or (thn (ha pins s σ H _ I h) fun c s1 ⟨H1,I1,q1⟩=>?_);cases c with
 | true=>exact⟨H1,I1,q1⟩
 | false=>exact hb wh pins s1 σ H1 Q I1 q1
theorem zqb(ha:PT X a tA):PT X (.UnaryOp .Not a pos) (tNot tA):=by
 intro pins s σ H Q I h;exact isTrue_not (ha pins s σ H (fun c H1=>Q (!c) H1) I h)
def tOrV(ta tb:TE):TE:=fun σ H Q=>ta σ H fun x H1=>∃c,x=.bl c/\if c=true then Q (.bl true) H1 else tb σ H1 Q
theorem pe_one{op}{t:TE}(h:PE X a t):PE X (.BoolOp op [a] pos) t:=fun pins s σ H Q I hw=>BoolOp_one (h pins s σ H Q I hw)
theorem pe_or(ha:PE X a ta)(hb:PE X (.BoolOp .Or (b :: rest) pos) tb):PE X (.BoolOp .Or (a :: b :: rest) pos) (tOrV ta tb):=by
 intro pins s σ H Q I h;refine BoolOp_or (thn (ha pins s σ H _ I h) fun v s1 ⟨x,H1,I1,r1,q1⟩=>?_);obtain⟨c,rfl,q1⟩:=q1;cases r1;refine wpAny_truthy_bool ?_;cases c with
 | false=>exact hb pins s1 σ H1 Q I1 q1
 | true=>exact⟨.bl true,H1,I1,rfl,q1⟩
def tIf(t:TT)(ta tb:TE):TE:=fun σ H Q=>t σ H fun c H1=>if c=true then ta σ H1 Q else tb σ H1 Q
theorem zem{c:Expr}(hc:PT X c tA)(ha:PE X a ta)(hb:PE X b tb):PE X (.IfExp c a b pos) (tIf tA ta tb):=by
 intro pins s σ H Q I h;refine wpAny_IfExp (thn (hc pins s σ H _ I h) fun d s1 ⟨H1,I1,q1⟩=>?_);cases d with
 | true=>exact ha pins s1 σ H1 Q I1 q1
 | false=>exact hb pins s1 σ H1 Q I1 q1
end
def SqL(K:PySem.W.Frag)(H:Hp)(a:Addr)(xs:List V):Prop :=
 Rd H a (.lst xs) \/
  ∃(o:Obj) (its:Array Value) (n:Nat),K.lookup a=some o/\o.cls=.type "list"/\o.dict=none/\o.data=.seq its n/\its.size<=sizeLine/\Vals xs its.toList
def SqT(K:PySem.W.Frag)(H:Hp)(a:Addr)(xs:List V):Prop :=
 Rd H a (.tup xs) \/
  ∃(o:Obj) (its:Array Value) (n:Nat),K.lookup a=some o/\o.cls=.type "tuple"/\o.data=.seq its n/\its.size<=sizeLine/\Vals xs its.toList
def absV:Value->Option V
 | .none=>some .non
 | .bool b=>some (.bl b)
 | .int i _=>some (.int i)
 | .str x _=>some (.str x)
 | .bytes b _=>some (.byt b)
 | .float b _=>some (.flt b)
 | .ref a=>some (.ref a)
 | .type n=>some (.ty n)
 | _=>none
theorem RelV.abs{x:V}{u:Value}(r:RelV x u):absV u=some x:=by
 cases x with
 | non=>cases r; rfl
 | bl _=>cases r; rfl
 | int _=>obtain⟨t,rfl⟩:=r; rfl
 | str _=>obtain⟨t,rfl⟩:=r; rfl
 | byt _=>obtain⟨t,rfl⟩:=r; rfl
 | flt _=>obtain⟨t,rfl⟩:=r; rfl
 | ref _=>cases r; rfl
 | ty _=>cases r; rfl
theorem RelV.inj{x y:V}{u:Value}(r:RelV x u)(q:RelV y u):x=y:=Option.some.inj (r.abs.symm.trans q.abs)
theorem Vals.inj:∀{xs ys:List V} {us:List Value},Vals xs us->Vals ys us->xs=ys
 | _,_,_,.nil,.nil=>rfl
 | _,_,_,.cons r t,.cons r' t'=>by rw[r.inj r',Vals.inj t t']
section
variable {X:Cx} {pins:List (Addr×Obj)} {σ:St} {H:Hp} {s:Shared} {a:Addr} {xs ys:List V}
theorem SqL.of{K:PySem.W.Frag}(h:H a=some (.lst xs)):SqL K H a xs:=.inl (.inl h)
theorem SqT.of{K:PySem.W.Frag}(h:H a=some (.tup xs)):SqT K H a xs:=.inl (.inl h)
theorem Inv.list(I:Inv X pins σ H s)(h:SqL X.K H a xs):∃its:List Value,Vals xs its/\PlainL s.heap a its.toArray/\xs.length<=sizeLine:=by
 rcases h with h | ⟨o,its,n,hk,hc,hd,hs,hz,r⟩
 ·obtain⟨z,its,n,r,e⟩:=h.ok I.hok;exact⟨its,r,⟨_,n,e,rfl,rfl,rfl⟩,z⟩
 ·refine⟨its.toList,r,⟨o,n,I.kIn a o hk,hc,hd,by simpa using hs⟩,?_⟩;have e:=r.length;simp only[Array.length_toList] at e;omega
theorem Inv.tuple(I:Inv X pins σ H s)(h:SqT X.K H a xs):∃its:List Value,Vals xs its/\IsTup s.heap a its.toArray/\xs.length<=sizeLine:=by
 rcases h with h | ⟨o,its,n,hk,hc,hs,hz,r⟩
 ·obtain⟨z,its,r,p,_⟩:=h.ok I.hok;exact⟨its,r,p,z⟩
 ·refine⟨its.toList,r,⟨o,I.kIn a o hk,hc,n,by simpa using hs⟩,?_⟩;have e:=r.length;simp only[Array.length_toList] at e;omega
theorem Inv.list_inj(I:Inv X pins σ H s)(h:SqL X.K H a xs)(h':SqL X.K H a ys):xs=ys:=by
 obtain⟨its,r,⟨o,n,e,_,_,d⟩,_⟩:=I.list h;obtain⟨its',r',⟨o',n',e',_,_,d'⟩,_⟩:=I.list h';rw[e] at e'; cases e';rw[d] at d';injection d' with d1 _
 have:its=its':=by simpa using congrArg Array.toList d1
 subst this;exact r.inj r'
theorem Inv.tuple_inj(I:Inv X pins σ H s)(h:SqT X.K H a xs)(h':SqT X.K H a ys):xs=ys:=by
 obtain⟨its,r,⟨o,e,_,n,d⟩,_⟩:=I.tuple h;obtain⟨its',r',⟨o',e',_,n',d'⟩,_⟩:=I.tuple h';rw[e] at e'; cases e';rw[d] at d';injection d' with d1 _
 have:its=its':=by simpa using congrArg Array.toList d1
 subst this;exact r.inj r'
end
abbrev Cx.wish(X:Cx)(E:Value->Shared->Prop):Cx:={ X with xe:=E }
abbrev Cx.nox(X:Cx):Cx:=X.wish fun _ _=>False
theorem Cx.Ok.wish{X:Cx}(ok:X.Ok)(E:Value->Shared->Prop):(X.wish E).Ok :=
 ⟨ok.mod,ok.kind,ok.glob,ok.blt,ok.above,ok.inj,ok.has,ok.cab,ok.hd,ok.frames,ok.stk,ok.exf,ok.bs,ok.bsz,ok.noex,ok.exfs,ok.funs,ok.frf⟩
theorem Cx.Ok.unwish{X:Cx}{E:Value->Shared->Prop}(ok:(X.wish E).Ok):X.Ok :=
 ⟨ok.mod,ok.kind,ok.glob,ok.blt,ok.above,ok.inj,ok.has,ok.cab,ok.hd,ok.frames,ok.stk,ok.exf,ok.bs,ok.bsz,ok.noex,ok.exfs,ok.funs,ok.frf⟩
section
variable {X:Cx} {pins:List (Addr×Obj)} {σ:St} {H:Hp} {s:Shared} {E:Value->Shared->Prop}
theorem Inv.wish(I:Inv X pins σ H s)(E:Value->Shared->Prop):Inv (X.wish E) pins σ H s:=⟨I.ok.wish E,I.os,I.bare,I.base,I.loc,I.cell,I.free,I.freeC,I.pin,I.hok,I.len⟩
theorem Inv.unwish(I:Inv (X.wish E) pins σ H s):Inv X pins σ H s:=⟨I.ok.unwish,I.os,I.bare,I.base,I.loc,I.cell,I.free,I.freeC,I.pin,I.hok,I.len⟩
theorem SP.unwish{D:Ends}{f:Flow}{s':Shared}(h:SP (X.wish E) pins D f s'):SP X pins D f s':=by
 cases f with
 | next=>obtain⟨σ',H',I,q⟩:=h; exact⟨σ',H',I.unwish,q⟩
 | brk=>obtain⟨σ',H',I,q⟩:=h; exact⟨σ',H',I.unwish,q⟩
 | cont=>obtain⟨σ',H',I,q⟩:=h; exact⟨σ',H',I.unwish,q⟩
 | ret u=>obtain⟨v,σ',H',I,r,q⟩:=h; exact⟨v,σ',H',I.unwish,r,q⟩
theorem PE.nox{e:Expr}{t:TE}(h:PE X.nox e t):PE X e t:=fun pins s σ H Q I hw =>
 wpAny_mono (h pins s σ H Q (I.wish _) hw) (fun _ _ ⟨v,H',I',r,q⟩=>⟨v,H',I'.unwish,r,q⟩) fun _ _ z=>False.elim z
theorem PT.nox{e:Expr}{t:TT}(h:PT X.nox e t):PT X e t:=fun pins s σ H Q I hw =>
 wpAny_mono (h pins s σ H Q (I.wish _) hw) (fun _ _ ⟨H',I',q⟩=>⟨H',I'.unwish,q⟩) fun _ _ z=>False.elim z
theorem PSs.nox{st:List Stmt}{t:TS}(h:PSs X.nox st t):PSs X st t:=fun pins s σ H D I hw =>
 wpAny_mono (h pins s σ H D (I.wish _) hw) (fun _ _ q=>q.unwish) fun _ _ z=>False.elim z
end
section
variable {X:Cx} {st:Stmt} {rest:List Stmt} {t u:TS} {e:Expr} {te:TE} {pos:Pos}
def tNext:TS:=fun D σ H=>D.nx σ H
def tSeq(t u:TS):TS:=fun D σ H=>t { D with nx:=u D } σ H
theorem zad:PSs X [] tNext:=fun _ _ σ H _ I h=>wpAny_execs_nil ⟨σ,H,I,h⟩
theorem za2(h1:PS X st t)(h2:PSs X rest u):PSs X (st :: rest) (tSeq t u):=by
 intro pins s σ H D I h;refine wpAny_execs_cons (thn (h1 pins s σ H { D with nx:=u D } I h) fun f s1 q=>?_);cases f with
 | next =>
  obtain⟨σ',H',I',q⟩:=q;exact h2 pins s1 σ' H' D I' q
 | ret v=>exact q
 | brk=>exact q
 | cont=>exact q
theorem za6(h1:PS X st t):PSs X [st] t:=by
 intro pins s σ H D I h;refine wpAny_execs_cons (thn (h1 pins s σ H D I h) fun f s1 q=>?_);cases f with
 | next=>exact wpAny_execs_nil q
 | ret v=>exact q
 | brk=>exact q
 | cont=>exact q
theorem Inv.quiet{pins:List (Addr×Obj)}{σ:St}{H:Hp}{s:Shared}(I:Inv X pins σ H s):interactive X.env=false:=by simp[interactive,I.ok.kind]
def tDrop(te:TE):TS:=fun D σ H=>te σ H fun _ H1=>D.nx σ H1
theorem zam(he:PE X e te)(hs:swapsWith e none pos.line X.env=pure false:=by rfl):PS X (.Expr e pos) (tDrop te):=by
 intro pins s σ H D I h;exact wpAny_Expr_any (thn (he pins s σ H _ I h) fun v s1 ⟨x,H1,I1,r1,q1⟩=>⟨σ,H1,I1,q1⟩) I.quiet hs
def tRet(te:TE):TS:=fun D σ H=>te σ H D.rt
theorem zag(he:PE X e te):PS X (.Return (some e) pos) (tRet te):=by
 intro pins s σ H D I h;exact wpAny_Return_some (thn (he pins s σ H _ I h) fun v s1 ⟨x,H1,I1,r1,q1⟩=>⟨x,σ,H1,I1,r1,q1⟩)
def tIfS(c:TT)(t u:TS):TS:=fun D σ H=>c σ H fun b H1=>if b=true then t D σ H1 else u D σ H1
theorem zas{c:Expr}{a b:List Stmt}{tc:TT}(hc:PT X c tc)(ha:PSs X a t)(hb:PSs X b u):PS X (.If c a b pos) (tIfS tc t u):=by
 intro pins s σ H D I h;refine wpAny_If (thn (hc pins s σ H _ I h) fun d s1 ⟨H1,I1,q1⟩=>?_);cases d with
 | true=>exact ha pins s1 σ H1 D I1 q1
 | false=>exact hb pins s1 σ H1 D I1 q1
def tNever:TS:=fun _ _ _=>False
theorem zex{sts:List Stmt}:PSs X sts tNever:=fun _ _ _ _ _ _ h=>h.elim
end
abbrev TG:=V->St->Hp->(St->Hp->Prop)->Prop
abbrev TGs:=List V->St->Hp->(St->Hp->Prop)->Prop
def PG(X:Cx)(target:Expr)(t:TG):Prop :=
 ∀(pins:List (Addr×Obj)) (s:Shared) (σ:St) (H:Hp) (v:V) (u:Value) (Q:St->Hp->Prop),Inv X pins σ H s->RelV v u->t v σ H Q →
  wpAny (model X.prog X.w) X.A (assign target X.env u) (fun _ s'=>∃σ' H',Inv X pins σ' H' s'/\Q σ' H') X.xe s
def PGs(X:Cx)(ts:List Expr)(t:TGs):Prop :=
 ∀(pins:List (Addr×Obj)) (s:Shared) (σ:St) (H:Hp) (vs:List V) (us:List Value) (Q:St->Hp->Prop),Inv X pins σ H s->Vals vs us->t vs σ H Q →
  wpAny (model X.prog X.w) X.A (assignInOrder ((assignEach ts X.env).map (·.2)) us) (fun _ s'=>∃σ' H',Inv X pins σ' H' s'/\Q σ' H') X.xe s
abbrev TSet:=V->V->V->Hp->(Hp->Prop)->Prop
def PSet(X:Cx)(t:TSet):Prop :=
 ∀(pins:List (Addr×Obj)) (s:Shared) (σ:St) (H:Hp) (o i v:V) (ov iv u:Value) (Q:Hp->Prop),Inv X pins σ H s->RelV o ov->RelV i iv->RelV v u->t o i v H Q →
  wpAny (model X.prog X.w) X.A (setItem ov iv u) (fun _ s'=>∃H',Inv X pins σ H' s'/\Q H') X.xe s
section
variable {X:Cx} {pos:Pos}
def gName(i:Nat):TG:=fun v σ H Q=>Q (σ.set i (some v)) H
theorem zae{i:Nat}{x:Str}(hN:X.N.Nodup)(hi:X.N[i]?=some x)(hx:Loc X.env.scope x)(hf:X.fn x=true\/X.env.scope.names.lookup x=some .local:=by first | exact .inl rfl | exact .inr rfl | assumption):PG X (.Name x pos) (gName i):=by
 intro pins s σ H v u Q I r h;exact wpAny_assign_Name (zeg I hN hi hx r (fun s' I'=>⟨_,H,I',h⟩) hf)
inductive GNilR(vs:List V)(σ:St)(H:Hp)(Q:St->Hp->Prop):Prop
 | mk (e:vs=[]) (q:Q σ H):GNilR vs σ H Q
def gNil:TGs:=fun vs σ H Q=>GNilR vs σ H Q
inductive GConsR(t:TG)(u:TGs)(vs:List V)(σ:St)(H:Hp)(Q:St->Hp->Prop):Prop
 | mk (v:V) (r:List V) (e:vs=v :: r) (q:t v σ H fun σ' H'=>u r σ' H' Q):GConsR t u vs σ H Q
def gCons(t:TG)(u:TGs):TGs:=fun vs σ H Q=>GConsR t u vs σ H Q
theorem zdj:PGs X [] gNil:=by
 intro pins s σ H vs us Q I r h;obtain⟨e,h⟩:=h;subst e;cases r;exact assignInOrder_nil ⟨σ,H,I,h⟩
theorem zaw {e:Expr} {es:List Expr} {t:TG} {u:TGs} (h1:PG X e t) (h2:PGs X es u)
  (hs:(assignEach (e :: es) X.env).map (·.2)=assign e X.env :: (assignEach es X.env).map (·.2):=by rfl):PGs X (e :: es) (gCons t u):=by
 intro pins s σ H vs us Q I r h;obtain⟨v,vr,e1,h⟩:=h;subst e1;cases r with
 | cons r rr =>
  rw[hs];refine assignInOrder_cons (thn (h1 pins s σ H _ _ _ I r h) fun _ s1 ⟨σ1,H1,I1,q1⟩=>?_);exact h2 pins s1 σ1 H1 _ _ Q I1 rr q1
inductive GTupR(K:PySem.W.Frag)(n:Nat)(t:TGs)(v:V)(σ:St)(H:Hp)(Q:St->Hp->Prop):Prop
 | mk (a:Addr) (xs:List V) (e:v=.ref a) (s:SqT K H a xs) (l:xs.length=n) (q:t xs σ H Q):GTupR K n t v σ H Q
def gTup(K:PySem.W.Frag)(n:Nat)(t:TGs):TG:=fun v σ H Q=>GTupR K n t v σ H Q
theorem zqd {es:List Expr} {k:Nat} {t:TGs} {n:Nat} (hc:X.calm=true) (h:PGs X es t)
  (hn:(assignEach es X.env).length=n:=by rfl) (hst:(assignEach es X.env).findIdx? (·.1)=none:=by rfl):PG X (.Tuple es k pos) (gTup X.K n t):=by
 intro pins s σ H v u Q I r hw;obtain⟨a,xs,e1,hq,hl,hw⟩:=hw;subst e1;cases r;obtain⟨its,rv,ht,hz⟩:=I.tuple hq;refine assign_Tuple_tuple (I.ok.hd hc) ht (by simp[hn,<-hl,rv.length]) hst fun h' hx=>?_
 have I1:Inv X pins σ H { s with heap:=h' }:=I.kept (t':=s.toks) fun b o e=>hx b o (Nat.ne_of_lt (Heap.lt_size e)) e
 exact h pins _ σ H xs _ Q I1 (by simpa using rv) hw
def gSub(to ti:TE)(t:TSet):TG:=fun v σ H Q=>to σ H fun o H1=>ti σ H1 fun i H2=>t o i v H2 fun H3=>Q σ H3
theorem zjg {o i:Expr} {to ti:TE} {t:TSet} (ho:PE X o to) (hi:PE X i ti) (hs:PSet X t)
  (ha:∀v,assign (.Subscript o i pos) X.env v=(do
   let ov <-holding [v] (eval o X.env)
   let iv <-holding [v,ov] (eval i X.env)
   standAt pos
   holding [v,ov,iv] (setItem ov iv v)
   release [v,ov,iv] []):=by intro _; rfl):PG X (.Subscript o i pos) (gSub to ti t):=by
 intro pins s σ H v u Q I r h;rw[ha];refine wpAny_bind (wpAny_holding (thn (ho pins s σ H _ I h) fun ov s1 ⟨x,H1,I1,r1,q1⟩=>?_));refine wpAny_bind (wpAny_holding (thn (hi pins s1 σ H1 _ I1 q1) fun iv s2 ⟨y,H2,I2,r2,q2⟩=>?_));refine wpAny_bind (wpAny_standAt (wpAny_bind (wpAny_holding (thn (hs pins s2 σ H2 x y v ov iv u _ I2 r1 r2 r q2) fun _ s3 ⟨H3,I3,q3⟩=>?_))));exact wpAny_release ⟨σ,H3,I3,q3⟩
def tAsg(te:TE)(g:TG):TS:=fun D σ H=>te σ H fun x H1=>g x σ H1 D.nx
theorem zfr {tg e:Expr} {te:TE} {g:TG} (he:PE X e te) (hg:PG X tg g) (hs:swapsWithSole [tg] e pos.line X.env=pure false:=by rfl) (hw:swappedStores [tg] e X.env=pure none:=by rfl)
  (h1:(assignEach [tg] X.env).map (·.2)=[assign tg X.env]:=by rfl):PS X (.Assign [tg] e pos) (tAsg te g):=by
 intro pins s σ H D I h;refine wpAny_Assign_stores (thn (he pins s σ H _ I h) fun v s1 ⟨x,H1,I1,r1,q1⟩=>?_) hs hw;rw[h1];exact thn (hg pins s1 σ H1 x v _ I1 r1 q1) fun _ s2 q=>q
theorem za8{i:Nat}{x:Str}{e:Expr}{te:TE}{pos':Pos}(hN:X.N.Nodup)(hi:X.N[i]?=some x)(hx:Loc X.env.scope x)(he:PE X e te)(hs:swapsWith e (some (.Name x pos')) pos.line X.env=pure false:=by rfl)(hf:X.fn x=true\/X.env.scope.names.lookup x=some .local:=by first | exact .inl rfl | exact .inr rfl | assumption):
  PS X (.Assign [.Name x pos'] e pos) (tAsg te (gName i)):=by
 intro pins s σ H D I h;refine wpAny_Assign_Name (thn (he pins s σ H _ I h) fun v s1 ⟨y,H1,I1,r1,q1⟩=>?_) hs;exact zeg I1 hN hi hx r1 (fun s2 I2=>⟨_,H1,I2,q1⟩) hf
end
section
variable {X:Cx} {pos:Pos}
def tWhile(c:TT)(tb:TS):TS:=fun D σ H=>∃W:Nat->St->Hp->Prop,(∃m,W m σ H)/\∀m σ H,W m σ H →
 c σ H fun b H1=>if b=true then ∃N:St->Hp->Prop,(∀σ' H',N σ' H'->∃m',m' < m/\W m' σ' H')/\tb { D with nx:=N,ct:=N,bk:=D.nx } σ H1 else D.nx σ H1
theorem zds{c:Expr}{body:List Stmt}{tc:TT}{tb:TS}(hp:PassesOwn (model X.prog X.w) X.A X.env X.xe)(hc:PT X c tc)(hb:PSs X body tb):PS X (.While c body [] pos) (tWhile tc tb):=by
 intro pins s σ H D I h;obtain⟨W,⟨m0,w0⟩,turn⟩:=h;refine wpAny_While (codeAny_whileLoop (fun n s'=>∃σ' H',Inv X pins σ' H' s'/\W n σ' H') ?_ m0 ⟨σ,H,I,w0⟩);rintro n s1 ⟨σ1,H1,I1,w1⟩;refine wpAny_passesOwn hp (thn (hc pins s1 σ1 H1 _ I1 (turn n σ1 H1 w1)) fun b s2 ⟨H2,I2,q2⟩=>?_);cases b with
 | true =>
  obtain⟨N,hN,q2⟩:=q2;rw[if_pos rfl];refine wpAny_passesOwn hp (thn (hb pins s2 σ1 H2 _ I2 q2) fun f s3 q3=>?_);cases f with
  | next =>
   obtain⟨σ3,H3,I3,n3⟩:=q3;obtain⟨m',hm,w3⟩:=hN σ3 H3 n3;exact⟨m',hm,σ3,H3,I3,w3⟩
  | cont =>
   obtain⟨σ3,H3,I3,n3⟩:=q3;obtain⟨m',hm,w3⟩:=hN σ3 H3 n3;exact⟨m',hm,σ3,H3,I3,w3⟩
  | brk=>exact q3
  | ret v=>exact q3
 | false =>
  rw[if_neg Bool.false_ne_true];exact wpAny_execs_nil ⟨σ1,H2,I2,q2⟩
end
structure It where
 go:Nat->Hp->Prop
 yld:Nat->Hp->V->Hp->Prop
 stop:Nat->Hp->Prop
def FpOk(X:Cx)(pins:List (Addr×Obj))(H:Hp)(b:Addr):Prop :=
 H b=none/\b≠X.env.locals/\b∉X.fs/\(b∈X.ex\/X.s₀.heap.objs.size<=b)/\(∀x c,X.env.cells.lookup x=some c->c≠b)/\∀p∈X.pn++pins,p.1≠b
theorem Inv.fpOk{X:Cx}{pins:List (Addr×Obj)}{σ:St}{H H':Hp}{s:Shared}{b:Addr}(I:Inv X pins σ H s)(hb:s.heap.objs.size<=b)(hn:H' b=none):FpOk X pins H' b:=by
 refine⟨hn,Nat.ne_of_gt (Nat.lt_of_lt_of_le I.lt hb),I.nofs hb,.inr (Nat.le_trans I.sz hb),fun x c e z=>?_,fun p hp z=>?_⟩
 ·obtain⟨v,q⟩:=I.cell x c e;exact absurd (Nat.lt_of_lt_of_le q.lt (by rw[z]; exact hb)) (Nat.lt_irrefl _)
 ·exact absurd (Nat.lt_of_lt_of_le (Heap.lt_size (I.pin p hp).1) (by rw[z]; exact hb)) (Nat.lt_irrefl _)
structure Turn(P:Program)(w:World)(K:PySem.W.Frag)(tg:Expr)(J:It)(fp:List Addr)(it:Addr)(tn:Nat->Heap->Prop):Prop where
 mem:it∈fp
 obj:∀i h,tn i h->∀b∈fp,∃o,h.get? b=some o/\∀v,o.data≠.cell v
 keep:∀i h h',tn i h->(∀b∈fp,∀o,h.get? b=some o->h'.get? b=some o)->tn i h'
 item:∀(X:Cx),X.prog=P->X.w=w->X.K=K->X.calm=true->∀(i:Nat) (pins:List (Addr×Obj)) (s:Shared) (σ:St) (H:Hp) (E:Value->Shared->Prop),Inv X pins σ H s->(∀b∈fp,FpOk X pins H b)->tn i s.heap->J.go i H →
  wpAny (model P w) X.A (pyNext (.ref it)) (fun r s1=>∃u,r=some u /\
   wpAny (model P w) X.A (letOwnedTupleGo tg (.ref it) u) (fun _ s2=>∃x H',Inv X pins σ H' s2/\RelV x u/\J.yld i H x H'/\tn (i+1) s2.heap/\∀b∈fp,H' b=none) E s1) E s
 done:∀(X:Cx),X.prog=P->X.w=w->X.K=K->X.calm=true->∀(i:Nat) (pins:List (Addr×Obj)) (s:Shared) (σ:St) (H:Hp) (E:Value->Shared->Prop),Inv X pins σ H s->(∀b∈fp,FpOk X pins H b)->tn i s.heap->J.stop i H →
  wpAny (model P w) X.A (pyNext (.ref it)) (fun r s1=>r=none/\Inv X pins σ H s1) E s
 self:∀(A:Around) (i:Nat) (s:Shared) (Q:Value->Shared->Prop) (E:Value->Shared->Prop),tn i s.heap->Q (.ref it) s->wpAny (model P w) A (pyIter (.ref it)) Q E s
abbrev TI:=St->Hp->(It->Hp->Prop)->Prop
def PIE(X:Cx)(pins:List (Addr×Obj))(σ:St)(tg:Expr)(R:It->Hp->Prop)(itv:Value)(s2:Shared):Prop :=
 ∃(it:Addr) (fp:List Addr) (tn:Nat->Heap->Prop) (J:It) (H':Hp),itv=.ref it/\Inv X pins σ H' s2/\Turn X.prog X.w X.K tg J fp it tn/\tn 0 s2.heap/\(∀b∈fp,FpOk X pins H' b)/\R J H'
def PI(X:Cx)(tg iter:Expr)(wi:TI):Prop :=
 ∀(pins:List (Addr×Obj)) (s:Shared) (σ:St) (H:Hp) (R:It->Hp->Prop),Inv X pins σ H s->wi σ H R →
  wpAny (model X.prog X.w) X.A (eval iter X.env) (fun v s1=>wpAny (model X.prog X.w) X.A (pyIter v) (PIE X pins σ tg R) X.xe s1) X.xe s
theorem zpi {M : Model} {A : Around} {E : Value → Shared → Prop} {s : Shared} {tg : Expr} {it : Addr} {u : Value} {o : Obj} {n : String} {vs : Array Value} {Q : Unit → Shared → Prop} (ho : s.heap.get? it = some o) (hc : o.cls = .type n) (hd : o.data = .fields vs)
    (hn : ["enumerate", "zip", "dict_itemiterator", "dict_reverseitemiterator", "odict_iterator", "itertools.zip_longest", "itertools.pairwise"].contains n = false) (hQ : Q () s) : wpAny M A (letOwnedTupleGo tg (.ref it) u) Q E s := by
  unfold letOwnedTupleGo;cases tg <;> first
    | exact wpAny_pure hQ
    | (cases u <;> first
        | exact wpAny_pure hQ
        | (refine wpAny_bind (wpAny_load ho ?_)
           rw[hc, hd];show wpAny M A (if (["enumerate", "zip", "dict_itemiterator", "dict_reverseitemiterator", "odict_iterator", "itertools.zip_longest", "itertools.pairwise"].contains n && vs[0]? == some (rawInt _)) = true then _ else _) Q E s;rw[if_neg (by intro h; rw[hn, Bool.false_and] at h; cases h)];exact wpAny_pure hQ))
def Itl(K:PySem.W.Frag)(a:Addr):It :=
 ⟨fun i H=>∃xs x,SqL K H a xs/\xs[i]?=some x,fun i H x H'=>H'=H/\∀xs,SqL K H a xs->xs[i]?=some x,fun i H=>∃xs,SqL K H a xs/\xs.length<=i⟩
def Itt(K:PySem.W.Frag)(a:Addr):It :=
 ⟨fun i H=>∃xs x,SqT K H a xs/\xs[i]?=some x,fun i H x H'=>H'=H/\∀xs,SqT K H a xs->xs[i]?=some x,fun i H=>∃xs,SqT K H a xs/\xs.length<=i⟩
def Itr(lo:Int)(n:Nat):It:=⟨fun i _=>i<n,fun i H x H'=>H'=H/\x=.int (lo+i),fun i _=>n<=i⟩
theorem zl9{P:Program}{w:World}{K:PySem.W.Frag}{tg:Expr}(a it:Addr):Turn P w K tg (Itl K a) [it] it (fun i h=>h.IsListIter it a i) where
 mem:=by simp
 obj:=fun i h st b hb=>by
  have e:b=it:=by simpa using hb
  subst e;obtain⟨o,e,c,d⟩:=st;exact⟨o,e,fun v z=>by rw[d] at z; cases z⟩
 keep:=fun i h h' st k=>st.at fun o e=>k it (by simp) o e
 item:=by
  intro X hP hw hK hc i pins s σ H E I hf st hg;subst hP hw hK;obtain⟨xs,x,hq,hx⟩:=hg;obtain⟨its,rv,p,hz⟩:=I.list hq;obtain⟨u,hu,ru⟩:=rv.get hx;obtain⟨f0,f1,f2,f3,f4,f5⟩:=hf it (by simp);refine wpAny_pyNext_list_item st p.isList (x:=u) (by simpa using hu) fun h' st' sb=>?_
  have I1:Inv X pins σ H { s with heap:=h' }:=I.turned (t':=s.toks) (fun b o hb e=>(sb.2 b hb).trans e) f0 f1 f3 f4 f5;obtain⟨o,e,c,d⟩:=id st';exact⟨u,rfl,zpi (s:={ s with heap:=h' }) e c d (by decide) ⟨x,H,I1,ru,⟨rfl,fun ys hy=>by rw[I.list_inj hy hq]; exact hx⟩,st',fun b hb=>(hf b hb).1⟩⟩
 done:=by
  intro X hP hw hK hc i pins s σ H E I hf st hg;subst hP hw hK;obtain⟨xs,hq,hx⟩:=hg;obtain⟨its,rv,p,hz⟩:=I.list hq;obtain⟨f0,f1,f2,f3,f4,f5⟩:=hf it (by simp);have hl:=rv.length;exact wpAny_pyNext_list_end (I.ok.hd hc) st p.isList (by simp; omega) fun h' eb=>⟨rfl,I.turned (t':=s.toks) (fun b o hb e=>eb b o hb e) f0 f1 f3 f4 f5⟩
 self:=fun _ _ _ _ _ st h=>wpAny_pyIter_listiter st h
theorem zk9{P:Program}{w:World}{K:PySem.W.Frag}{tg:Expr}(a it:Addr):Turn P w K tg (Itt K a) [it] it (fun i h=>h.IsTupleIter it a i) where
 mem:=by simp
 obj:=fun i h st b hb=>by
  have e:b=it:=by simpa using hb
  subst e;obtain⟨o,e,c,d⟩:=st;exact⟨o,e,fun v z=>by rw[d] at z; cases z⟩
 keep:=fun i h h' st k=>st.at fun o e=>k it (by simp) o e
 item:=by
  intro X hP hw hK hc i pins s σ H E I hf st hg;subst hP hw hK;obtain⟨xs,x,hq,hx⟩:=hg;obtain⟨its,rv,p,hz⟩:=I.tuple hq;obtain⟨u,hu,ru⟩:=rv.get hx;obtain⟨f0,f1,f2,f3,f4,f5⟩:=hf it (by simp);refine wpAny_pyNext_tuple_item st (show s.heap.IsTuple a its.toArray from p) (x:=u) (by simpa using hu) fun h' st' sb=>?_
  have I1:Inv X pins σ H { s with heap:=h' }:=I.turned (t':=s.toks) (fun b o hb e=>(sb.2 b hb).trans e) f0 f1 f3 f4 f5;obtain⟨o,e,c,d⟩:=id st';exact⟨u,rfl,zpi (s:={ s with heap:=h' }) e c d (by decide) ⟨x,H,I1,ru,⟨rfl,fun ys hy=>by rw[I.tuple_inj hy hq]; exact hx⟩,st',fun b hb=>(hf b hb).1⟩⟩
 done:=by
  intro X hP hw hK hc i pins s σ H E I hf st hg;subst hP hw hK;obtain⟨xs,hq,hx⟩:=hg;obtain⟨its,rv,p,hz⟩:=I.tuple hq;obtain⟨f0,f1,f2,f3,f4,f5⟩:=hf it (by simp);have hl:=rv.length;exact wpAny_pyNext_tuple_end (I.ok.hd hc) st (show s.heap.IsTuple a its.toArray from p) (by simp; omega) fun h' eb=>⟨rfl,I.turned (t':=s.toks) (fun b o hb e=>eb b o hb e) f0 f1 f3 f4 f5⟩
 self:=fun _ _ _ _ _ st h=>wpAny_pyIter_tupleiter st h
theorem zka{P:Program}{w:World}{K:PySem.W.Frag}{tg:Expr}(it:Addr)(lo:Int)(n:Nat):Turn P w K tg (Itr lo n) [it] it (fun i h=>IsRangeIter h it (lo+(i:Nat)*1) ((n:Int)-(i:Nat)) 1) where
 mem:=by simp
 obj:=fun i h st b hb=>by
  have e:b=it:=by simpa using hb
  subst e;exact⟨_,st,fun v z=>by
   have z':Data.fields _=Data.cell v:=z;cases z'⟩
 keep:=fun i h h' st k=>k it (by simp) _ st
 item:=by
  intro X hP hw hK hc i pins s σ H E I hf st hg;subst hP hw hK;obtain⟨f0,f1,f2,f3,f4,f5⟩:=hf it (by simp);have W:=Walks.range (prog:=X.prog) (w:=X.w) (I.ok.hd hc) it lo 1 n;refine W.item i s _ _ hg st fun v h' tk hv st' kk=>?_
  obtain⟨t,rfl⟩:=hv;have I1:Inv X pins σ H { s with heap:=h',toks:=tk }:=I.turned (fun b o hb e=>kk b o (by simpa using hb) e) f0 f1 f3 f4 f5;refine⟨_,rfl,zpi (s:={ s with heap:=h',toks:=tk }) (n:="range_iterator") st' rfl rfl (by decide) ⟨.int (lo+i),H,I1,⟨t,?_⟩,⟨rfl,rfl⟩,st',fun b hb=>(hf b hb).1⟩⟩;rw[Int.mul_one]
 done:=by
  intro X hP hw hK hc i pins s σ H E I hf st hg;subst hP hw hK;obtain⟨f0,f1,f2,f3,f4,f5⟩:=hf it (by simp);exact wpAny_pyNext_range_end (I.ok.hd hc) st (by have:n<=i:=hg; omega) fun h' eb=>⟨rfl,I.turned (t':=s.toks) (fun b o hb e=>eb b o hb e) f0 f1 f3 f4 f5⟩
 self:=fun _ _ _ _ _ st h=>wpAny_pyIter_rangeiter st h
section
variable {X:Cx} {tg:Expr}
inductive IListR(K:PySem.W.Frag)(x:V)(H:Hp)(R:It->Hp->Prop):Prop
 | mk (a:Addr) (e:x=.ref a) (s:∃xs,SqL K H a xs) (q:R (Itl K a) H):IListR K x H R
inductive ITupR(K:PySem.W.Frag)(x:V)(H:Hp)(R:It->Hp->Prop):Prop
 | mk (a:Addr) (e:x=.ref a) (s:∃xs,SqT K H a xs) (q:R (Itt K a) H):ITupR K x H R
def iList(K:PySem.W.Frag)(tl:TE):TI:=fun σ H R=>tl σ H fun x H1=>IListR K x H1 R
def iTup(K:PySem.W.Frag)(tl:TE):TI:=fun σ H R=>tl σ H fun x H1=>ITupR K x H1 R
theorem zrn{l:Expr}{tl:TE}(hl:PE X l tl):PI X tg l (iList X.K tl):=by
 intro pins s σ H R I h;refine thn (hl pins s σ H _ I h) fun v s1 ⟨x,H1,I1,r1,q1⟩=>?_
 obtain⟨a,e,⟨xs,hq⟩,q⟩:=q1;subst e;cases r1;obtain⟨its,rv,p,hz⟩:=I1.list hq;refine wpAny_pyIter_list p.isList ?_;refine⟨s1.heap.objs.size,[s1.heap.objs.size],_,_,H1,rfl,I1.kept (t':=s1.toks) fun b o e=>Heap.get?_push_of_some _ e,zl9 a _,⟨_,Heap.get?_push_size _ rfl,rfl,rfl⟩,fun b hb=>?_,q⟩;have e:b=s1.heap.objs.size:=by simpa using hb
 subst e;exact I1.fpOk (Nat.le_refl _) (I1.hok.fresh (Nat.le_refl _))
theorem zlr{l:Expr}{tl:TE}(hl:PE X l tl):PI X tg l (iTup X.K tl):=by
 intro pins s σ H R I h;refine thn (hl pins s σ H _ I h) fun v s1 ⟨x,H1,I1,r1,q1⟩=>?_
 obtain⟨a,e,⟨xs,hq⟩,q⟩:=q1;subst e;cases r1;obtain⟨its,rv,p,hz⟩:=I1.tuple hq;refine wpAny_pyIter_tuple (show s1.heap.IsTuple a its.toArray from p) ?_;refine⟨s1.heap.objs.size,[s1.heap.objs.size],_,_,H1,rfl,I1.kept (t':=s1.toks) fun b o e=>Heap.get?_push_of_some _ e,zk9 a _,⟨_,Heap.get?_push_size _ rfl,rfl,rfl⟩,fun b hb=>?_,q⟩;have e:b=s1.heap.objs.size:=by simpa using hb
 subst e;exact I1.fpOk (Nat.le_refl _) (I1.hok.fresh (Nat.le_refl _))
theorem zoi {pins:List (Addr×Obj)} {σ:St} {H:Hp} {s:Shared} {R:It->Hp->Prop} {E:Value->Shared->Prop} {lo hi:Int} {t u v:Tok} {tk:Nat} (I:Inv X pins σ H s) (h1:-(2 ^ 62)<=lo) (h2:lo<2 ^ 62) (h3:-(2 ^ 62)<=hi) (h4:hi<2 ^ 62)
  (q:R (Itr lo (hi-lo).toNat) H):wpAny (model X.prog X.w) X.A (pyIter (.ref s.heap.objs.size)) (PIE X pins σ tg R) E { s with heap:=s.heap.push { cls:=.type "range",data:=.fields #[.int lo t,.int hi u,.int 1 v] },toks:=tk }:=by
 refine wpAny_pyIter_range (IsRange.new ..) (small_one h1 h2 h3 h4) ?_;have I1:Inv X pins σ H { s with heap:=s.heap.push { cls:=.type "range",data:=.fields #[.int lo t,.int hi u,.int 1 v] },toks:=tk }:=I.kept fun b o e=>Heap.get?_push_of_some _ e
 refine⟨(s.heap.push { cls:=.type "range",data:=.fields #[.int lo t,.int hi u,.int 1 v] }).objs.size,[(s.heap.push { cls:=.type "range",data:=.fields #[.int lo t,.int hi u,.int 1 v] }).objs.size],_,_,H,rfl,
  I1.kept (t':=tk) fun b o e=>Heap.get?_push_of_some _ e,zka _ lo (hi-lo).toNat,?_,fun b hb=>?_,q⟩
 ·have e1:lo+((0:Nat):Int)*1=lo:=by simp
  have e2:(((hi-lo).toNat:Nat):Int)-((0:Nat):Int)=Builtin.Range.rangeSize lo hi 1:=by rw[rangeSize_one]; split <;> omega
  show IsRangeIter _ _ (lo+((0:Nat):Int)*1) ((((hi-lo).toNat:Nat):Int)-((0:Nat):Int)) 1;rw[e1,e2];exact Heap.get?_push_size _ rfl
 ·have e:b=(s.heap.push { cls:=.type "range",data:=.fields #[.int lo t,.int hi u,.int 1 v] }).objs.size:=by simpa using hb
  subst e;exact I1.fpOk (Nat.le_refl _) (I1.hok.fresh (Nat.le_refl _))
def iRng1(ta:TA):TI:=fun σ H R=>ta σ H fun vs H1=>∃j:Int,vs=[.int j]/\-(2 ^ 62)<=j/\j<2 ^ 62/\R (Itr 0 j.toNat) H1
theorem zc7{a:Expr}{ta:TA}{p pos:Pos}(hg:Gl X "range")(hm:X.mg "range" = none)(ha:PA X [a] ta)(hs:starEach [a] X.env=[(false,eval a X.env)]:=by rfl):PI X tg (.Call (.Name "range" p) [a] [] pos) (iRng1 ta):=by
 intro pins s σ H R I h;refine Call_ (zhp I hg hm boot_range (PyProof.Rows.callWith_type1 (thn (ha pos pins s σ H _ I h) fun us s1 ⟨vs,H1,I1,r1,q1⟩=>?_) hs rfl));obtain⟨j,e,q1,q2,q⟩:=q1;subst e;cases r1 with
 | cons r rr =>
  cases rr;obtain⟨t,rfl⟩:=r;exact call_range_1 (zoi I1 (by omega) (by omega) q1 q2 (by simpa using q))
def tFor(wi:TI)(g:TG)(tb:TS):TS:=fun D σ H=>wi σ H fun J H1=>∃W:Nat->Nat->St->Hp->Prop,(∃m,W 0 m σ H1)/\∀i m σ H,W i m σ H →
 (J.stop i H/\D.nx σ H)\/(J.go i H/\∃N:St->Hp->Prop,(∀σ' H',N σ' H'->∃m',m' < m/\W (i+1) m' σ' H')/\∀x H',J.yld i H x H'->g x σ H' fun σ2 H2=>tb { D with nx:=N,ct:=N,bk:=D.nx } σ2 H2)
def pinsAt(fp:List Addr)(h:Heap):List (Addr×Obj):=fp.filterMap fun b=>(h.get? b).map fun o=>(b,o)
theorem zc6{fp:List Addr}{h:Heap}{b:Addr}{o:Obj}(hb:b∈fp)(e:h.get? b=some o):(b,o)∈pinsAt fp h:=List.mem_filterMap.mpr ⟨b,hb,by rw[e]; rfl⟩
theorem zm3{fp:List Addr}{h:Heap}{p:Addr×Obj}(hp:p∈pinsAt fp h):p.1∈fp/\h.get? p.1=some p.2:=by
 obtain⟨b,hb,e⟩:=List.mem_filterMap.mp hp;cases q:h.get? b with
 | none=>rw[q] at e; cases e
 | some o =>
  rw[q] at e;have e':(b,o)=p:=Option.some.inj e;subst e';exact⟨hb,q⟩
theorem Inv.pinned{pins:List (Addr×Obj)}{σ:St}{H:Hp}{s:Shared}{fp:List Addr}(I:Inv X pins σ H s)(hf:∀b∈fp,FpOk X pins H b)(ho:∀b∈fp,∃o,s.heap.get? b=some o/\∀v,o.data≠.cell v):Inv X (pins++pinsAt fp s.heap) σ H s :=
 I.pins_of fun p hp=>(List.mem_append.mp hp).elim (fun z=>I.pin p (List.mem_append_right _ z)) fun z=>by
  obtain⟨hb,e⟩:=zm3 z;obtain⟨f0,f1,f2,_⟩:=hf p.1 hb;obtain⟨o,e',d⟩:=ho p.1 hb;rw[e] at e'; cases e';exact⟨e,f0,f1,f2,d⟩
theorem Inv.unpinned{pins pl:List (Addr×Obj)}{σ:St}{H:Hp}{s:Shared}(I:Inv X (pins++pl) σ H s):Inv X pins σ H s:=I.pins_of fun p hp=>I.pin p (List.mem_append_right _ (List.mem_append_left _ hp))
theorem zbs {iter:Expr} {body:List Stmt} {wi:TI} {g:TG} {tb:TS} {pos:Pos} (hp:PassesOwn (model X.prog X.w) X.A X.env X.xe) (hc:X.calm=true) (hi:PI X tg iter wi) (hg:PG X tg g) (hb:PSs X body tb)
  (hs:∀x,foldedSetIterable iter X.env x=pure x:=by intro _; rfl):PS X (.For tg iter body [] pos) (tFor wi g tb):=by
 intro pins s σ H D I h;refine wpAny_For (thn (hi pins s σ H _ I h) fun v s1 h1=>thn h1 fun itv s2 h2=>?_) hs;obtain⟨it,fp,tn,J,H2,e,I2,T,st2,f2,W,⟨m0,w0⟩,turn⟩:=h2;subst e;have stat:∀{H':Hp},(∀b∈fp,H' b=none)->∀b∈fp,FpOk X pins H' b:=fun hn b hb=>⟨hn b hb,(f2 b hb).2⟩
 refine codeAny_forLoop_any (fun n s'=>∃i σ' H',Inv X pins σ' H' s'/\tn i s'.heap/\(∀b∈fp,H' b=none)/\W i n σ' H') ?_ m0 ⟨0,σ,H2,I2,st2,fun b hb=>(f2 b hb).1,w0⟩;rintro n s3 ⟨i,σ3,H3,I3,st3,fr3,w3⟩;rcases turn i n σ3 H3 w3 with ⟨stop,qn⟩ | ⟨go,N,hN,step⟩
 ·refine wpAny_passesOwn hp (thn (T.done X rfl rfl rfl hc i pins s3 σ3 H3 X.xe I3 (stat fr3) st3 stop) fun r s4 ⟨hr,I4⟩=>?_);subst hr;exact wpAny_execs_nil ⟨σ3,H3,I4,qn⟩
 ·refine wpAny_passesOwn hp (thn (T.item X rfl rfl rfl hc i pins s3 σ3 H3 X.xe I3 (stat fr3) st3 go) fun r s4 ⟨u,hr,h4⟩=>?_);subst hr;refine wpAny_passesOwn hp (thn h4 fun _ s5 ⟨x,H5,I5,r5,y5,st5,fr5⟩=>?_);have I5':=I5.pinned (stat fr5) (T.obj _ _ st5);refine wpAny_passesOwn hp (thn (hg _ s5 σ3 H5 x u _ I5' r5 (step x H5 y5)) fun _ s6 ⟨σ6,H6,I6,q6⟩=>?_);refine wpAny_passesOwn hp (thn (hb _ s6 σ6 H6 _ I6 q6) fun f s7 q7=>?_);have again:∀{σ7:St} {H7:Hp},Inv X (pins++pinsAt fp s5.heap) σ7 H7 s7->N σ7 H7->∃m,m<n/\∃i σ' H',Inv X pins σ' H' s7/\tn i s7.heap/\(∀b∈fp,H' b=none)/\W i m σ' H':=fun {σ7 H7} I7 n7=>by
   obtain⟨m',hm,w7⟩:=hN σ7 H7 n7;refine⟨m',hm,i+1,σ7,H7,I7.unpinned,T.keep _ _ _ st5 fun b hb o e=>(I7.pin (b,o) (List.mem_append_right _ (List.mem_append_right _ (zc6 hb e)))).1,fun b hb=>?_,w7⟩;obtain⟨o,e,d⟩:=T.obj _ _ st5 b hb;exact(I7.pin (b,o) (List.mem_append_right _ (List.mem_append_right _ (zc6 hb e)))).2.1
  cases f with
  | next=>obtain⟨σ7,H7,I7,n7⟩:=q7; exact again I7 n7
  | cont=>obtain⟨σ7,H7,I7,n7⟩:=q7; exact again I7 n7
  | brk=>obtain⟨σ7,H7,I7,q7⟩:=q7; exact⟨σ7,H7,I7.unpinned,q7⟩
  | ret v=>obtain⟨x7,σ7,H7,I7,r7,q7⟩:=q7; exact⟨x7,σ7,H7,I7.unpinned,r7,q7⟩
end
theorem zpl {K:PySem.W.Frag} {a:Addr} {xs:List V} {g:TG} {tb:TS} {D:Ends} {σ:St} {H:Hp} (Pv:Nat->St->Hp->Prop) (h0:Pv 0 σ H) (hl:∀i σ H,i<=xs.length->Pv i σ H->SqL K H a xs)
  (hs:∀i x σ H,xs[i]?=some x->Pv i σ H->g x σ H fun σ2 H2=>tb { D with nx:=Pv (i+1),ct:=Pv (i+1),bk:=D.nx } σ2 H2) (hd:∀σ H,Pv xs.length σ H->D.nx σ H) :
  ∃W:Nat->Nat->St->Hp->Prop,(∃m,W 0 m σ H)/\∀i m σ H,W i m σ H →
   ((Itl K a).stop i H/\D.nx σ H)\/((Itl K a).go i H/\∃N:St->Hp->Prop,(∀σ' H',N σ' H'->∃m',m' < m/\W (i+1) m' σ' H')/\∀x H',(Itl K a).yld i H x H'->g x σ H' fun σ2 H2=>tb { D with nx:=N,ct:=N,bk:=D.nx } σ2 H2):=by
 refine⟨fun i m σ H=>m=xs.length-i/\i<=xs.length/\Pv i σ H,⟨xs.length,by simp,Nat.zero_le _,h0⟩,?_⟩;rintro i m σ H ⟨rfl,hi,p⟩;have q:=hl i σ H hi p;by_cases hlt:i<xs.length
 ·refine .inr ⟨⟨xs,xs[i],q,by simp[hlt]⟩,Pv (i+1),fun σ' H' p'=>⟨xs.length-(i+1),by omega,rfl,hlt,p'⟩,fun x H' y=>?_⟩;obtain⟨e,y⟩:=y;subst e;exact hs i x σ _ (y xs q) p
 ·have e:i=xs.length:=by omega
  subst e;exact .inl ⟨⟨xs,q,Nat.le_refl _⟩,hd σ H p⟩
theorem ze9 {K:PySem.W.Frag} {a:Addr} {xs:List V} {g:TG} {tb:TS} {D:Ends} {σ:St} {H:Hp} (Pv:Nat->St->Hp->Prop) (h0:Pv 0 σ H) (hl:∀i σ H,i<=xs.length->Pv i σ H->SqT K H a xs)
  (hs:∀i x σ H,xs[i]?=some x->Pv i σ H->g x σ H fun σ2 H2=>tb { D with nx:=Pv (i+1),ct:=Pv (i+1),bk:=D.nx } σ2 H2) (hd:∀σ H,Pv xs.length σ H->D.nx σ H) :
  ∃W:Nat->Nat->St->Hp->Prop,(∃m,W 0 m σ H)/\∀i m σ H,W i m σ H →
   ((Itt K a).stop i H/\D.nx σ H)\/((Itt K a).go i H/\∃N:St->Hp->Prop,(∀σ' H',N σ' H'->∃m',m' < m/\W (i+1) m' σ' H')/\∀x H',(Itt K a).yld i H x H'->g x σ H' fun σ2 H2=>tb { D with nx:=N,ct:=N,bk:=D.nx } σ2 H2):=by
 refine⟨fun i m σ H=>m=xs.length-i/\i<=xs.length/\Pv i σ H,⟨xs.length,by simp,Nat.zero_le _,h0⟩,?_⟩;rintro i m σ H ⟨rfl,hi,p⟩;have q:=hl i σ H hi p;by_cases hlt:i<xs.length
 ·refine .inr ⟨⟨xs,xs[i],q,by simp[hlt]⟩,Pv (i+1),fun σ' H' p'=>⟨xs.length-(i+1),by omega,rfl,hlt,p'⟩,fun x H' y=>?_⟩;obtain⟨e,y⟩:=y;subst e;exact hs i x σ _ (y xs q) p
 ·have e:i=xs.length:=by omega
  subst e;exact .inl ⟨⟨xs,q,Nat.le_refl _⟩,hd σ H p⟩
theorem zcs {lo:Int} {n:Nat} {g:TG} {tb:TS} {D:Ends} {σ:St} {H:Hp} (Pv:Nat->St->Hp->Prop) (h0:Pv 0 σ H)
  (hs:∀i σ H,i<n->Pv i σ H->g (.int (lo+i)) σ H fun σ2 H2=>tb { D with nx:=Pv (i+1),ct:=Pv (i+1),bk:=D.nx } σ2 H2) (hd:∀σ H,Pv n σ H->D.nx σ H) :
  ∃W:Nat->Nat->St->Hp->Prop,(∃m,W 0 m σ H)/\∀i m σ H,W i m σ H →
   ((Itr lo n).stop i H/\D.nx σ H)\/((Itr lo n).go i H/\∃N:St->Hp->Prop,(∀σ' H',N σ' H'->∃m',m' < m/\W (i+1) m' σ' H')/\∀x H',(Itr lo n).yld i H x H'->g x σ H' fun σ2 H2=>tb { D with nx:=N,ct:=N,bk:=D.nx } σ2 H2):=by
 refine⟨fun i m σ H=>m=n-i/\i<=n/\Pv i σ H,⟨n,by simp,Nat.zero_le _,h0⟩,?_⟩;rintro i m σ H ⟨rfl,hi,p⟩;by_cases hlt:i<n
 ·refine .inr ⟨hlt,Pv (i+1),fun σ' H' p'=>⟨n-(i+1),by omega,rfl,hlt,p'⟩,fun x H' y=>?_⟩;obtain⟨e,y⟩:=y;subst e y;exact hs i σ _ hlt p
 ·have e:i=n:=by omega
  subst e;exact .inl ⟨Nat.le_refl _,hd σ H p⟩
theorem zdm {c:TT} {tb:TS} {D:Ends} {σ:St} {H:Hp} (Pv:St->Hp->Prop) (μ:St->Hp->Nat) (h0:Pv σ H)
  (hs:∀σ H,Pv σ H->c σ H fun b H1=>if b=true then tb { D with nx:=fun σ' H'=>Pv σ' H'/\μ σ' H' < μ σ H,ct:=fun σ' H'=>Pv σ' H'/\μ σ' H' < μ σ H,bk:=D.nx } σ H1 else D.nx σ H1)
  (mono:∀σ H Q Q',(∀b H1,Q b H1->Q' b H1)->c σ H Q->c σ H Q'):tWhile c tb D σ H:=by
 refine⟨fun m σ H=>m=μ σ H/\Pv σ H,⟨_,rfl,h0⟩,?_⟩;rintro m σ H ⟨rfl,p⟩;refine mono σ H _ _ (fun b H1 q=>?_) (hs σ H p);cases b with
 | true=>exact⟨_,fun σ' H' ⟨p',l⟩=>⟨_,l,rfl,p'⟩,q⟩
 | false=>exact q
abbrev R2:=V->V->Hp->VK->Prop
def OpR(X:Cx)(f:Value->Value->Sem Value)(r:R2):Prop :=
 ∀(pins:List (Addr×Obj)) (s:Shared) (σ:St) (H:Hp) (x y:V) (v u:Value) (Q:VK),Inv X pins σ H s->RelV x v->RelV y u->r x y H Q →
  wpAny (model X.prog X.w) X.A (f v u) (EP X pins σ Q) X.xe s
def UnR(X:Cx)(f:Value->Sem Value)(r:V->Hp->VK->Prop):Prop :=
 ∀(pins:List (Addr×Obj)) (s:Shared) (σ:St) (H:Hp) (x:V) (v:Value) (Q:VK),Inv X pins σ H s->RelV x v->r x H Q →
  wpAny (model X.prog X.w) X.A (f v) (EP X pins σ Q) X.xe s
def CallR(X:Cx)(f:Value)(r:List V->Hp->VK->Prop):Prop :=
 ∀(pins:List (Addr×Obj)) (s:Shared) (σ:St) (H:Hp) (xs:List V) (us:List Value) (Q:VK),Inv X pins σ H s->Vals xs us->r xs H Q →
  wpAny (model X.prog X.w) X.A (call f us) (EP X pins σ Q) X.xe s
def tOp(r:R2)(ta tb:TE):TE:=fun σ H Q=>ta σ H fun x H1=>tb σ H1 fun y H2=>r x y H2 Q
def tUn(r:V->Hp->VK->Prop)(ta:TE):TE:=fun σ H Q=>ta σ H fun x H1=>r x H1 Q
inductive IR(C:Int->Int->Prop)(g:Int->Int->V)(x y:V)(H:Hp)(Q:VK):Prop
 | mk (i j:Int) (a:x=.int i) (b:y=.int j) (c:C i j) (q:Q (g i j) H):IR C g x y H Q
def rI(C:Int->Int->Prop)(g:Int->Int->V):R2:=fun x y H Q=>IR C g x y H Q
inductive I0R(g:Int->Int->V)(x y:V)(H:Hp)(Q:VK):Prop
 | mk (i j:Int) (a:x=.int i) (b:y=.int j) (q:Q (g i j) H):I0R g x y H Q
def rI0(g:Int->Int->V):R2:=fun x y H Q=>I0R g x y H Q
def rU(g:Int->V):V->Hp->VK->Prop:=fun x H Q=>∃i,x=.int i/\Q (g i) H
section
variable {X:Cx} {a b c:Expr} {ta tb tc:TE} {pos:Pos}
theorem binT (ha:PE X a ta) (hb:PE X b tb) {pins:List (Addr×Obj)} {s:Shared} {σ:St} {H:Hp} {R:V->V->Hp->Prop} (I:Inv X pins σ H s)
  (h:ta σ H fun x H1=>tb σ H1 fun y H2=>R x y H2) {Q:Value->Shared->Prop} {f:Value->Value->Sem Value}
  (hf:∀v u s2 x y H2,Inv X pins σ H2 s2->RelV x v->RelV y u->R x y H2->wpAny (model X.prog X.w) X.A (f v u) Q X.xe s2) :
  wpAny (model X.prog X.w) X.A (eval a X.env) (fun v s₁=>wpAny (model X.prog X.w) X.A (eval b X.env) (fun u s₂=>wpAny (model X.prog X.w) X.A (f v u) Q X.xe s₂) X.xe s₁) X.xe s:=by
 refine thn (ha pins s σ H _ I h) fun v s1 ⟨x,H1,I1,r1,q1⟩=>?_
 refine thn (hb pins s1 σ H1 _ I1 q1) fun u s2 ⟨y,H2,I2,r2,q2⟩=>?_
 exact hf v u s2 x y H2 I2 r1 r2 q2
theorem za7{op:Operator}{r:R2}(ho:OpR X (binaryOp op) r)(ha:PE X a ta)(hb:PE X b tb):PE X (.BinOp a op b pos) (tOp r ta tb):=by
 intro pins s σ H Q I h;exact wpAny_BinOp (binT ha hb I h fun v u s2 x y H2 I2 rx ry q=>ho pins s2 σ H2 x y v u Q I2 rx ry q)
theorem pe_un{op:UnaryOp}{r:V->Hp->VK->Prop}(ho:UnR X (unaryOp op) r)(ha:PE X a ta):PE X (.UnaryOp op a pos) (tUn r ta):=by
 intro pins s σ H Q I h;exact UnaryOp_ (thn (ha pins s σ H _ I h) fun v s1 ⟨x,H1,I1,r1,q1⟩=>ho pins s1 σ H1 x v Q I1 r1 q1)
theorem opI {f:Value->Value->Sem Value} {C:Int->Int->Prop} {g:Int->Int->Int}
  (rule:∀(i j:Int) (t u:Tok) (s:Shared) (Q:Value->Shared->Prop) (E:Value->Shared->Prop),C i j->Q (.int (g i j) s.toks) { s with toks:=s.toks+1 }->wpAny (model X.prog X.w) X.A (f (.int i t) (.int j u)) Q E s) :
  OpR X f (rI C fun i j=>.int (g i j)):=by
 intro pins s σ H x y v u Q I rx ry h;obtain⟨i,j,rfl,rfl,hc,q⟩:=h;obtain⟨t,rfl⟩:=rx;obtain⟨t',rfl⟩:=ry;exact rule i j t t' s _ _ hc ⟨.int (g i j),H,I.tok _,⟨_,rfl⟩,q⟩
theorem opI0 {f:Value->Value->Sem Value} {g:Int->Int->Int}
  (rule:∀(i j:Int) (t u:Tok) (s:Shared) (Q:Value->Shared->Prop) (E:Value->Shared->Prop),Q (.int (g i j) s.toks) { s with toks:=s.toks+1 }->wpAny (model X.prog X.w) X.A (f (.int i t) (.int j u)) Q E s) :
  OpR X f (rI0 fun i j=>.int (g i j)):=by
 intro pins s σ H x y v u Q I rx ry h;obtain⟨i,j,rfl,rfl,q⟩:=h;obtain⟨t,rfl⟩:=rx;obtain⟨t',rfl⟩:=ry;exact rule i j t t' s _ _ ⟨.int (g i j),H,I.tok _,⟨_,rfl⟩,q⟩
theorem opB0 {f:Value->Value->Sem Value} {g:Int->Int->Bool}
  (rule:∀(i j:Int) (t u:Tok) (s:Shared) (Q:Value->Shared->Prop) (E:Value->Shared->Prop),Q (.bool (g i j)) s->wpAny (model X.prog X.w) X.A (f (.int i t) (.int j u)) Q E s) :
  OpR X f (rI0 fun i j=>.bl (g i j)):=by
 intro pins s σ H x y v u Q I rx ry h;obtain⟨i,j,rfl,rfl,q⟩:=h;obtain⟨t,rfl⟩:=rx;obtain⟨t',rfl⟩:=ry;exact rule i j t t' s _ _ ⟨.bl (g i j),H,I,rfl,q⟩
def CDiv(i j:Int):Prop:=0<j/\j<1073741824
def CPow(i j:Int):Prop:=0<=j/\j<=1000000/\i.natAbs<2 ^ 64
def CMul(i j:Int):Prop:=(-(2 ^ 64)<i/\i<2 ^ 64)\/(-(2 ^ 64)<j/\j<2 ^ 64)
theorem CMul.ok{i j:Int}(h:CMul i j):IntMulOk i j:=by
 rcases h with ⟨h1,h2⟩ | ⟨h1,h2⟩
 ·exact .of_left (intBits_le_64 h1 h2)
 ·exact .of_right (intBits_le_64 h1 h2)
theorem zb1:OpR X (binaryOp .Add) (rI0 fun i j=>.int (i+j)):=opI0 fun _ _ _ _ _ _ _ q=>add_int q
theorem zd8:OpR X (binaryOp .Sub) (rI0 fun i j=>.int (i-j)):=opI0 fun _ _ _ _ _ _ _ q=>sub_int q
theorem zcq:OpR X (binaryOp .Mult) (rI CMul fun i j=>.int (i*j)):=opI fun _ _ _ _ _ _ _ hc q=>mul_int q hc.ok
theorem zat:OpR X (binaryOp .FloorDiv) (rI CDiv fun i j=>.int (i / j)):=opI fun i j _ _ _ _ _ hc q=>by
 have h1:(0:Int)<j:=hc.1;have h2:j<1073741824:=hc.2;exact floordiv_int (by omega) (by rw[Int.fdiv_eq_ediv_of_nonneg i (by omega)]; exact q) (.inl (PyProof.noPylong_small (by omega)))
theorem zaj:OpR X (binaryOp .Mod) (rI (fun _ j=>0<j) fun i j=>.int (i % j)):=opI fun i j _ _ _ _ _ hc q=>by
 have h1:(0:Int)<j:=hc;exact mod_int' (by omega) (by rw[Int.fmod_eq_emod_of_nonneg i (by omega)]; exact q)
theorem zrq:OpR X (binaryOp .Mod) (rI (fun _ j=>j≠0) fun i j=>.int (i.fmod j)):=opI fun _ _ _ _ _ _ _ hc q=>mod_int' hc q
theorem zjn:OpR X (binaryOp .Pow) (rI CPow fun i j=>.int (i ^ j.toNat)):=opI fun _ _ _ _ _ _ _ hc q=>pow_int_small hc.1 hc.2.1 hc.2.2 q
theorem zjm:OpR X (binaryOp .BitXor) (rI0 fun i j=>.int (Builtin.bitXor i j)):=opI0 fun _ _ _ _ _ _ _ q=>xor_int q
theorem unI {f:Value->Sem Value} {g:Int->Int}
  (rule:∀(i:Int) (t:Tok) (s:Shared) (Q:Value->Shared->Prop) (E:Value->Shared->Prop),Q (.int (g i) s.toks) { s with toks:=s.toks+1 }->wpAny (model X.prog X.w) X.A (f (.int i t)) Q E s) :
  UnR X f (rU fun i=>.int (g i)):=by
 intro pins s σ H x v Q I rx h;obtain⟨i,rfl,q⟩:=h;obtain⟨t,rfl⟩:=rx;exact rule i t s _ _ ⟨.int (g i),H,I.tok _,⟨_,rfl⟩,q⟩
theorem zq1:UnR X (unaryOp .USub) (rU fun i=>.int (-i)):=unI fun _ _ _ _ _ q=>neg_int q
end
def scal:V->V->Bool
 | .non,.non=>true | .non,.int _=>true | .int _,.non=>true | .non,.bl _=>true | .bl _,.non=>true | .non,.str _=>true | .str _,.non=>true
 | .int _,.int _=>true | .bl _,.bl _=>true | .str _,.str _=>true | .byt _,.byt _=>true
 | .int _,.str _=>true | .str _,.int _=>true | .bl _,.str _=>true | .str _,.bl _=>true
 | _,_=>false
inductive EqR(x y:V)(H:Hp)(Q:VK):Prop
 | mk (c:scal x y=true) (q:Q (.bl (decide (x=y))) H):EqR x y H Q
inductive NeR(x y:V)(H:Hp)(Q:VK):Prop
 | mk (c:scal x y=true) (q:Q (.bl (!decide (x=y))) H):NeR x y H Q
def rEq:R2:=fun x y H Q=>EqR x y H Q
def rNe:R2:=fun x y H Q=>NeR x y H Q
theorem zn6{i j:Int}:decide (V.int i=V.int j)=(i == j):=by
 rw[Bool.eq_iff_iff];simp
theorem zqp{i j:Bool}:decide (V.bl i=V.bl j)=(i == j):=by
 rw[Bool.eq_iff_iff];simp
theorem zn5{i j:Str}:decide (V.str i=V.str j)=(i == j):=by
 rw[Bool.eq_iff_iff];simp
theorem zn7{i j:Array UInt8}:decide (V.byt i=V.byt j)=(i.toList == j.toList):=by
 rw[Bool.eq_iff_iff];cases i;cases j;simp
section
variable {X:Cx} {a b c:Expr} {ta tb tc:TE} {pos:Pos}
theorem zan{pins:List (Addr×Obj)}{σ:St}{H:Hp}{s:Shared}{Q:VK}{k k':Bool}(I:Inv X pins σ H s)(q:Q (.bl k) H)(e:k=k'):EP X pins σ Q (.bool k') s:=by
 subst e;exact⟨.bl k,H,I,rfl,q⟩
theorem zd7:OpR X (compareOp .Eq) rEq:=by
 intro pins s σ H x y v u Q I rx ry h;obtain⟨hs,q⟩:=h;cases x with
 | non =>
  cases rx;cases y with
  | non=>cases ry; exact PySem.EqNone.eq_none_none (zan I q (by simp))
  | bl j=>cases ry; exact PySem.EqNone.eq_none_bool (zan I q (by simp))
  | int j=>obtain⟨t',rfl⟩:=ry; exact PySem.EqNone.eq_none_int (zan I q (by simp))
  | str j=>obtain⟨t',rfl⟩:=ry; exact PySem.EqNone.eq_none_str (zan I q (by simp))
  | _=>exact absurd (show false=true from hs) Bool.false_ne_true
 | bl i =>
  cases rx;cases y with
  | non=>cases ry; exact PySem.EqNone.eq_bool_none (zan I q (by simp))
  | bl j=>cases ry; exact eq_bool (zan I q zqp)
  | str j=>obtain⟨t',rfl⟩:=ry; exact PySem.EqMixed.eq_bool_str (zan I q (by simp))
  | _=>exact absurd (show false=true from hs) Bool.false_ne_true
 | int i =>
  obtain⟨t,rfl⟩:=rx;cases y with
  | non=>cases ry; exact PySem.EqNone.eq_int_none (zan I q (by simp))
  | int j=>obtain⟨t',rfl⟩:=ry; exact eq_int (zan I q zn6)
  | str j=>obtain⟨t',rfl⟩:=ry; exact PySem.EqMixed.eq_int_str (zan I q (by simp))
  | _=>exact absurd (show false=true from hs) Bool.false_ne_true
 | str i =>
  obtain⟨t,rfl⟩:=rx;cases y with
  | non=>cases ry; exact PySem.EqNone.eq_str_none (zan I q (by simp))
  | bl j=>cases ry; exact PySem.EqMixed.eq_str_bool (zan I q (by simp))
  | int j=>obtain⟨t',rfl⟩:=ry; exact PySem.EqMixed.eq_str_int (zan I q (by simp))
  | str j=>obtain⟨t',rfl⟩:=ry; exact eq_str (zan I q zn5)
  | _=>exact absurd (show false=true from hs) Bool.false_ne_true
 | byt i =>
  obtain⟨t,rfl⟩:=rx;cases y with
  | byt j=>obtain⟨t',rfl⟩:=ry; exact PySem.W.eq_bytes (zan I q zn7)
  | _=>exact absurd (show false=true from hs) Bool.false_ne_true
 | _=>cases y <;> exact absurd (show false=true from hs) Bool.false_ne_true
theorem zhk:OpR X (compareOp .NotEq) rNe:=by
 intro pins s σ H x y v u Q I rx ry h;obtain⟨hs,q⟩:=h;cases x with
 | non =>
  cases rx;cases y with
  | non=>cases ry; exact PySem.EqNone.ne_none_none (zan I q (by simp))
  | bl j=>cases ry; exact PySem.EqNone.ne_none_bool (zan I q (by simp))
  | int j=>obtain⟨t',rfl⟩:=ry; exact PySem.EqNone.ne_none_int (zan I q (by simp))
  | str j=>obtain⟨t',rfl⟩:=ry; exact PySem.EqNone.ne_none_str (zan I q (by simp))
  | _=>exact absurd (show false=true from hs) Bool.false_ne_true
 | bl i =>
  cases rx;cases y with
  | non=>cases ry; exact PySem.EqNone.ne_bool_none (zan I q (by simp))
  | bl j=>cases ry; exact ne_bool (zan I q (congrArg not zqp))
  | str j=>obtain⟨t',rfl⟩:=ry; exact PySem.EqMixed.ne_bool_str (zan I q (by simp))
  | _=>exact absurd (show false=true from hs) Bool.false_ne_true
 | int i =>
  obtain⟨t,rfl⟩:=rx;cases y with
  | non=>cases ry; exact PySem.EqNone.ne_int_none (zan I q (by simp))
  | int j=>obtain⟨t',rfl⟩:=ry; exact ne_int (zan I q (congrArg not zn6))
  | str j=>obtain⟨t',rfl⟩:=ry; exact PySem.EqMixed.ne_int_str (zan I q (by simp))
  | _=>exact absurd (show false=true from hs) Bool.false_ne_true
 | str i =>
  obtain⟨t,rfl⟩:=rx;cases y with
  | non=>cases ry; exact PySem.EqNone.ne_str_none (zan I q (by simp))
  | bl j=>cases ry; exact PySem.EqMixed.ne_str_bool (zan I q (by simp))
  | int j=>obtain⟨t',rfl⟩:=ry; exact PySem.EqMixed.ne_str_int (zan I q (by simp))
  | str j=>obtain⟨t',rfl⟩:=ry; exact ne_str (zan I q (congrArg not zn5))
  | _=>exact absurd (show false=true from hs) Bool.false_ne_true
 | byt i =>
  obtain⟨t,rfl⟩:=rx;cases y with
  | byt j=>obtain⟨t',rfl⟩:=ry; exact PySem.W.ne_bytes (zan I q (congrArg not zn7))
  | _=>exact absurd (show false=true from hs) Bool.false_ne_true
 | _=>cases y <;> exact absurd (show false=true from hs) Bool.false_ne_true
theorem zf1:OpR X (compareOp .Lt) (rI0 fun i j=>.bl (decide (i<j))):=opB0 fun _ _ _ _ _ _ _ q=>lt_int q
theorem zim:OpR X (compareOp .Gt) (rI0 fun i j=>.bl (decide (j<i))):=opB0 fun _ _ _ _ _ _ _ q=>gt_int q
theorem op_ge:OpR X (compareOp .GtE) (rI0 fun i j=>.bl (decide (j<=i))):=opB0 fun _ _ _ _ _ _ _ q=>ge_int q
theorem op_isN:OpR X (compareOp .Is) (fun x y H Q=>y=.non/\Q (.bl (decide (x=.non))) H):=by
 intro pins s σ H x y v u Q I rx ry h;obtain⟨rfl,q⟩:=h;cases ry;refine is_none_gen (zan I q ?_);cases x <;> first
  | (cases rx; rfl)
  | (obtain⟨t,rfl⟩:=rx; rfl)
theorem zhj:OpR X (compareOp .NotIn) (fun x y H Q=>∃i j,x=.str i/\y=.str j/\Q (.bl (!(!(Builtin.Str.occurrences j i 0 j.length 1).isEmpty))) H):=by
 intro pins s σ H x y v u Q I rx ry h;obtain⟨i,j,rfl,rfl,q⟩:=h;obtain⟨t,rfl⟩:=rx;obtain⟨t',rfl⟩:=ry;exact notIn_str (zan I q rfl)
theorem nomark(b:Expr){op:CmpOp}(h:op≠.In:=by decide)(h2:op≠.NotIn:=by decide):behindInMarks op b=false:=by
 have e1:(op == CmpOp.In)=false:=by cases op <;> first | rfl | exact absurd rfl h
 have e2:(op == CmpOp.NotIn)=false:=by cases op <;> first | rfl | exact absurd rfl h2
 cases b <;> simp[behindInMarks,e1,e2]
theorem zgk{op:CmpOp}{r:R2}(ho:OpR X (compareOp op) r)(ha:PE X a ta)(hb:PE X b tb)(hm:behindInMarks op b=false):PE X (.Compare a [op] [b] pos) (tOp r ta tb):=by
 intro pins s σ H Q I h;exact wpAny_Compare1 (binT ha hb I h fun v u s2 x y H2 I2 rx ry q=>ho pins s2 σ H2 x y v u Q I2 rx ry q) hm
def tTest(t:TE):TT:=fun σ H Q=>t σ H fun x H'=>BlR x H' Q
theorem zac{op:CmpOp}{r:R2}(ho:OpR X (compareOp op) r)(ha:PE X a ta)(hb:PE X b tb)(hm:behindInMarks op b=false):PT X (.Compare a [op] [b] pos) (tTest (tOp r ta tb)):=by
 intro pins s σ H Q I h;refine wpAny_isTrue_Compare1 (thn (ha pins s σ H _ I h) fun v s1 ⟨x,H1,I1,r1,q1⟩=>thn (hb pins s1 σ H1 _ I1 q1) fun u s2 ⟨y,H2,I2,r2,q2⟩ =>
  thn (ho pins s2 σ H2 x y v u _ I2 r1 r2 q2) fun c s3 ⟨z,H3,I3,r3,k,e,q3⟩=>?_) hm
 subst e;cases r3;exact wpAny_truthy_bool ⟨H3,I3,q3⟩
theorem line63:(sizeLine:Nat)<2 ^ 63:=by rw[sizeLine_eq]; decide
theorem zbo:OpR X (binaryOp .Add) (fun x y H Q=>∃i j,x=.str i/\y=.str j/\i.length+j.length<=sizeLine/\Q (.str (i++j)) H):=by
 intro pins s σ H x y v u Q I rx ry h;obtain⟨i,j,rfl,rfl,hz,q⟩:=h;obtain⟨t,rfl⟩:=rx;obtain⟨t',rfl⟩:=ry;exact add_str (fun t' tk=>⟨.str (i++j),H,I.tok _,⟨_,rfl⟩,q⟩) hz
theorem vals1{x:V}{us:List Value}(r:Vals [x] us):∃u,us=[u]/\RelV x u:=by
 cases r with
 | cons r1 r2=>cases r2; exact⟨_,rfl,r1⟩
theorem vals2{x y:V}{us:List Value}(r:Vals [x,y] us):∃u w',us=[u,w']/\RelV x u/\RelV y w':=by
 cases r with
 | cons r1 r2 =>
  cases r2 with
  | cons r3 r4=>cases r4; exact⟨_,_,rfl,r1,r3⟩
theorem zh1:CallR X (.builtin "abs") (fun xs H Q=>∃i,xs=[.int i]/\Q (.int (if i<0 then -i else i)) H):=by
 intro pins s σ H xs us Q I r h;obtain⟨i,rfl,q⟩:=h;obtain⟨u,rfl,t,rfl⟩:=vals1 r;exact call_abs_int fun u tk=>⟨.int (if i<0 then -i else i),H,I.tok _,⟨_,rfl⟩,q⟩
theorem znh:CallR X (.type "int") (fun xs H Q=>(∃i,xs=[.int i]/\Q (.int i) H)\/∃k,xs=[.bl k]/\Q (.int (if k then 1 else 0)) H):=by
 intro pins s σ H xs us Q I r h;rcases h with ⟨i,rfl,q⟩ | ⟨k,rfl,q⟩
 ·obtain⟨u,rfl,t,rfl⟩:=vals1 r;exact call_int_int ⟨.int i,H,I,⟨_,rfl⟩,q⟩
 ·obtain⟨u,rfl,r1⟩:=vals1 r;cases r1;exact call_int_bool ⟨.int (if k then 1 else 0),H,I.tok _,⟨_,rfl⟩,q⟩
theorem zbp:CallR X (.type "str") (fun xs H Q=>∃i,xs=[.int i]/\i.natAbs.log2<1920/\Q (.str (toString i)) H):=by
 intro pins s σ H xs us Q I r h;obtain⟨i,rfl,hz,q⟩:=h;obtain⟨u,rfl,t,rfl⟩:=vals1 r;exact PySem.P.str_of_int hz ⟨.str _,H,I.tok _,⟨_,rfl⟩,q⟩
end
structure ObjM(h:Heap)(x dx C:Addr)(mA:Str->Option Value):Prop where
 obj:h.get? x=some (PySem.W.instObj C dx)
 ns:h.Ns1 dx mA
 ne:dx≠x
theorem zmf{h:Heap}{dx:Addr}{mA:Str->Option Value}(n:h.Ns1 dx mA):∃od,h.get? dx=some od/\∀name,PySem.W.lookIn name od=some (mA name):=by
 obtain⟨o,es,ep,ho,hd,hk,_,hm⟩:=n;refine⟨o,ho,fun name=>?_⟩;have e:=hm name;unfold nsFind findBy at e;rw[<-Array.find?_toList] at e;unfold PySem.W.lookIn;rw[hd];dsimp only;split
 ·rename_i y q
  rw[q] at e;exact congrArg some e
 ·rename_i q
  rw[q] at e;have a:es.toList.any (·.refKey)=false:=by
   rw[List.any_eq_false];intro y hy;obtain⟨z,t,hkey⟩:=hk y (Array.mem_toList_iff.mp hy);simp[DictEntry.refKey,hkey]
  have a':¬es.toList.any (·.refKey)=true:=by rw[a]; exact Bool.false_ne_true
  rw[if_neg a'];exact congrArg some e
theorem ObjM.look{h:Heap}{x dx C:Addr}{mA:Str->Option Value}(I:ObjM h x dx C mA):∃od,PySem.W.InstAt h x (PySem.W.instObj C dx) C (some od)/\∀name,PySem.W.lookIn name od=some (mA name) :=
 let ⟨od,ho,hl⟩:=zmf I.ns
 ⟨od,⟨I.obj,rfl,rfl,ho⟩,hl⟩
section
variable {prog:Program} {w:World} {A:Around} {E:Value->Shared->Prop} {s:Shared} {K:PySem.W.Frag} {x dx C f:Addr} {mA:Str->Option Value} {name:Str} {v:Value}
theorem set_map {ns:List Str} {Q:Unit->Shared->Prop} (X:K.In s.heap) (I:ObjM s.heap x dx C mA)
  (hs:PySem.W.findIn K (.ref C) "__setattr__" = some (some (.builtin "object.__setattr__"))) (hp:PySem.W.plainOver K C=true) (ht:PySem.W.takerIn K C name=some none) (hh:PySem.W.hasDictIn K C=true)
  (hw:PySem.Within mA ns) (hsz:ns.length<=sizeLine)
  (h:∀h',ObjM h' x dx C (fun y=>if y=name then some v else mA y)->Heap.SameBut dx s.heap h'->Q () { s with heap:=h',toks:=s.toks+2 }) :
  wpAny (model prog w) A (setAttr (.ref x) name v) Q E s:=by
 obtain⟨od,J,hl⟩:=I.look;refine PySem.W.set_plain X J hs (PySem.W.osa_open (s:={ s with toks:=s.toks+1 }) (r:=none) X J hp ht fun b=>?_);obtain⟨cd,hc,hd'⟩:=PySem.W.any_some hh;have hx:s.heap.get? x=some ⟨.ref C,some dx,.plain,#[]⟩:=I.obj;refine wpAny_bind (wpAny_pure (wpAny_bind (wpAny_bind (wpAny_loadPart hx (wpAny_bind (PySem.W.Looks.here (s:={ s with toks:=s.toks+1 }) (PySem.W.looks_clsIn X hc) ?_))))));rw[hd'];refine wpAny_pure (a:=some dx) (wpAny_bind (wpAny_pure (wpAny_bind ?_)));refine wpAny_nsSet1 (s:={ s with toks:=s.toks+1 }) I.ns fun h' hn2 hs2=>?_
 obtain⟨oD,esD,epD,hoD,hdD,hcD⟩:=hn2.count (PySem.Within.cons name v hw);refine wpAny_bind (wpAny_lookBehind hoD (by rw[hdD]; exact pastItsLine_dict (Nat.le_trans hcD (by rw[List.length_cons]; omega))) ?_);exact wpAny_pure (h _ ⟨(hs2.2 _ (Ne.symm I.ne)).trans I.obj,hn2,I.ne⟩ hs2)
end
theorem RelO.some_of{v:V}{o:Option Value}(r:RelO (some v) o):∃u,o=some u/\RelV v u:=by
 cases o with
 | none=>exact(show False from r).elim
 | some u=>exact⟨u,rfl,r⟩
theorem zmu{v:V}{u:Value}(r:RelV v u):PySem.W.handedIn u=true:=by
 cases v with
 | non=>cases (show u=Value.none from r); rfl
 | bl b=>cases (show u=Value.bool b from r); rfl
 | int i=>obtain⟨t,e⟩:=(show ∃t,u=Value.int i t from r); cases e; rfl
 | str x=>obtain⟨t,e⟩:=(show ∃t,u=Value.str x t from r); cases e; rfl
 | byt b=>obtain⟨t,e⟩:=(show ∃t,u=Value.bytes b t from r); cases e; rfl
 | flt b=>obtain⟨t,e⟩:=(show ∃t,u=Value.float b t from r); cases e; rfl
 | ref a=>cases (show u=Value.ref a from r); rfl
 | ty n=>cases (show u=Value.type n from r); rfl
section
variable {P:Program} {w:World} {H H':Hp} {h h':Heap} {a C dx:Addr} {fs fs':List (Str×V)}
end
structure Cls(K:PySem.W.Frag)(C:Addr):Prop where
 pg:PySem.W.plainGet K C Str.empty=true
 hd:PySem.W.hasDictIn K C=true
 po:PySem.W.plainOver K C=true
 sa:PySem.W.findIn K (.ref C) "__setattr__" = some (some (.builtin "object.__setattr__"))
theorem Cls.get{K:PySem.W.Frag}{C:Addr}(c:Cls K C)(f:Str):PySem.W.plainGet K C f=true:=c.pg
section
variable {X:Cx} {pins:List (Addr×Obj)} {σ:St} {H:Hp} {s:Shared} {a C dx:Addr} {fs:List (Str×V)} {f:Str} {v:V} {A:Around} {E:Value->Shared->Prop}
theorem zsw {prog:Program} {w:World} {env:Env} {e:Expr} {f:Str} {pos:Pos} {s:Shared} {Q:Value->Shared->Prop} (hb:attributeBase e f env (eval e env)=eval e env)
  (h:wpAny (model prog w) A (eval e env) (fun o s₁=>wpAny (model prog w) A (getAttr o f true) Q E s₁) E s):wpAny (model prog w) A (eval (.Attribute e f pos) env) Q E s :=
 Attribute_any_ h (by rw[arm_eval_Attribute,hb])
end
section
variable {X:Cx} {o e value:Expr} {f:Str} {pos pos' tpos:Pos} {ta tv:TE}
end
section
variable {X:Cx} {pins:List (Addr×Obj)} {σ:St} {H:Hp} {s:Shared} {A:Around} {E:Value->Shared->Prop} {Q:Value->Shared->Prop} {c:Value} {b:Bool}
end
structure Room(k:Nat)(A:Around):Prop where
 hd:A.handled=none
 dp:A.depth+3*k+5<recursionLimit
 un:A.units+16*k+200<cLine
theorem Room.mono{j k:Nat}{A:Around}(r:Room k A)(h:j<=k):Room j A:=⟨r.hd,by have:=r.dp; omega,by have:=r.un; omega⟩
theorem Room.deeper{k:Nat}{A:Around}(r:Room (k+1) A)(env:Env):Room k (A.deeper env) :=
 ⟨r.hd,by have:=r.dp; show A.depth+1+3*k+5<_; omega,by have:=r.un; show A.units+3+16*k+200<_; omega⟩
theorem Room.in1{k:Nat}{A:Around}(r:Room (k+1) A):Room k A.in1 :=
 ⟨r.hd,by have:=r.dp; show A.depth+3*k+5<_; omega,by have:=r.un; show A.units+1+16*k+200<_; omega⟩
theorem zks{A:Around}{C:Addr}{us:List Value}{kw:List (Str×Value)}:(A.under (.builtin "type.__call__" ⟨.ref C :: us,kw⟩)).depth=A.depth+1:=by
 first | rfl | simp[Around.under,Code.weight,Code.isCreation,Code.isGuard,Code.isCaller,Code.frames,Code.isFrame,guardIds]
theorem zkr{A:Around}{C:Addr}{us:List Value}{kw:List (Str×Value)}:(A.under (.builtin "type.__call__" ⟨.ref C :: us,kw⟩)).units=A.units+1:=by
 first | rfl | simp[Around.under,Code.cUnits,Code.frames,Code.isFrame]
theorem Room.make{k:Nat}{A:Around}(r:Room (k+1) A)(C:Addr)(us:List Value)(kw:List (Str×Value)):Room k (A.under (.builtin "type.__call__" ⟨.ref C :: us,kw⟩)) :=
 ⟨r.hd,by have:=r.dp; rw[zks]; omega,by have:=r.un; rw[zkr]; omega⟩
theorem Room.depth{k:Nat}{A:Around}(r:Room k A):A.depth<recursionLimit:=by have:=r.dp; omega
theorem Room.units{k:Nat}{A:Around}(r:Room k A):A.units+64<cLine:=by have:=r.un; omega
def tNil:TA:=fun _ H Q=>Q [] H
def tCons(ta:TE)(tr:TA):TA:=fun σ H Q=>ta σ H fun x H1=>tr σ H1 fun xs H2=>Q (x :: xs) H2
section
variable {X:Cx} {e:Expr} {es:List Expr} {te:TE} {t:TA} {pos:Pos}
theorem za4:PA X [] tNil:=fun _ _ _ _ H Q I h=>Calls.spliced_nil ⟨[],H,I,.nil,h⟩
theorem za0(ha:PE X e te)(hr:PA X es t)(hs:starEach (e :: es) X.env=(false,eval e X.env) :: starEach es X.env:=by rfl):PA X (e :: es) (tCons te t):=by
 intro pos pins s σ H Q I h;rw[hs];show wpAny _ _ (spliced ((false,eval e X.env) :: backTo pos (starEach es X.env))) _ _ s;refine Calls.spliced_cons (thn (ha pins s σ H _ I h) fun u s1 ⟨x,H1,I1,r1,q1⟩=>?_);exact thn (hr pos pins s1 σ H1 _ I1 q1) fun us s2 ⟨xs,H2,I2,r2,q2⟩=>⟨x :: xs,H2,I2,.cons r1 r2,q2⟩
inductive TupNR(xs:List V)(H:Hp)(Q:VK):Prop
 | mk (n:xs.length<=sizeLine) (q:∀p,H p=none->Q (.ref p) (upd H p (.tup xs))):TupNR xs H Q
inductive LstNR(xs:List V)(H:Hp)(Q:VK):Prop
 | mk (n:xs.length<=sizeLine) (q:∀p,H p=none->Q (.ref p) (upd H p (.lst xs))):LstNR xs H Q
def tTup(t:TA):TE:=fun σ H Q=>t σ H fun xs H1=>TupNR xs H1 Q
def tLst(t:TA):TE:=fun σ H Q=>t σ H fun xs H1=>LstNR xs H1 Q
theorem zb3{x1}(h:PA X es t):PE X (.Tuple es x1 pos) (tTup t):=by
 intro pins s σ H Q I hq;refine wpAny_Tuple_spliced (thn (h pos pins s σ H _ I hq) fun us s1 ⟨xs,H1,I1,r,z,q⟩=>⟨by rw[<-r.length]; exact z,?_⟩);have hf:H1 s1.heap.objs.size=none:=I1.hok.fresh (Nat.le_refl _);refine⟨.ref s1.heap.objs.size,upd H1 s1.heap.objs.size (.tup xs),I1.laid (t':=s1.toks) (fun b u e=>Heap.get?_push_of_some _ e) (Nat.le_refl _) ?_,rfl,q _ hf⟩;exact⟨z,us,r,⟨_,Heap.get?_push_size _ rfl,rfl,_,rfl⟩,_,Heap.get?_push_size _ rfl,rfl⟩
theorem zar(h:PA X es t):PE X (.List es pos) (tLst t):=by
 intro pins s σ H Q I hq;refine wpAny_List_spliced (thn (h pos pins s σ H _ I hq) fun us s1 ⟨xs,H1,I1,r,z,q⟩=>⟨by rw[<-r.length]; exact z,?_⟩);have hf:H1 s1.heap.objs.size=none:=I1.hok.fresh (Nat.le_refl _);refine⟨.ref s1.heap.objs.size,upd H1 s1.heap.objs.size (.lst xs),I1.laid (t':=s1.toks) (fun b u e=>Heap.get?_push_of_some _ e) (Nat.le_refl _) ?_,rfl,q _ hf⟩;exact⟨z,us,0,r,Heap.get?_push_size _ rfl⟩
end
abbrev Sp:=List V->Hp->VK->XK->Prop
abbrev CXT:=List Env->Hp->Shared->XK->Value->Shared->Prop
structure Env0(P:Program)(w:World)(K:PySem.W.Frag)(mg:Str->Option Value)(base:Heap)(A:Around)(outer:List Env)(s:Shared)(H:Hp):Prop where
 frames:A.frames=some outer
 mod:Mod K mg base
 bs:∀b o,base.get? b=some o->s.heap.get? b=some o/\H b=none
 bsz:base.objs.size<=s.heap.objs.size
 funs:s.heap.FunFrames base outer
 frf:∀b∈frs outer,H b=none
 hok:HOk P w H s.heap
 bare:AllBare s.gens
def CE(outer:List Env)(P:Program)(w:World)(H:Hp)(s:Shared)(Q:VK)(u:Value)(s':Shared):Prop :=
 ∃v H',s'.os=s.os/\AllBare s'.gens/\Un (frs outer) [] H H' s.heap s'.heap/\HOk P w H' s'.heap/\RelV v u/\Q v H'
def CR(CX:CXT)(outer:List Env)(P:Program)(w:World)(H:Hp)(s:Shared)(Q:VK)(E:XK)(r:Result)(s':Shared):Prop :=
 match r with
 | .ok (.ret u)=>CE outer P w H s Q u s'
 | .ok _=>False
 | .error e=>CX outer H s E e s'
structure FnOk(P:Program)(w:World)(K:PySem.W.Frag)(mg:Str->Option Value)(base:Heap)(CX:CXT)(k:Nat)(f:Addr)(fd:FuncData)(ps:List Str)(sp:Sp):Prop where
 len:∀vs H Q E,sp vs H Q E->vs.length=ps.length
 run:∀(A:Around) (outer:List Env) (s:Shared) (H:Hp) (args:Args) (us:List Value) (vs:List V) (Q:VK) (E:XK),Room k A->Env0 P w K mg base A outer s H->BindsTo s fd args (ps.zip us)->Vals vs us->sp vs H Q E →
  codeAny (model P w) A (.call (.ref f) args) (CR CX outer P w H s Q E) s
theorem FnOk.mono{P:Program}{w:World}{K:PySem.W.Frag}{mg:Str->Option Value}{base:Heap}{CX:CXT}{j k:Nat}{f:Addr}{fd:FuncData}{ps:List Str}{sp:Sp}(F:FnOk P w K mg base CX j f fd ps sp)(h:j<=k):
  FnOk P w K mg base CX k f fd ps sp:=⟨F.len,fun A outer s H args us vs Q E hr=>F.run A outer s H args us vs Q E (hr.mono h)⟩
theorem FnOk.imp {P:Program} {w:World} {K:PySem.W.Frag} {mg:Str->Option Value} {base:Heap} {CX:CXT} {k:Nat} {f:Addr} {fd:FuncData} {ps:List Str} {sp sp':Sp} (F:FnOk P w K mg base CX k f fd ps sp)
  (h:∀vs H Q E,sp' vs H Q E->sp vs H Q E):FnOk P w K mg base CX k f fd ps sp' :=
 ⟨fun vs H Q E q=>F.len vs H Q E (h _ _ _ _ q),fun A outer s H args us vs Q E hr he hb hv hs=>F.run A outer s H args us vs Q E hr he hb hv (h _ _ _ _ hs)⟩
theorem Env0.make{P:Program}{w:World}{K:PySem.W.Frag}{mg:Str->Option Value}{base:Heap}{A:Around}{outer:List Env}{s:Shared}{H:Hp}(e:Env0 P w K mg base A outer s H)(C:Addr)(us:List Value)(kw:List (Str×Value)):
  Env0 P w K mg base (A.under (.builtin "type.__call__" ⟨.ref C :: us,kw⟩)) outer s H:=⟨by first | exact e.frames | (simpa [Around.under,Code.envs,Code.isFrame,pushEnvs] using e.frames),e.mod,e.bs,e.bsz,e.funs,e.frf,e.hok,e.bare⟩
theorem Env0.in1{P:Program}{w:World}{K:PySem.W.Frag}{mg:Str->Option Value}{base:Heap}{A:Around}{outer:List Env}{s:Shared}{H:Hp}(e:Env0 P w K mg base A outer s H):
  Env0 P w K mg base A.in1 outer s H:=⟨e.frames,e.mod,e.bs,e.bsz,e.funs,e.frf,e.hok,e.bare⟩
section
variable {X:Cx} {pins:List (Addr×Obj)} {σ:St} {H:Hp} {s s':Shared}
theorem Inv.env0(I:Inv X pins σ H s):Env0 X.prog X.w X.K X.mg X.base X.A X.stack s H :=
 ⟨I.ok.frames,I.ok.mod,I.bs,Nat.le_trans I.ok.bsz I.sz,I.stack,I.stkFree,I.hok,I.bare⟩
theorem Inv.after{Q:VK}{u:Value}(I:Inv X pins σ H s)(h:CE X.stack X.prog X.w H s Q u s'):EP X pins σ Q u s':=by
 obtain⟨v,H',os,bare,un,hok,r,q⟩:=h;obtain⟨hh,g,d,t,os'⟩:=s';obtain rfl:os'=s.os:=os;exact⟨v,H',I.call (h':=hh) (g':=g) (d':=d) (t':=t) (ch:=[]) un hok bare (fun b z=>absurd z (by simp)),r,q⟩
end
def tCall(sp:Sp)(dvs:List V)(E:XK)(t:TA):TE:=fun σ H Q=>t σ H fun vs H1=>sp (vs++dvs) H1 Q E
def Binds(K:PySem.W.Frag)(fd:FuncData)(ps:List Str)(ds:List Value):Prop :=
 ∀(s:Shared) (us:List Value),K.In s.heap->(us++ds).length=ps.length->BindsTo s fd ⟨us,[]⟩ (ps.zip (us++ds))
theorem Binds.all{K:PySem.W.Frag}{fd:FuncData}{ps:List Str}(h:∀us:List Value,us.length=ps.length->bindArgs fd ⟨us,[]⟩=pure (ps.zip us)):Binds K fd ps []:=fun s us _ hl=>by
 rw[List.append_nil] at hl ⊢;exact .of_eq (h us hl)
def Passes(CX:CXT)(X:Cx)(E:XK):Prop:=∀(pins:List (Addr×Obj)) (σ:St) (H:Hp) (s:Shared) (e:Value) (s':Shared),Inv X pins σ H s->CX X.stack H s E e s'->X.xe e s'
section
variable {X:Cx} {CX:CXT} {k:Nat} {f C:Addr} {fd:FuncData} {ps:List Str} {sp:Sp} {dvs:List V} {ds:List Value} {E:XK} {x m:Str} {p pos apos:Pos} {e o:Expr} {es:List Expr} {ta:TE} {t:TA}
theorem run_fn {pins:List (Addr×Obj)} {σ:St} {H:Hp} {s:Shared} {Q:VK} {us:List Value} {vs:List V} (F:FnOk X.prog X.w X.K X.mg X.base CX k f fd ps sp) (hr:Room k X.A) (hb:Binds X.K fd ps ds) (hd:Vals dvs ds) (hx:Passes CX X E)
  (I:Inv X pins σ H s) (r:Vals vs us) (h:sp (vs++dvs) H Q E):wpAny (model X.prog X.w) X.A (call (.ref f) us) (EP X pins σ Q) X.xe s:=by
 have r2:Vals (vs++dvs) (us++ds):=r.append hd;have hl:(us++ds).length=ps.length:=by rw[<-r2.length]; exact F.len _ _ _ _ h
 refine wpAny_call (codeAny_mono (F.run X.A X.stack s H ⟨us,[]⟩ (us++ds) (vs++dvs) Q E hr I.env0 (hb s us I.kIn hl) r2 h) fun r s' hq=>?_);cases r with
 | error e=>exact hx pins σ H s e s' I hq
 | ok fl =>
  cases fl with
  | ret u=>exact I.after hq
  | next=>exact False.elim hq
  | brk=>exact False.elim hq
  | cont=>exact False.elim hq
theorem za9 (F:FnOk X.prog X.w X.K X.mg X.base CX k f fd ps sp) (hr:Room k X.A) (hg:Gl X x) (hm:X.mg x=some (.ref f)) (hk:PySem.W.keepIn X.K (.ref f)=true) (hb:Binds X.K fd ps ds) (hd:Vals dvs ds) (hx:Passes CX X E)
  (ha:PA X (e :: es) t) (hdb:(x == ("__debug__":Str))=false:=by decide) (he:starEach (e :: es) X.env=(false,eval e X.env) :: starEach es X.env:=by rfl) (hpl:(backTo pos (starEach es X.env)).any (·.1)=false:=by rfl) :
  PE X (.Call (.Name x p) (e :: es) [] pos) (tCall sp dvs E t):=by
 intro pins s σ H Q I h;refine wpAny_Call_Name_kw (zfb I hg hm ?_ hdb);refine PySem.W.callWith_K (h₀:=X.base) I.ok.mod.kin hk (thn (ha pos pins s σ H _ I h) fun us s1 ⟨vs,H1,I1,r,q⟩=>⟨I1.kIn,?_⟩) he hpl;exact run_fn F hr hb hd hx I1 r q
end
section
variable {X:Cx} {CX:CXT} {k:Nat} {f C:Addr} {fd:FuncData} {ps ks:List Str} {sp:Sp} {E:XK} {x m:Str} {p pos apos kpos:Pos} {e o:Expr} {es:List Expr} {kws:List Keyword} {te ta:TE} {t tk:TA} {nm:Option Str}
variable {g:List Value->List Value->List Value} {gV:List V->List V->List V}
end
structure FnScope(N P:List Str)(sc:Scope):Prop where
 kind:sc.kind=.function
 co:sc.isCoroutine=false
 gen:sc.isGenerator=false
 nd:N.Nodup
 pre:N.take P.length=P
 par:∀x∈P,sc.names.lookup x=some .local\/sc.names.lookup x=some .cell
 nofree:∀y∈sc.names,y.2≠.free
theorem zi4{kindOf:Str->Option NameKind}{x:Str}:∀{binds:List (Str×Value)} {m:Str->Option Value},(∀v,(x,v)∉binds)->bindL kindOf binds m x=m x
 | [],_,_=>rfl
 | (n,v) :: r,m,h=>by
  unfold bindL;rw[zi4 fun w hw=>h w (List.mem_cons_of_mem _ hw)];split
  ·have:x≠n:=by rintro rfl; exact h v List.mem_cons_self
   simp[this]
  ·rfl
theorem zi6{kindOf:Str->Option NameKind}{x:Str}:∀{binds:List (Str×Value)} {m:Str->Option Value},(∀v,(x,v)∉binds)->bindC kindOf binds m x=m x
 | [],_,_=>rfl
 | (n,v) :: r,m,h=>by
  unfold bindC;rw[zi6 fun w hw=>h w (List.mem_cons_of_mem _ hw)];split
  ·rfl
  ·have:x≠n:=by rintro rfl; exact h v List.mem_cons_self
   simp[this]
theorem zi5{kindOf:Str->Option NameKind}{x:Str}{v:Value}:∀{P:List Str} {vs:List Value} {i:Nat} {m:Str->Option Value},P.Nodup->P[i]?=some x->vs[i]?=some v->kindOf x=some .local →
  bindL kindOf (P.zip vs) m x=some v
 | [],_,_,_,_,h,_,_=>by simp at h
 | _ :: _,[],_,_,_,_,h,_=>by simp at h
 | p :: P,w :: vs,0,m,nd,h1,h2,hk=>by
  simp at h1 h2; subst h1; subst h2;show bindL kindOf ((p,w) :: P.zip vs) m p=_;unfold bindL;rw[zi4 fun v hv=>(List.nodup_cons.mp nd).1 (List.of_mem_zip hv).1,if_pos hk];simp
 | p :: P,w :: vs,i+1,m,nd,h1,h2,hk=>by
  show bindL kindOf ((p,w) :: P.zip vs) m x=_;unfold bindL;exact zi5 (i:=i) (List.nodup_cons.mp nd).2 (by simpa using h1) (by simpa using h2) hk
theorem zi7{kindOf:Str->Option NameKind}{x:Str}{v:Value}:∀{P:List Str} {vs:List Value} {i:Nat} {m:Str->Option Value},P.Nodup->P[i]?=some x->vs[i]?=some v->kindOf x≠some .local →
  bindC kindOf (P.zip vs) m x=some v
 | [],_,_,_,_,h,_,_=>by simp at h
 | _ :: _,[],_,_,_,_,h,_=>by simp at h
 | p :: P,w :: vs,0,m,nd,h1,h2,hk=>by
  simp at h1 h2; subst h1; subst h2;show bindC kindOf ((p,w) :: P.zip vs) m p=_;unfold bindC;rw[zi6 fun v hv=>(List.nodup_cons.mp nd).1 (List.of_mem_zip hv).1,if_neg hk];simp
 | p :: P,w :: vs,i+1,m,nd,h1,h2,hk=>by
  show bindC kindOf ((p,w) :: P.zip vs) m x=_;unfold bindC;exact zi7 (i:=i) (List.nodup_cons.mp nd).2 (by simpa using h1) (by simpa using h2) hk
def start(N:List Str)(vs:List V):St:=vs.map some++List.replicate (N.length-vs.length) none
def cxOf(CX:CXT)(P:Program)(w:World)(K:PySem.W.Frag)(mg:Str->Option Value)(base:Heap)(N:List Str)(qual:Str)(scope:Scope)(f:Addr)(cd:Value)(A:Around)(outer:List Env)(s:Shared)(H:Hp)(E:XK):Cx where
 prog:=P
 w:=w
 K:=K
 mg:=mg
 base:=base
 A:=A.deeper (envOfC qual scope s.heap.objs.size f cd)
 N:=N
 s₀:=s
 H₀:=H
 env:=envOfC qual scope s.heap.objs.size f cd
 outer:=outer
 stack:=envOfC qual scope s.heap.objs.size f cd :: outer
 ex:=[]
 calm:=true
 fn:=fun _=>true
 pn:=[]
 xe:=fun e s'=>wpAny (model P w) (A.deeper (envOfC qual scope s.heap.objs.size f cd)) (leaving (envOfC qual scope s.heap.objs.size f cd) e) (fun _ s''=>CX outer H s E e s'') (fun e' s''=>CX outer H s E e' s'') s'
theorem zk6{sc:Scope}{n:Nat}{x:Str}(h:sc.names.lookup x=some .cell):∃c,(cellsFrom n sc.names []).lookup x=some c:=by
 have q:=PySem.W.cellsFrom_some sc.names n [] (.inl h);exact Option.isSome_iff_exists.mp q
theorem zhu {CX:CXT} {P:Program} {w:World} {K:PySem.W.Frag} {mg:Str->Option Value} {base:Heap} {N ps:List Str} {qual:Str} {scope:Scope} {f:Addr} {cd:Value} {A:Around} {outer:List Env} {s s1:Shared} {H:Hp} {E:XK} {us:List Value} {vs:List V}
  (S:FnScope N ps scope) (hd:A.handled=none) (e0:Env0 P w K mg base A outer s H) (hl:vs.length=ps.length) (r:Vals vs us)
  (x:InCallC s s.heap.objs.size (bindL (envOfC qual scope s.heap.objs.size f cd).kindOf (ps.zip us) fun _=>none) (cellsFrom (s.heap.objs.size+1) scope.names []) (bindC (envOfC qual scope s.heap.objs.size f cd).kindOf (ps.zip us) fun _=>none) s1) :
  Inv (cxOf CX P w K mg base N qual scope f cd A outer s H E) [] (start N vs) H s1:=by
 have hpl:ps.length<=N.length:=by have:=congrArg List.length S.pre; rw[List.length_take] at this; omega
 obtain⟨h1,tk,rfl,hk⟩:=x.done;have noA:∀b:Addr,b∉(cxOf CX P w K mg base N qual scope f cd A outer s H E).ex:=fun b z=>absurd (show b∈([]:List Addr) from z) (by simp)
 refine⟨⟨e0.mod,S.kind,rfl,rfl,Nat.le_refl _,fun y z c h1 h2=>?_,fun y hy=>?_,fun y c _ h=>?_,fun _=>hd,Around.frames_deeper e0.frames,.inr ⟨rfl,rfl⟩,fun b z=>absurd z (noA b),e0.bs,e0.bsz,fun b _ _=>noA b,fun b z=>absurd z (noA b),e0.funs,e0.frf⟩,
  rfl,e0.bare,Un.kept hk,⟨_,x.toInCall.ns,fun i y v h1 h2 h3=>?_⟩,fun y c h=>⟨_,x.cell y c h⟩,e0.hok.fresh (Nat.le_refl _),fun y c h=>?_,fun p hp=>absurd (show p∈([]:List (Addr×Obj)) from hp) (by simp),e0.hok.kept hk,?_⟩
 ·exact name_of_addr x.apart (PySem.mem_of_lookup h1) (PySem.mem_of_lookup h2)
 ·have hy:scope.names.lookup y=some .cell\/scope.names.lookup y=some .free:=hy;rcases hy with hy | hy
  ·exact zk6 hy
  ·exact absurd rfl (S.nofree _ (PySem.mem_of_lookup hy))
 ·exact Nat.le_of_lt (x.above y c (PySem.mem_of_lookup h))
 ·have hi:i<vs.length:=by
   unfold start at h2;by_cases hi:i<vs.length
   ·exact hi
   ·rw[List.getElem?_append_right (by simpa using hi)] at h2;rw[List.getElem?_replicate] at h2;split at h2 <;> cases h2
  have ha:vs[i]?=some v:=by
   unfold start at h2;rw[List.getElem?_append_left (by simpa using hi),List.getElem?_map] at h2;cases e:vs[i]? with
   | none=>rw[e] at h2; cases h2
   | some a=>rw[e] at h2; cases h2; rfl
  obtain⟨u,hu,rv⟩:=r.get ha;have hp:ps[i]?=some y:=by
   rw[<-S.pre,List.getElem?_take_of_lt (by omega)]; exact h1
  have ndP:ps.Nodup:=by rw[<-S.pre]; exact S.nd.sublist (List.take_sublist _ _)
  refine⟨u,rv,?_⟩;rcases S.par y (List.mem_of_getElem? hp) with k | k
  ·exact .inl ⟨k,zi5 ndP hp hu k⟩
  ·obtain⟨c,e⟩:=zk6 (n:=s.heap.objs.size+1) k;refine .inr ⟨.inl k,c,e,?_⟩;have q:=x.cell y c e;rw[zi7 ndP hp hu (by show scope.names.lookup y≠_; rw[k]; decide)] at q;exact q
 ·exact e0.hok.fresh (Nat.le_of_lt (x.above y c (PySem.mem_of_lookup h)))
 ·unfold start;show _=N.length;rw[List.length_append,List.length_map,List.length_replicate];omega
theorem zsi {CX:CXT} {P:Program} {w:World} {K:PySem.W.Frag} {mg:Str->Option Value} {base:Heap} {k:Nat} {f:Addr} {name qual:Str} {params:Arguments} {body:List Stmt} {scope:Scope} {dV kV doc pm cdv ct oc:Value} {an od:Option Addr}
  {osl:Array (Option Value)} {N ps:List Str} {sp:Sp} (lk:K.lookup f=some ⟨oc,od,.func (PySem.W.fnOf name qual params body scope dV kV doc pm an cdv ct),osl⟩) (hcd:PySem.W.codeIn K cdv qual=true) (S:FnScope N ps scope)
  (len:∀vs H Q E,sp vs H Q E->vs.length=ps.length)
  (hbody:∀(A:Around) (outer:List Env) (s:Shared) (H:Hp) (vs:List V) (Q:VK) (E:XK),Room k (A.deeper (envOfC qual scope s.heap.objs.size f cdv))->sp vs H Q E →
   ∃t,PSs (cxOf CX P w K mg base N qual scope f cdv A outer s H E) body t/\t { nx:=fun _ H'=>Q .non H',rt:=Q } (start N vs) H) :
  FnOk P w K mg base CX (k+1) f (PySem.W.fnOf name qual params body scope dV kV doc pm an cdv ct) ps sp:=by
 refine⟨len,fun A outer s H args us vs Q E hr e0 hb r hsp=>?_⟩;have hl:=len _ _ _ _ hsp;have KX:K.In s.heap:=e0.mod.kin.keeps fun b o e=>(e0.bs b o e).1
 have lim:s.heap.NoLimit:=e0.mod.nolimit.keeps fun b o e=>(e0.bs b o e).1
 have hkind:∀y∈ps.zip us,scope.names.lookup y.1=some .local\/(scope.names.lookup y.1=some .cell/\((cellsFrom (s.heap.objs.size+1) scope.names []).lookup y.1).isSome=true):=fun ⟨n,v⟩ hy=>by
  rcases S.par n (List.of_mem_zip hy).1 with q | q
  ·exact .inl q
  ·exact .inr ⟨q,PySem.W.cellsFrom_some _ _ _ (.inl q)⟩
 refine codeAny_call_function hr.depth (KX _ _ lk) rfl S.co S.gen rfl (PySem.W.codeRec_of KX hcd) (hb _ _ _ _ ?_);refine wpAny_newFunctionEnv_cells S.kind hkind fun env he s1 x=>?_
 subst he;refine⟨lim.keeps x.toInCall.keep,codeAny_func ?_⟩;obtain⟨t,ht,hq⟩:=hbody A outer s H vs Q E (hr.deeper _) hsp;have I:Inv (cxOf CX P w K mg base N qual scope f cdv A outer s H E) [] (start N vs) H s1:=zhu S hr.hd e0 hl r x;refine wpAny_mono (ht [] s1 (start N vs) H _ I hq) (fun fl s' hs=>?_) fun e s' hs=>hs
 have fin:∀{σ':St} {H':Hp} {v:V} {u:Value},Inv (cxOf CX P w K mg base N qual scope f cdv A outer s H E) [] σ' H' s'->RelV v u->Q v H'->CE outer P w H s Q u s' :=
  fun {σ' H' v u} J rv q=>⟨v,H',J.os,J.bare,J.base,J.hok,rv,q⟩
 cases fl with
 | ret u =>
  obtain⟨v,σ',H',J,rv,q⟩:=hs;exact fin J rv q
 | next =>
  obtain⟨σ',H',J,q⟩:=hs;exact fin (v:=V.non) (u:=Value.none) J rfl q
 | brk =>
  obtain⟨_,_,_,q⟩:=hs;exact False.elim q
 | cont =>
  obtain⟨_,_,_,q⟩:=hs;exact False.elim q
section
variable {X:Cx} {x:Str} {p pos:Pos} {e:Expr} {es:List Expr} {t:TA} {id T:String} {r:List V->Hp->VK->Prop}
def tCB(r:List V->Hp->VK->Prop)(t:TA):TE:=fun σ H Q=>t σ H fun vs H1=>r vs H1 Q
theorem zab (hc:CallR X (.builtin id) r) (hg:Gl X x) (hm:X.mg x=none) (hv:bootBuiltins x=some (.builtin id)) (ha:PA X (e :: es) t) (hn:x≠"__name__":=by decide) (hdb:(x == ("__debug__":Str))=false:=by decide)
  (he:starEach (e :: es) X.env=(false,eval e X.env) :: starEach es X.env:=by rfl) (hpl:(backTo pos (starEach es X.env)).any (·.1)=false:=by rfl):PE X (.Call (.Name x p) (e :: es) [] pos) (tCB r t):=by
 intro pins s σ H Q I h;refine wpAny_Call_Name_kw (zhp I hg hm hv ?_ hn hdb);exact PyProof.Rows.callWith_builtin1 (thn (ha pos pins s σ H _ I h) fun us s1 ⟨vs,H1,I1,r1,q1⟩=>hc pins s1 σ H1 vs us Q I1 r1 q1) he hpl
theorem zak (hc:CallR X (.type T) r) (hg:Gl X x) (hm:X.mg x=none) (hv:bootBuiltins x=some (.type T)) (ha:PA X (e :: es) t) (hn:x≠"__name__":=by decide) (hdb:(x == ("__debug__":Str))=false:=by decide)
  (he:starEach (e :: es) X.env=(false,eval e X.env) :: starEach es X.env:=by rfl) (hpl:(backTo pos (starEach es X.env)).any (·.1)=false:=by rfl):PE X (.Call (.Name x p) (e :: es) [] pos) (tCB r t):=by
 intro pins s σ H Q I h;refine wpAny_Call_Name_kw (zhp I hg hm hv ?_ hn hdb);exact PyProof.Rows.callWith_type1 (thn (ha pos pins s σ H _ I h) fun us s1 ⟨vs,H1,I1,r1,q1⟩=>hc pins s1 σ H1 vs us Q I1 r1 q1) he hpl
end
end L2
namespace HT
open PySem PyProof.Rows
section
open PySem.SeqAt
open PySem.AutoSeq1 (wpAny_loadPart')
open PySem.MeetsSeq PySem.MeetsSeq2 PySem.MeetsSeq3
end
section
variable {prog:Program} {w:World} {A:Around} {E:Value->Shared->Prop} {s:Shared}
theorem cat_tup {t b:Addr} {vs ws:List Value} {Q:Value->Shared->Prop} (ht:IsTup s.heap t vs.toArray) (hb:IsTup s.heap b ws.toArray) (hv:vs≠[])
  (h1:ws=[]->Q (.ref t) s) (h2:ws≠[]->Q (.ref s.heap.objs.size) { s with heap:=s.heap.push { cls:=.type "tuple",data:=.seq (vs++ws).toArray } })
  (hsz:vs.length+ws.length<=sizeLine):wpAny (model prog w) A (binaryOp .Add (.ref t) (.ref b)) Q E s:=by
 obtain⟨⟨cls,dd,data,sl⟩,ho,hc,n,hd⟩:=id ht;obtain⟨⟨cls2,dd2,data2,sl2⟩,ho2,hc2,n2,hd2⟩:=id hb;simp only at hc hd hc2 hd2;subst hc hd hc2 hd2;have e:vs.toArray++ws.toArray=(vs++ws).toArray:=by simp
 by_cases hw:ws=[]
 ·exact concat_meets ⟨_,ho,rfl⟩ ⟨_,ho2,rfl⟩ noFill_tuple_add seq_tuple_add PySem.F.slot_tuple_add PySem.F.entry_tuple_add (PySem.F.args_tuple_add_2 _ _)
   (tuple_addW1 t b vs.toArray ws.toArray n n2 dd dd2 sl sl2 (by simpa using hv) (by simp[hw])) ⟨ho,ho2,h1 hw⟩
 ·refine concat_meets ⟨_,ho,rfl⟩ ⟨_,ho2,rfl⟩ noFill_tuple_add seq_tuple_add PySem.F.slot_tuple_add PySem.F.entry_tuple_add (PySem.F.args_tuple_add_2 _ _)
   (tuple_addW2 t b vs.toArray ws.toArray n n2 dd dd2 sl sl2 (by simpa using hv) (by simpa using hw) (by rw[List.size_toArray,List.size_toArray]; exact hsz)) ⟨ho,ho2,?_⟩
  rw[e];exact h2 hw
def sIx(n d:Nat):Option Int->Nat
 | none=>d
 | some v=>if v<0 then (v+(n:Int)).toNat else min v.toNat n
theorem sIx_nat(n d k:Nat):sIx n d (some (k:Int))=min k n:=by
 show(if (k:Int)<0 then ((k:Int)+(n:Int)).toNat else min (k:Int).toNat n)=min k n;rw[if_neg (by omega),Int.toNat_natCast]
theorem sIx_le(n d:Nat)(hd:d<=n)(o:Option Int):sIx n d o<=n:=by
 cases o with
 | none=>exact hd
 | some v =>
  show(if v<0 then (v+(n:Int)).toNat else min v.toNat n)<=n;by_cases hv:v<0
  ·rw[if_pos hv]; omega
  ·rw[if_neg hv]; exact Nat.min_le_right _ _
theorem znd(v:Int)(n d:Nat):(if v<0 then max (v+(n:Int)) 0 else min v (n:Int))=((sIx n d (some v):Nat):Int):=by
 show(if v<0 then max (v+(n:Int)) 0 else min v (n:Int))=(((if v<0 then (v+(n:Int)).toNat else min v.toNat n):Nat):Int);by_cases hv:v<0
 ·simp only[if_pos hv]; omega
 ·simp only[if_neg hv]; omega
theorem zl4(lo hi:Option Int)(n:Nat):Builtin.Slice.sliceAdjust lo hi 1 (n:Int)=(((sIx n 0 lo:Nat):Int),((sIx n n hi:Nat):Int)):=by
 have h1:¬((1:Int)<0):=by omega
 unfold Builtin.Slice.sliceAdjust;simp only[h1,if_false];refine Prod.ext ?_ ?_
 ·cases lo with
  | none=>rfl
  | some v=>exact znd v n 0
 ·cases hi with
  | none=>rfl
  | some v=>exact znd v n n
theorem zkl(i j:Nat):Builtin.Slice.slicePlaces (i:Int) (j:Int) 1=j-i:=by
 unfold Builtin.Slice.slicePlaces;have h1:(1:Int) > 0:=by omega
 simp only[h1,if_true,Int.ediv_one];split <;> omega
theorem zfl{v:Value}{o:Option Int}{Q:Option Int->Shared->Prop}(p:IsPart v o)(h:Q o s):wpAny (model prog w) A (Builtin.Slice.slicePartIndex v) Q E s:=by
 cases p with
 | none=>exact slicePart_none h
 | int i t=>exact slicePart_int h
theorem zd3 {sl:Addr} {vl vu:Value} {lo hi:Option Int} {n:Nat} {Q:Int×Int×Nat->Shared->Prop} (hs:s.heap.IsSliceOf sl vl vu .none) (pl:IsPart vl lo) (pu:IsPart vu hi)
  (h:Q (((sIx n 0 lo:Nat):Int),1,sIx n n hi-sIx n 0 lo) s):wpAny (model prog w) A (Builtin.Slice.sliceApplied (.ref sl) (pure (n:Int))) Q E s:=by
 obtain⟨os,hos,hcs,hds⟩:=id hs;unfold Builtin.Slice.sliceApplied Builtin.Slice.sliceFields;refine wpAny_bind (wpAny_bind (wpAny_field hos hds (x:=vl) rfl (wpAny_bind (wpAny_field hos hds (x:=vu) rfl (wpAny_bind (wpAny_field hos hds (x:=.none) rfl (wpAny_pure ?_)))))));refine wpAny_bind (slicePart_none ?_);show wpAny _ _ (if ((1:Int) == 0)=true then _ else _) _ _ s;rw[if_neg (by decide)];refine wpAny_bind (zfl pl (wpAny_bind (zfl pu (wpAny_bind (wpAny_pure ?_)))));show wpAny _ _ (match Builtin.Slice.sliceAdjust lo hi 1 (n:Int) with | (lo,hi)=>pure (lo,(1:Int),Builtin.Slice.slicePlaces lo hi 1)) _ _ s;rw[zl4 lo hi n];show wpAny _ _ (pure (((sIx n 0 lo:Nat):Int),(1:Int),Builtin.Slice.slicePlaces ((sIx n 0 lo:Nat):Int) ((sIx n n hi:Nat):Int) 1)) _ _ s;rw[zkl];exact wpAny_pure h
theorem zoo(xs:Array Value)(i k:Nat):((List.range k).filterMap fun (m:Nat)=>xs[((i:Int)+(m:Int)*1).toNat]?).toArray=((xs.toList.drop i).take k).toArray:=by
 have e:(fun (m:Nat)=>xs[((i:Int)+(m:Int)*1).toNat]?)=fun m=>xs[i+m]?:=by
  funext m
  have:((i:Int)+(m:Int)*1).toNat=i+m:=by omega
  rw[this]
 rw[e]
 have:=pick_run xs i k
 rw[List.filterMap_map] at this;have e2:((fun x=>xs[x]?) ∘ fun x=>i+x)=fun m=>xs[i+m]?:=rfl
 rw[e2] at this;rw[this]
theorem getItem_tuple_cut {t sl:Addr} {items:Array Value} {vl vu:Value} {lo hi:Option Int} {Q:Value->Shared->Prop} (ht:IsTup s.heap t items) (hs:s.heap.IsSliceOf sl vl vu .none) (pl:IsPart vl lo) (pu:IsPart vu hi)
  (hw:¬(sIx items.size 0 lo=0/\sIx items.size items.size hi=items.size))
  (h:Q (.ref s.heap.objs.size) { s with heap:=s.heap.push { cls:=.type "tuple",data:=.seq ((items.toList.drop (sIx items.size 0 lo)).take (sIx items.size items.size hi-sIx items.size 0 lo)).toArray } })
  (hsz:items.size<=sizeLine):wpAny (model prog w) A (getItem (.ref t) (.ref sl)) Q E s:=by
 have htake:sizeOk (.seq ((items.toList.drop (sIx items.size 0 lo)).take (sIx items.size items.size hi-sIx items.size 0 lo)).toArray):=by
  show((items.toList.drop (sIx items.size 0 lo)).take (sIx items.size items.size hi-sIx items.size 0 lo)).toArray.size<=sizeLine;rw[List.size_toArray,List.length_take,List.length_drop,Array.length_toList];omega
 have hj:sIx items.size items.size hi<=items.size:=sIx_le _ _ (Nat.le_refl _) hi;obtain⟨os,hos,hcs,hds⟩:=id hs;have hTs:s.TypeIs (.ref sl) "slice":=⟨os,hos,hcs⟩;unfold getItem
 try with_reducible refine wpAny_holding ?_
 first | refine wpAny_bind (wpAny_pure ?_) | skip
 refine wpAny_bind (wpAny_sequenceKey ht.typeIs (by decide) ?_);refine wpAny_bind (wpAny_callSpecial?_slot (name:=Str.ofString "__getitem__") ht.typeIs PyProof.Rows.slot_tuple_getitem
  (wpAny_call_entry PyProof.Rows.slot_tuple_getitem ht.typeIs entry_tuple_getitem ?_ (args_tuple_getitem _ _)))
 show wpAny _ _ (Builtin.Tuple.tupleItemsOf (.ref t) >>= _) _ _ s;refine wpAny_bind (tupleItemsOf_ ht ?_);refine wpAny_bind (wpAny_typeOf hTs ?_);rw[if_pos (by decide)];refine wpAny_bind (zd3 hs pl pu ?_);have hno:¬((((sIx items.size 0 lo:Nat):Int) == 0 && (1:Int) == 1 && (sIx items.size items.size hi-sIx items.size 0 lo) == items.size)=true):=by
  intro q;rw[Bool.and_eq_true,Bool.and_eq_true] at q;have q1:((sIx items.size 0 lo:Nat):Int)=0:=eq_of_beq q.1.1;have q2:sIx items.size items.size hi-sIx items.size 0 lo=items.size:=eq_of_beq q.2;exact hw ⟨by omega,by omega⟩
 show wpAny _ _ (if (((sIx items.size 0 lo:Nat):Int) == 0 && (1:Int) == 1 && (sIx items.size items.size hi-sIx items.size 0 lo) == items.size)=true then _ else _) _ _ s;rw[if_neg hno,zoo]
 first
  | exact wpAny_bind (m:=Builtin.Tuple.tupleExact _) (wpAny_newObj_type (wpAny_pure ⟨_,rfl,wpAny_pure h⟩) htake)
  | exact wpAny_bind (m:=Builtin.Tuple.tupleExact _) (wpAny_newObj_type (wpAny_bind (wpAny_pure (wpAny_pure ⟨_,rfl,wpAny_pure h⟩))) htake)
  | exact wpAny_bind (wpAny_bind (m:=Builtin.Tuple.tupleExact _) (wpAny_newObj_type (wpAny_pure (wpAny_pure ⟨_,rfl,wpAny_pure h⟩)) htake))
  | exact wpAny_bind (wpAny_bind (m:=Builtin.Tuple.tupleExact _) (wpAny_newObj_type (wpAny_pure ⟨_,rfl,wpAny_pure h⟩) htake))
end
end HT
namespace L2
open PySem PySem.Spec PyProof.Rows
abbrev TO:=St->Hp->(Option Int->Hp->Prop)->Prop
def PO(X:Cx)(e:Option Expr)(t:TO):Prop :=
 ∀(pins:List (Addr×Obj)) (s:Shared) (σ:St) (H:Hp) (Q:Option Int->Hp->Prop),Inv X pins σ H s->t σ H Q →
  wpAny (model X.prog X.w) X.A (evalPart e X.env) (fun u s'=>∃o H',Inv X pins σ H' s'/\IsPart u o/\Q o H') X.xe s
def tNoPart:TO:=fun _ H Q=>Q none H
def tPart(t:TE):TO:=fun σ H Q=>t σ H fun x H1=>∃i,x=.int i/\Q (some i) H1
theorem zcr{ns:List Int}:∀{us:List Value},Vals (ns.map V.int) us->IntsAre us ns:=by
 induction ns with
 | nil=>intro us r; rw[List.map_nil] at r; cases r; exact .nil
 | cons n ns ih =>
  intro us r;rw[List.map_cons] at r;cases r with
  | cons r1 r2 =>
   obtain⟨t,e⟩:=r1;subst e;exact .cons n t (ih r2)
section
variable {X:Cx} {e:Expr} {te:TE} {lo hi:Option Expr} {tl th:TO} {pos p2:Pos}
theorem zci:PO X none tNoPart:=by
 intro pins s σ H Q I h;rw[evalPart_none];exact wpAny_pure ⟨none,H,I,.none,h⟩
theorem zch(h:PE X e te):PO X (some e) (tPart te):=by
 intro pins s σ H Q I hw;rw[evalPart_some];refine thn (h pins s σ H _ I hw) fun u s1 ⟨x,H1,I1,r1,q1⟩=>?_
 obtain⟨i,rfl,q⟩:=q1;obtain⟨t,rfl⟩:=r1;exact⟨some i,H1,I1,.int i t,q⟩
def SlR(X:Cx)(r:V->Option Int->Option Int->Hp->VK->Prop):Prop :=
 ∀(pins:List (Addr×Obj)) (s:Shared) (σ:St) (H:Hp) (x:V) (v vl vu:Value) (lo hi:Option Int) (sl:Addr) (Q:VK),Inv X pins σ H s->RelV x v->s.heap.IsSliceOf sl vl vu .none->IsPart vl lo->IsPart vu hi->r x lo hi H Q →
  ∃T id,typeLookup (.type T) "__getitem__" = pure (some (.builtin id))/\s.TypeIs v T/\wpAny (model X.prog X.w) X.A (getItem v (.ref sl)) (EP X pins σ Q) X.xe s
def tSl(r:V->Option Int->Option Int->Hp->VK->Prop)(te:TE)(tl th:TO):TE:=fun σ H Q=>te σ H fun x H1=>tl σ H1 fun l H2=>th σ H2 fun u H3=>r x l u H3 Q
theorem zbz{r:V->Option Int->Option Int->Hp->VK->Prop}(hr:SlR X r)(he:PE X e te)(hl:PO X lo tl)(hu:PO X hi th):PE X (.Subscript e (.Slice lo hi none p2) pos) (tSl r te tl th):=by
 intro pins s σ H Q I h;refine Subscript_ (thn (he pins s σ H _ I h) fun v s1 ⟨x,H1,I1,r1,q1⟩=>?_);refine wpAny_Slice (thn (hl pins s1 σ H1 _ I1 q1) fun vl s2 ⟨l,H2,I2,pl,q2⟩=>thn (hu pins s2 σ H2 _ I2 q2) fun vu s3 ⟨u,H3,I3,pu,q3⟩=>?_);rw[evalPart_none];refine wpAny_pure ?_;have I4:Inv X pins σ H3 { s3 with heap:=s3.heap.push { cls:=.type "slice",data:=.fields #[vl,vu,.none] } }:=I3.kept (t':=s3.toks) fun b ob q=>Heap.get?_push_of_some _ q
 obtain⟨T,id,hT,ht,hg⟩:=hr pins { s3 with heap:=s3.heap.push { cls:=.type "slice",data:=.fields #[vl,vu,.none] } } σ H3 x v vl vu l u s3.heap.objs.size Q I4 r1 (Heap.IsSliceOf.new ..) pl pu q3;show wpAny (model X.prog X.w) X.A (subscriptTail e (.Slice lo hi none p2) v (.ref s3.heap.objs.size)) (EP X pins σ Q) X.xe { s3 with heap:=s3.heap.push { cls:=.type "slice",data:=.fields #[vl,vu,.none] } };exact tail_any (ops:=[.ref s3.heap.objs.size,v]) ht hT hg (by with_unfolding_all rfl)
def cutV(xs:List V)(lo hi:Option Int):List V:=(xs.drop (HT.sIx xs.length 0 lo)).take (HT.sIx xs.length xs.length hi-HT.sIx xs.length 0 lo)
theorem zfg(xs:List V)(lo hi:Option Int):(cutV xs lo hi).length<=xs.length:=by
 unfold cutV;rw[List.length_take,List.length_drop];omega
def rSlT(K:PySem.W.Frag):V->Option Int->Option Int->Hp->VK->Prop:=fun x lo hi H Q=>∃a xs,x=.ref a/\SqT K H a xs /\
 ¬(HT.sIx xs.length 0 lo=0/\HT.sIx xs.length xs.length hi=xs.length)/\∀p,H p=none->Q (.ref p) (upd H p (.tup (cutV xs lo hi)))
theorem zq4:SlR X (rSlT X.K):=by
 intro pins s σ H x v vl vu lo hi sl Q I rx hs pl pu h;obtain⟨a,xs,rfl,hx,hw,q⟩:=h;cases rx;obtain⟨its,r,ht,hz⟩:=I.tuple hx;have hlen:its.toArray.size=xs.length:=by rw[List.size_toArray]; exact r.length.symm
 refine⟨"tuple",_,PyProof.Rows.slot_tuple_getitem.lookup,ht.typeIs,?_⟩;refine HT.getItem_tuple_cut ht hs pl pu (by rw[hlen]; exact hw) ?_ (by rw[hlen]; exact hz);rw[hlen];refine⟨.ref s.heap.objs.size,_,I.laid (t':=s.toks) (o:=.tup (cutV xs lo hi)) (fun b ob q=>Heap.get?_push_of_some _ q) (Nat.le_refl _) ?_,rfl,q _ (I.hok.fresh (Nat.le_refl _))⟩;exact⟨Nat.le_trans (zfg xs lo hi) hz,_,(r.drop (HT.sIx xs.length 0 lo)).take (HT.sIx xs.length xs.length hi-HT.sIx xs.length 0 lo),IsTup.new _ _,_,Heap.get?_push_size _ rfl,rfl⟩
def rCatT(K:PySem.W.Frag):R2:=fun x y H Q=>∃a b xs ys,x=.ref a/\y=.ref b/\SqT K H a xs/\SqT K H b ys/\xs≠[]/\xs.length+ys.length<=sizeLine /\
 (ys=[]->Q (.ref a) H)/\(ys≠[]->∀p,H p=none->Q (.ref p) (upd H p (.tup (xs++ys))))
theorem Vals.nil_iff{xs:List V}{us:List Value}(r:Vals xs us):us=[]↔xs=[]:=by
 cases r with
 | nil=>simp
 | cons _ _=>simp
theorem zin:OpR X (binaryOp .Add) (rCatT X.K):=by
 intro pins s σ H x y v u Q I rx ry h;obtain⟨a,b,xs,ys,rfl,rfl,ha,hb,hx,hz,q1,q2⟩:=h;cases rx;cases ry;obtain⟨its,r1,p1,_⟩:=I.tuple ha;obtain⟨its2,r2,p2,_⟩:=I.tuple hb;refine HT.cat_tup p1 p2 (fun z=>hx (r1.nil_iff.mp z)) (fun z=>⟨.ref a,H,I,rfl,q1 (r2.nil_iff.mp z)⟩) (fun z=>?_) (by rw[<-r1.length,<-r2.length]; exact hz);refine⟨.ref s.heap.objs.size,_,I.laid (t':=s.toks) (o:=.tup (xs++ys)) (fun b ob q=>Heap.get?_push_of_some _ q) (Nat.le_refl _) ?_,rfl,q2 (fun w=>z (r2.nil_iff.mpr w)) _ (I.hok.fresh (Nat.le_refl _))⟩;exact⟨by rw[List.length_append]; exact hz,_,r1.append r2,IsTup.new _ _,_,Heap.get?_push_size _ rfl,rfl⟩
end
def ixN(n:Nat)(i:Int):Option Nat:=if 0<=i then (if i<n then some i.toNat else none) else if -(n:Int)<=i then some (i+n).toNat else none
def atI{α:Type}(xs:List α)(i:Int):Option α:=(ixN xs.length i).bind fun j=>xs[j]?
theorem zmr{n:Nat}{i:Int}{j:Nat}(h:ixN n i=some j):seqIndex? i n=some j/\j<n/\-(n:Int)<=i/\i<n:=by
 unfold ixN at h;by_cases h0:0<=i
 ·rw[if_pos h0] at h;by_cases h1:i<n
  ·rw[if_pos h1] at h;have e:i.toNat=j:=Option.some.inj h;exact⟨by rw[seqIndex_of h0 h1,e],by omega,by omega,h1⟩
  ·rw[if_neg h1] at h; cases h
 ·rw[if_neg h0] at h;by_cases h1:-(n:Int)<=i
  ·rw[if_pos h1] at h;have e:(i+n).toNat=j:=Option.some.inj h;exact⟨by rw[seqIndex_neg (by omega) h1,e],by omega,h1,by omega⟩
  ·rw[if_neg h1] at h; cases h
theorem zj2{α:Type}{xs:List α}{i:Int}{v:α}(h:atI xs i=some v):∃j,seqIndex? i xs.length=some j/\xs[j]?=some v/\j<xs.length/\-(xs.length:Int)<=i/\i<xs.length:=by
 unfold atI at h;cases e:ixN xs.length i with
 | none=>rw[e] at h; cases h
 | some j =>
  rw[e] at h;obtain⟨h1,h2,h3,h4⟩:=zmr e;exact⟨j,h1,h,h2,h3,h4⟩
theorem zaf{α:Type}{xs:List α}{j:Nat}{v:α}(h:xs[j]?=some v):atI xs (j:Int)=some v:=by
 have hj:j<xs.length:=(List.getElem?_eq_some_iff.mp h).1;have e:ixN xs.length (j:Int)=some j:=by
  unfold ixN;rw[if_pos (by omega),if_pos (by omega)]; simp
 unfold atI; rw[e]; exact h
def PlainIx(b:Expr):Prop:=∀o i,subscripted b false o i=operate [o,i] (getItem o i)
def IxR(X:Cx)(r:R2):Prop :=
 ∀(value slice:Expr) (pins:List (Addr×Obj)) (s:Shared) (σ:St) (H:Hp) (x y:V) (v u:Value) (Q:VK),Inv X pins σ H s->RelV x v->RelV y u->r x y H Q →
  subscripted slice false v u=operate [v,u] (getItem v u)->wpAny (model X.prog X.w) X.A (subscriptTail value slice v u) (EP X pins σ Q) X.xe s
def MtR(X:Cx)(id:String)(r:V->List V->Hp->VK->Prop):Prop :=
 ∀(pins:List (Addr×Obj)) (s:Shared) (σ:St) (H:Hp) (x:V) (xs:List V) (v:Value) (us:List Value) (Q:VK),Inv X pins σ H s->RelV x v->Vals xs us->r x xs H Q →
  wpAny (model X.prog X.w) X.A (call (.builtin id) (v :: us)) (EP X pins σ Q) X.xe s
section
variable {X:Cx} {a b:Expr} {ta tb:TE} {pos:Pos}
theorem zai{r:R2}(hr:IxR X r)(ha:PE X a ta)(hb:PE X b tb)(hs:PlainIx b):PE X (.Subscript a b pos) (tOp r ta tb):=by
 intro pins s σ H Q I h;exact Subscript_ (binT ha hb I h fun v u s2 x y H2 I2 rx ry q=>hr a b pins s2 σ H2 x y v u Q I2 rx ry q (hs _ _))
inductive IxLR(K:PySem.W.Frag)(x y:V)(H:Hp)(Q:VK):Prop
 | mk (p:Addr) (xs:List V) (i:Int) (v:V) (a:x=.ref p) (b:y=.int i) (c:SqL K H p xs) (d:atI xs i=some v) (q:Q v H):IxLR K x y H Q
inductive IxTR(K:PySem.W.Frag)(x y:V)(H:Hp)(Q:VK):Prop
 | mk (p:Addr) (xs:List V) (i:Int) (v:V) (a:x=.ref p) (b:y=.int i) (c:SqT K H p xs) (d:atI xs i=some v) (q:Q v H):IxTR K x y H Q
def rIxL(K:PySem.W.Frag):R2:=fun x y H Q=>IxLR K x y H Q
def rIxT(K:PySem.W.Frag):R2:=fun x y H Q=>IxTR K x y H Q
def rIxS:R2:=fun x y H Q=>∃z i c,x=.str z/\y=.int i/\z.length<=sizeLine/\atI z.cps.toList i=some c/\Q (.str ⟨#[c]⟩) H
theorem zse:IxR X (rIxL X.K):=by
 intro value slice pins s σ H x y v u Q I rx ry h hs;obtain⟨p,xs,i,z,rfl,rfl,hq,he,q⟩:=h;cases rx;obtain⟨t,rfl⟩:=ry;obtain⟨its,r,pl,hz⟩:=I.list hq;obtain⟨j,h1,h2,h3,h4,h5⟩:=zj2 he;obtain⟨w,ew,rw'⟩:=r.get h2;have hl:=r.length;have hn:=line63;have fin:EP X pins σ Q w s:=⟨z,H,I,rw',q⟩;by_cases h0:0<=i
 ·have hj:i.toNat=j:=by
   rw[seqIndex_of h0 h5] at h1;exact Option.some.inj h1
  exact item_listR pl.isList h0 (by omega) (by rw[hj]; simpa using ew) fin hs
 ·have hj:(i+(its.toArray.size:Int)).toNat=j:=by
   rw[seqIndex_neg (by omega) h4] at h1;rw[List.size_toArray,<-hl];exact Option.some.inj h1
  exact subscriptTail_builtinR (x:=w) pl.isList.typeIs slot_list_getitem.lookup
   (wpAny_getItem_list_neg (Q:=fun r s'=>r=w/\EP X pins σ Q r s') pl.isList (by omega) (by rw[List.size_toArray] <;> omega) (by omega) (by rw[hj]; simpa using ew) ⟨rfl,fin⟩) hs
theorem zqi:IxR X (rIxT X.K):=by
 intro value slice pins s σ H x y v u Q I rx ry h hs;obtain⟨p,xs,i,z,rfl,rfl,hq,he,q⟩:=h;cases rx;obtain⟨t,rfl⟩:=ry;obtain⟨its,r,pl,hz⟩:=I.tuple hq;obtain⟨j,h1,h2,h3,h4,h5⟩:=zj2 he;obtain⟨w,ew,rw'⟩:=r.get h2;have hl:=r.length;have hn:=line63;have fin:EP X pins σ Q w s:=⟨z,H,I,rw',q⟩;exact subscriptTail_builtinR (x:=w) pl.typeIs slot_tuple_getitem.lookup
  (getItem_tuple (j:=j) (Q:=fun r s'=>r=w/\EP X pins σ Q r s') pl (by omega) (by omega) (by rw[List.size_toArray,<-hl]; exact h1) (by simpa using ew) ⟨rfl,fin⟩) hs
theorem ix_str:IxR X rIxS:=by
 intro value slice pins s σ H x y v u Q I rx ry h hs;obtain⟨z,i,c,rfl,rfl,hz,he,q⟩:=h;obtain⟨t,rfl⟩:=rx;obtain⟨t',rfl⟩:=ry;obtain⟨j,h1,h2,h3,h4,h5⟩:=zj2 he;have hl:z.cps.toList.length=z.length:=by simp[Str.length]
 rw[hl] at h1 h4 h5;have hn:=line63;exact tail_any (typeIs_str s z t) slot_str_getitem.lookup (getItem_str (c:=c) (by
  have e1:decide (i < -(2 ^ 63:Int))=false:=decide_eq_false (by omega);have e2:decide (i ≥ 2 ^ 63)=false:=decide_eq_false (by omega);rw[e1,e2,Bool.or_false]) (by rw[h1]; simpa using h2) ⟨.str ⟨#[c]⟩,H,I.tok _,⟨_,rfl⟩,q⟩) hs
theorem zkq(its:List Value)(n j:Nat)(u:Value):Obj.mapSeq (·.setIfInBounds j u) { cls:=.type "list",data:=.seq its.toArray n }={ cls:=.type "list",data:=.seq (its.set j u).toArray n }:=by
 simp[Obj.mapSeq]
theorem Inv.lst{pins:List (Addr×Obj)}{σ:St}{H:Hp}{s:Shared}{p:Addr}{xs:List V}(I:Inv X pins σ H s)(h:H p=some (.lst xs)):
  ∃(its:List Value) (n:Nat),Vals xs its/\s.heap.get? p=some { cls:=.type "list",data:=.seq its.toArray n }/\xs.length<=sizeLine:=by
 obtain⟨z,its,n,r,e⟩:=I.hok p _ h;exact⟨its,n,r,e,z⟩
theorem Inv.lstUpd {pins:List (Addr×Obj)} {σ:St} {H:Hp} {s:Shared} {p:Addr} {xs ys:List V} {its its':List Value} {n n':Nat} {f:Obj->Obj} (I:Inv X pins σ H s) (h:H p=some (.lst xs))
  (ho:s.heap.get? p=some { cls:=.type "list",data:=.seq its.toArray n }) (hf:f { cls:=.type "list",data:=.seq its.toArray n }={ cls:=.type "list",data:=.seq its'.toArray n' }) (r:Vals ys its') (hz:ys.length<=sizeLine) (t:Nat) :
  Inv X pins σ (upd H p (.lst ys)) { s with heap:=s.heap.update p f,toks:=t }:=by
 have e:(s.heap.update p f).get? p=some { cls:=.type "list",data:=.seq its'.toArray n' }:=by
  rw[Heap.get?_update_self f ho (by rw[hf] <;> rfl),hf]
 refine I.write (x:=p) (e:=p) (by rw[h]; trivial) (.inl rfl) (fun b u hb q=>(Heap.get?_update_other _ _ (Ne.symm hb)).trans q) ⟨_,e⟩ ?_;exact⟨hz,its',n',r,e⟩
inductive SetLR(o i v:V)(H:Hp)(Q:Hp->Prop):Prop
 | mk (p:Addr) (xs:List V) (k:Int) (j:Nat) (e1:o=.ref p) (e2:i=.int k) (h:H p=some (.lst xs)) (x:ixN xs.length k=some j) (q:Q (upd H p (.lst (xs.set j v)))):SetLR o i v H Q
def rSetL:V->V->V->Hp->(Hp->Prop)->Prop:=fun o i v H Q=>SetLR o i v H Q
theorem zej:PSet X rSetL:=by
 intro pins s σ H o i v ov iv u Q I ro ri rv h;obtain⟨p,xs,k,j,rfl,rfl,hp,hj,q⟩:=h;cases ro;obtain⟨t,rfl⟩:=ri;obtain⟨its,n,r,ho,hz⟩:=I.lst hp;obtain⟨h1,h2,h3,h4⟩:=zmr hj;have hl:=r.length;have hn:=line63;have I':Inv X pins σ (upd H p (.lst (xs.set j v))) { s with heap:=s.heap.update p (Obj.mapSeq (·.setIfInBounds j u)) } :=
  I.lstUpd hp ho (zkq its n j u) (r.set rv j) (by rw[List.length_set]; exact hz) s.toks
 by_cases h0:0<=k
 ·have hk:k.toNat=j:=by
   rw[seqIndex_of h0 h4] at h1;exact Option.some.inj h1
  exact PySem.W.ki_setAt ho h0 (by omega) (by rw[List.size_toArray,<-hl]; exact h4) (by rw[hk]; exact⟨_,I',q⟩)
 ·have hk:(k+(its.toArray.size:Int)).toNat=j:=by
   rw[seqIndex_neg (by omega) h3] at h1;rw[List.size_toArray,<-hl];exact Option.some.inj h1
  exact PySem.W.ki_setBack ho (by omega) (by rw[List.size_toArray,<-hl]; exact h3) (by omega) (by rw[hk]; exact⟨_,I',q⟩)
theorem zh9(lo hi:Option Int)(n:Nat):(sliceBounds lo hi none n).1=((HT.sIx n 0 lo:Nat):Int)/\(sliceBounds lo hi none n).2.1=((HT.sIx n n hi:Nat):Int)/\(sliceBounds lo hi none n).2.2=1:=by
 refine⟨?_,?_,rfl⟩
 ·cases lo with
  | none=>simp[sliceBounds,HT.sIx]
  | some i =>
   simp only[sliceBounds,HT.sIx,Option.getD_none,show(1:Int) > 0 by decide,if_true];by_cases h:i<0
   ·simp only[h,if_true] <;> omega
   ·simp only[h,if_false] <;> omega
 ·cases hi with
  | none=>simp[sliceBounds,HT.sIx]
  | some i =>
   simp only[sliceBounds,HT.sIx,Option.getD_none,show(1:Int) > 0 by decide,if_true];by_cases h:i<0
   ·simp only[h,if_true] <;> omega
   ·simp only[h,if_false] <;> omega
theorem zga(its:List Value)(lo hi:Option Int):slicePick its.toArray lo hi none=((its.drop (HT.sIx its.length 0 lo)).take (HT.sIx its.length its.length hi-HT.sIx its.length 0 lo)).toArray:=by
 obtain⟨h1,h2,h3⟩:=zh9 lo hi its.toArray.size;unfold slicePick;rw[h1,h2,h3];simp only[sliceRange_one,pick_run,List.size_toArray] <;> rfl
inductive SlLR(K:PySem.W.Frag)(x:V)(lo hi:Option Int)(H:Hp)(Q:VK):Prop
 | mk (a:Addr) (xs:List V) (e:x=.ref a) (s:SqL K H a xs) (q:∀p,H p=none->Q (.ref p) (upd H p (.lst (cutV xs lo hi)))):SlLR K x lo hi H Q
def rSlL(K:PySem.W.Frag):V->Option Int->Option Int->Hp->VK->Prop:=fun x lo hi H Q=>SlLR K x lo hi H Q
theorem zrd:SlR X (rSlL X.K):=by
 intro pins s σ H x v vl vu lo hi sl Q I rx hs pl pu h;obtain⟨a,xs,rfl,hx,q⟩:=h;cases rx;obtain⟨its,r,ht,hz⟩:=I.list hx;have hlen:=r.length;refine⟨"list",_,slot_list_getitem.lookup,ht.isList.typeIs,?_⟩;refine wpAny_getItem_list_slice ht.isList hs pl pu .none (by simp) ?_ (by rw[List.size_toArray] <;> omega);rw[zga,<-hlen];refine⟨.ref s.heap.objs.size,_,I.laid (t':=s.toks) (o:=.lst (cutV xs lo hi)) (fun b ob q=>Heap.get?_push_of_some _ q) (Nat.le_refl _) ?_,rfl,q _ (I.hok.fresh (Nat.le_refl _))⟩;exact⟨Nat.le_trans (zfg xs lo hi) hz,_,0,(r.drop (HT.sIx xs.length 0 lo)).take (HT.sIx xs.length xs.length hi-HT.sIx xs.length 0 lo),Heap.get?_push_size _ rfl⟩
inductive LenR(K:PySem.W.Frag)(xs:List V)(H:Hp)(Q:VK):Prop
 | mk (p:Addr) (ys:List V) (e:xs=[.ref p]) (s:SqL K H p ys\/SqT K H p ys) (q:Q (.int ys.length) H):LenR K xs H Q
theorem zi2:CallR X (.builtin "len") (LenR X.K):=by
 intro pins s σ H xs us Q I r h;obtain⟨p,ys,rfl,hq,q⟩:=h;obtain⟨u,rfl,rx⟩:=vals1 r;cases rx;have hn:=line63;rcases hq with hq | hq
 ·obtain⟨its,r',pl,hz⟩:=I.list hq;have hlen:=r'.length;exact Calls.call_len_list pl.isList (by simp only[List.size_toArray] <;> omega) ⟨.int ys.length,H,I.tok _,⟨s.toks+1,by rw[List.size_toArray,hlen]⟩,q⟩
 ·obtain⟨its,r',pl,hz⟩:=I.tuple hq;have hlen:=r'.length;exact len_tuple pl (by simp only[List.size_toArray] <;> omega) ⟨.int ys.length,H,I.tok _,⟨s.toks+1,by rw[List.size_toArray,hlen]⟩,q⟩
theorem zed:CallR X (.builtin "len") (fun xs H Q=>∃z,xs=[.str z]/\z.length<=sizeLine/\Q (.int z.length) H):=by
 intro pins s σ H xs us Q I r h;obtain⟨z,rfl,hz,q⟩:=h;obtain⟨u,rfl,t,rfl⟩:=vals1 r;have hn:=line63;exact len_str (by omega) ⟨.int z.length,H,I.tok _,⟨_,rfl⟩,q⟩
theorem zi1:CallR X (.type "list") (fun xs H Q=>∃p ys,xs=[.ref p]/\(SqL X.K H p ys\/SqT X.K H p ys)/\∀l,H l=none->Q (.ref l) (upd H l (.lst ys))):=by
 intro pins s σ H xs us Q I r h;obtain⟨p,ys,rfl,hq,q⟩:=h;obtain⟨u,rfl,rx⟩:=vals1 r;cases rx;have fin:∀(its:List Value),Vals ys its->ys.length<=sizeLine->∀(h':Heap) (c':Nat),(∀b o',s.heap.get? b=some o'->h'.get? b=some o') →
   h'.get? s.heap.objs.size=some { cls:=.type "list",dict:=none,data:=.seq its.toArray c',slots:=#[] }->EP X pins σ Q (.ref s.heap.objs.size) { s with heap:=h' }:=fun its r' hz h' c' kp e =>
  ⟨.ref s.heap.objs.size,_,I.laid (t':=s.toks) kp (Nat.le_refl _) (show ObjOk X.prog X.w _ h' _ (.lst ys) from ⟨hz,its,c',r',e⟩),rfl,q _ (I.hok.fresh (Nat.le_refl _))⟩
 rcases hq with hq | hq
 ·obtain⟨its,r',pl,hz⟩:=I.list hq;have hlen:=r'.length;obtain⟨o,ho,hc,n,hd⟩:=pl.isList;exact call_list_seq p (.inl rfl) ho hc hd (fun h' c' kp e=>fin its r' hz h' c' kp e) (by simp only[List.size_toArray] <;> omega)
 ·obtain⟨its,r',pl,hz⟩:=I.tuple hq;have hlen:=r'.length;obtain⟨o,ho,hc,n,hd⟩:=pl;exact call_list_seq p (.inr rfl) ho hc hd (fun h' c' kp e=>fin its r' hz h' c' kp e) (by simp only[List.size_toArray] <;> omega)
theorem zd1:CallR X (.type "tuple") (fun xs H Q=>∃p ys,xs=[.ref p]/\((SqL X.K H p ys/\∀l,H l=none->Q (.ref l) (upd H l (.tup ys)))\/(SqT X.K H p ys/\Q (.ref p) H))):=by
 intro pins s σ H xs us Q I r h;obtain⟨p,ys,rfl,h⟩:=h;obtain⟨u,rfl,rx⟩:=vals1 r;cases rx;rcases h with ⟨hq,q⟩ | ⟨hq,q⟩
 ·obtain⟨its,r',pl,hz⟩:=I.list hq;have hlen:=r'.length;refine call_tuple_list pl.isList (fun h' kp=>?_) (by simp only[List.size_toArray] <;> omega);have I1:Inv X pins σ H { s with heap:=h' }:=I.kept (t':=s.toks) kp;have I2:Inv X pins σ (upd H h'.objs.size (.tup ys)) { s with heap:=h'.push { cls:=.type "tuple",data:=.seq its.toArray } } :=
   I1.laid (t':=s.toks) (fun b o e=>Heap.get?_push_of_some _ e) (Nat.le_refl _) (show ObjOk X.prog X.w _ _ _ (.tup ys) from ⟨hz,its,r',IsTup.new _ _,_,Heap.get?_push_size _ rfl,rfl⟩)
  exact⟨.ref h'.objs.size,_,I2,rfl,q _ (I1.hok.fresh (Nat.le_refl _))⟩
 ·obtain⟨its,r',pl,hz⟩:=I.tuple hq;exact call_tuple_same pl ⟨.ref p,H,I,rfl,q⟩
def tyV(K:PySem.W.Frag)(T:String)(x:V)(H:Hp):Prop:=match x with
 | .str _=>T="str"
 | .int _=>T="int"
 | .ref p=>(T="list"/\∃xs,SqL K H p xs)\/(T="tuple"/\∃o,K.lookup p=some o/\o.cls=.type "tuple"/\o.dict=none) \/
   (T="dict"/\((∃kvs,H p=some (.dK kvs))\/∃kvs,H p=some (.dT kvs)))\/(T="set"/\∃S n,H p=some (.set S n))
 | _=>False
theorem tyV_is{pins:List (Addr×Obj)}{σ:St}{H:Hp}{s:Shared}{T:String}{x:V}{v:Value}(I:Inv X pins σ H s)(r:RelV x v)(ty:tyV X.K T x H):
  s.TypeIs v T/\∀a,v=.ref a->∃ob,s.heap.get? a=some ob/\ob.dict=none:=by
 cases x with
 | str z =>
  obtain⟨t,rfl⟩:=r;cases (show T="str" from ty);exact⟨typeIs_str s z t,fun _ e=>nomatch e⟩
 | int i =>
  obtain⟨t,rfl⟩:=r;cases (show T="int" from ty);exact⟨typeIs_int s i t,fun _ e=>nomatch e⟩
 | ref p =>
  cases r;rcases ty with ⟨rfl,xs,hq⟩ | ⟨rfl,o,hk,hc,hd⟩ | ⟨rfl,hk⟩ | ⟨rfl,S,n,hk⟩
  ·obtain⟨its,_,pl,_⟩:=I.list hq;refine⟨pl.isList.typeIs,fun a e=>?_⟩;cases e;obtain⟨o,n,e,c,hd,_⟩:=pl;exact⟨o,e,hd⟩
  ·refine⟨⟨o,I.kIn p o hk,hc⟩,fun a e=>?_⟩;cases e;exact⟨o,I.kIn _ o hk,hd⟩
  ·have z:∃o,s.heap.get? p=some o/\o.ExactDict:=by
    rcases hk with ⟨kvs,hk⟩ | ⟨kvs,hk⟩
    ·obtain⟨_,_,_,_,o,_,_,e,ex,_⟩:=I.hok p _ hk;exact⟨o,e,ex⟩
    ·obtain⟨_,_,_,_,o,_,_,e,ex,_⟩:=I.hok p _ hk;exact⟨o,e,ex⟩
   obtain⟨o,e,ex⟩:=z;refine⟨⟨o,e,ex.1⟩,fun a e2=>?_⟩;cases e2;exact⟨o,e,ex.2.1⟩
  ·obtain⟨o,_,_,_,e,ex,_⟩:=I.hok p _ hk;refine⟨⟨o,e,ex.1⟩,fun a e2=>?_⟩;cases e2;exact⟨o,e,ex.2.1⟩
 | _=>exact False.elim ty
def tBM(K:PySem.W.Frag)(T:String)(r:V->List V->Hp->VK->Prop)(to:TE)(t:TA):TE:=fun σ H Q=>to σ H fun x H1=>tyV K T x H1/\t σ H1 fun xs H2=>r x xs H2 Q
variable {o e:Expr} {es:List Expr} {to:TE} {t:TA} {name:Str} {apos cpos:Pos} {T id:String} {r:V->List V->Hp->VK->Prop}
theorem pe_bm (pa:PlainAttrs T) (slot:Slot T name id) (hty:typeOf (.builtin id)=pure (.type "method_descriptor")) (hm:MtR X id r) (ho:PE X o to) (ha:PA X (e :: es) t)
  (hbase:attributeBase o name X.env (eval o X.env)=eval o X.env:=by rfl)
  (hfew:((backTo cpos (starEach (e :: es) X.env)).all (fun x=>!x.1) && (backToKw cpos (keywordEach [] X.env)).all (fun x=>x.1.isSome)
   && decide ((e :: es).length+([]:List Keyword).length+(if ([]:List Keyword).isEmpty then 0 else 1)<30))=true:=by rfl)
  (hline:(apos.endLine == cpos.line)=true:=by rfl) (hs:starEach (e :: es) X.env=(false,eval e X.env) :: starEach es X.env:=by rfl) (hplain:(backTo cpos (starEach es X.env)).any (·.1)=false:=by rfl) :
  PE X (.Call (.Attribute o name apos) (e :: es) [] cpos) (tBM X.K T r to t):=by
 intro pins s σ H Q I h;refine wpAny_Call_method_late hbase hfew hline rfl (thn (ho pins s σ H _ I h) fun v s1 ⟨x,H1,I1,r1,ty,q1⟩=>?_);obtain⟨h1,h2⟩:=tyV_is I1 r1 ty;refine⟨T,id,pa,slot,hty,h1,h2,?_⟩;have hA:=ha cpos pins s1 σ H1 _ I1 q1;rw[hs] at hA ⊢;refine Calls.callWith_builtin (by show(false || (backTo cpos (starEach es X.env)).any (·.1))=false; rw[hplain] <;> rfl) (Calls.evalArgs_plain ?_);exact thn hA fun us s2 ⟨vs,H2,I2,r2,q2⟩=>hm pins s2 σ H2 x vs v us Q I2 r1 r2 q2
end
def MtM(X:Cx)(id:String)(r:V->List V->Hp->VK->Prop):Prop :=
 ∀(pins:List (Addr×Obj)) (s:Shared) (σ:St) (H:Hp) (x:V) (xs:List V) (v:Value) (us:List Value) (Q:VK),Inv X pins σ H s->RelV x v->Vals xs us->r x xs H Q →
  wpAny (model X.prog X.w) X.A (call (.builtin id) (v :: us)) (EP X pins σ Q) X.xe s
theorem Vals.one:∀{x:V} {us:List Value},Vals [x] us->∃u,us=[u]/\RelV x u
 | _,_,.cons r .nil=>⟨_,rfl,r⟩
theorem Vals.two:∀{x y:V} {us:List Value},Vals [x,y] us->∃u v,us=[u,v]/\RelV x u/\RelV y v
 | _,_,_,.cons r (.cons q .nil)=>⟨_,_,rfl,r,q⟩
theorem Vals.eraseIdx:∀{xs:List V} {us:List Value} (i:Nat),Vals xs us->Vals (xs.eraseIdx i) (us.eraseIdx i)
 | _,_,_,.nil=>.nil
 | _,_,0,.cons _ t=>t
 | _,_,i+1,.cons r t=>.cons r (Vals.eraseIdx i t)
section
variable {X:Cx} {pins:List (Addr×Obj)} {σ:St} {H:Hp} {s:Shared} {l b:Addr} {xs ys zs:List V}
theorem Inv.lset {its its':List Value} {n:Nat} {f:Array Value->Array Value} {t':Nat} (I:Inv X pins σ H s) (hH:H l=some (.lst xs))
  (e:s.heap.get? l=some { cls:=.type "list",data:=.seq its.toArray n }) (hf:f its.toArray=its'.toArray) (hv:Vals ys its') (hz:ys.length<=sizeLine) :
  Inv X pins σ (upd H l (.lst ys)) { s with heap:=s.heap.update l (Obj.mapSeq f),toks:=t' }:=by
 have q:=PySem.IsL.update e f;rw[hf] at q;refine I.write (x:=l) (e:=l) (by rw[hH]; exact trivial) (.inl rfl) (fun b' u hb hu=>(Heap.get?_update_other s.heap (Obj.mapSeq f) (Ne.symm hb)).trans hu) ⟨_,q⟩ ?_;exact⟨hz,its',_,hv,q⟩
theorem Inv.lnew{its:List Value}{t':Nat}(I:Inv X pins σ H s)(hv:Vals ys its)(hz:ys.length<=sizeLine):
  Inv X pins σ (upd H s.heap.objs.size (.lst ys)) { s with heap:=s.heap.push { cls:=.type "list",data:=.seq its.toArray },toks:=t' } :=
 I.laid (fun _ _ q=>Heap.get?_push_of_some _ q) (Nat.le_refl _) ⟨hz,its,0,hv,Heap.get?_push_size _ rfl⟩
theorem Inv.fresh(I:Inv X pins σ H s):H s.heap.objs.size=none:=I.hok.fresh (Nat.le_refl _)
theorem Inv.lstM(I:Inv X pins σ H s)(hH:H l=some (.lst xs)):xs.length<=sizeLine/\∃(its:List Value) (n:Nat),Vals xs its/\xs.length=its.length/\s.heap.get? l=some { cls:=.type "list",data:=.seq its.toArray n }:=by
 obtain⟨z,its,n,r,e⟩:=I.hok l _ hH;exact⟨z,its,n,r,r.length,e⟩
end
section
variable {X:Cx}
inductive AppR(x:V)(vs:List V)(H:Hp)(Q:VK):Prop
 | mk (l:Addr) (xs:List V) (y:V) (e1:x=.ref l) (e2:vs=[y]) (h:H l=some (.lst xs)) (n:xs.length<sizeLine) (q:Q .non (upd H l (.lst (xs++[y])))):AppR x vs H Q
def rAppend:V->List V->Hp->VK->Prop:=fun x vs H Q=>AppR x vs H Q
theorem zal:MtM X "list.append" rAppend:=by
 intro pins s σ H x vs v us Q I rx rv h;obtain⟨l,xs,y,rfl,rfl,hH,hz,q⟩:=h;cases rx;obtain⟨u,rfl,ru⟩:=rv.one;obtain⟨z,its,n,r,hl,e⟩:=I.lstM hH;refine call_meets F.slot_list_append ⟨_,e,rfl⟩ F.entry_list_append (F.args_list_append_2 _ _) (PySem.list_append l its.toArray n u (by rw[List.size_toArray]; omega)) ⟨e,?_⟩;refine⟨.non,_,I.lset (its':=its++[u]) hH e (by simp) (r.append (.cons ru .nil)) ?_,rfl,q⟩;rw[List.length_append,List.length_singleton];omega
inductive CatR(x y:V)(H:Hp)(Q:VK):Prop
 | mk (l b:Addr) (xs zs:List V) (e1:x=.ref l) (e2:y=.ref b) (h1:H l=some (.lst xs)) (h2:H b=some (.lst zs)) (n:xs.length+zs.length<=sizeLine) (q:∀p,H p=none->Q (.ref p) (upd H p (.lst (xs++zs)))):CatR x y H Q
def rCat:R2:=fun x y H Q=>CatR x y H Q
theorem zjo:OpR X (binaryOp .Add) rCat:=by
 intro pins s σ H x y v u Q I rx ry h;obtain⟨l,b,xs,zs,rfl,rfl,hH,hB,hz,q⟩:=h;cases rx;cases ry;obtain⟨z,its,n,r,hl,e⟩:=I.lstM hH;obtain⟨z2,its2,n2,r2,hl2,e2⟩:=I.lstM hB;refine PySem.P.add_list e e2 ?_ (by rw[List.size_toArray,List.size_toArray]; omega);have ea:its.toArray++its2.toArray=(its++its2).toArray:=by simp
 rw[ea];exact⟨.ref _,_,I.lnew (t':=s.toks) (r.append r2) (by rw[List.length_append]; omega),rfl,q _ I.fresh⟩
end
section
variable {prog:Program} {w:World} {A:Around} {E:Value->Shared->Prop} {s:Shared}
end
section
variable {X:Cx}
end
section
variable {κ:Type} [DecidableEq κ]
def valV(kvs:List (κ×V))(k:κ):Option V:=(kvs.find? fun kv=>decide (kv.1=k)).map (·.2)
def putK(kvs:List (κ×V))(k:κ)(v:V):List (κ×V) :=
 if (kvs.any fun kv=>decide (kv.1=k))=true then kvs.map (fun kv=>if kv.1=k then (kv.1,v) else kv) else kvs++[(k,v)]
def dropK(kvs:List (κ×V))(k:κ):List (κ×V):=kvs.filter fun kv=>decide (kv.1≠k)
theorem zdn{p:κ×V}{r:List (κ×V)}{k:κ}(e:p.1=k):valV (p :: r) k=some p.2:=by simp[valV,List.find?_cons,e]
theorem zdo{p:κ×V}{r:List (κ×V)}{k:κ}(e:¬p.1=k):valV (p :: r) k=valV r k:=by simp[valV,List.find?_cons,e]
theorem zee(k:κ):∀kvs:List (κ×V),(kvs.any fun kv=>decide (kv.1=k))=(valV kvs k).isSome
 | []=>rfl
 | p :: r=>by
  rw[List.any_cons];by_cases e:p.1=k
  ·simp only[zdn e,decide_eq_true e,Bool.true_or,Option.isSome_some]
  ·rw[zdo e,decide_eq_false e,Bool.false_or]; exact zee k r
theorem zdl(kvs:List (κ×V))(k:κ)(v:V):(putK kvs k v).length<=kvs.length+1:=by
 unfold putK;split
 ·rw[List.length_map]; omega
 ·rw[List.length_append,List.length_cons,List.length_nil]; omega
theorem RelO.isSome_eq{o:Option V}{u:Option Value}(r:RelO o u):o.isSome=u.isSome:=by
 cases o with
 | none=>cases u with
  | none=>rfl
  | some _=>exact(show False from r).elim
 | some _=>cases u with
  | none=>exact(show False from r).elim
  | some _=>rfl
theorem RelO.getD{o:Option V}{u:Option Value}{d:V}{d':Value}(r:RelO o u)(rd:RelV d d'):RelV (o.getD d) (u.getD d'):=by
 cases o with
 | none=>cases u with
  | none=>exact rd
  | some _=>exact(show False from r).elim
 | some _=>cases u with
  | none=>exact(show False from r).elim
  | some _=>exact r
theorem KV.val{kvs:List (κ×V)}{vs:List (κ×Value)}(r:KV kvs vs)(k:κ):RelO (valV kvs k) (valueAt vs k):=by
 unfold KV at r
 induction r with
 | nil=>exact True.intro
 | @cons p q ps qs h t ih =>
  obtain⟨h1,h2⟩:=h;by_cases e:p.1=k
  ·have e':q.1=k:=h1.symm.trans e;have b:valueAt (q :: qs) k=some q.2:=by simp[valueAt,List.find?_cons,e']
   rw[zdn e,b]; exact h2
  ·have e':¬q.1=k:=fun z=>e (h1.trans z)
   have b:valueAt (q :: qs) k=valueAt qs k:=by simp[valueAt,List.find?_cons,e']
   rw[zdo e,b]; exact ih
theorem KV.any{kvs:List (κ×V)}{vs:List (κ×Value)}(r:KV kvs vs)(k:κ):(kvs.any fun kv=>decide (kv.1=k))=vs.any fun kv=>decide (kv.1=k):=by
 unfold KV at r
 induction r with
 | nil=>rfl
 | cons h t ih=>rw[List.any_cons,List.any_cons,ih,h.1]
theorem KV.repl{kvs:List (κ×V)}{vs:List (κ×Value)}(r:KV kvs vs)(k:κ){y:V}{u:Value}(ry:RelV y u):
  KV (kvs.map fun kv=>if kv.1=k then (kv.1,y) else kv) (vs.map fun kv=>if kv.1=k then (kv.1,u) else kv):=by
 unfold KV at r ⊢
 induction r with
 | nil=>exact .nil
 | @cons p q ps qs h t ih =>
  rw[List.map_cons,List.map_cons];refine .cons ?_ ih;obtain⟨h1,h2⟩:=h;by_cases e:p.1=k
  ·rw[if_pos e,if_pos (h1.symm.trans e)]; exact⟨h1,ry⟩
  ·rw[if_neg e,if_neg (fun z=>e (h1.trans z))]; exact⟨h1,h2⟩
theorem KV.put{kvs:List (κ×V)}{vs:List (κ×Value)}(r:KV kvs vs)(k:κ){y:V}{u:Value}(ry:RelV y u):KV (putK kvs k y) (stored vs k u):=by
 unfold putK stored;rw[r.any k];by_cases e:(vs.any fun kv=>decide (kv.1=k))=true
 ·rw[if_pos e,if_pos e]; exact r.repl k ry
 ·rw[if_neg e,if_neg e]; exact Paired.snoc r ⟨rfl,ry⟩
theorem KV.drop{kvs:List (κ×V)}{vs:List (κ×Value)}(r:KV kvs vs)(k:κ):KV (dropK kvs k) (without vs k):=by
 unfold KV at r ⊢;unfold dropK without
 induction r with
 | nil=>exact .nil
 | @cons p q ps qs h t ih =>
  obtain⟨h1,h2⟩:=h;rw[List.filter_cons,List.filter_cons];by_cases e:p.1=k
  ·have a:¬decide (p.1≠k)=true:=by simp[e]
   have b:¬decide (q.1≠k)=true:=by simp[h1.symm.trans e]
   rw[if_neg a,if_neg b]; exact ih
  ·have e':¬q.1=k:=fun z=>e (h1.trans z)
   have a:decide (p.1≠k)=true:=by simp[e]
   have b:decide (q.1≠k)=true:=by simp[e']
   rw[if_pos a,if_pos b]; exact .cons ⟨h1,h2⟩ ih
theorem KV.length{kvs:List (κ×V)}{vs:List (κ×Value)}(r:KV kvs vs):kvs.length=vs.length:=Paired.length r
end
theorem zkw{P:Program}{w:World}{k:Key}{u:Value}(r:RelV (kV k) u):(mixKind P w).is k u=true:=by
 cases k with
 | inl i=>obtain⟨t,e⟩:=(show ∃t,u=Value.int i t from r); subst e; exact zis P w i t
 | inr x=>obtain⟨t,e⟩:=(show ∃t,u=Value.str x t from r); subst e; exact zir P w x t
theorem zht{P:Program}{w:World}:∀{ks:List Key} {us:List Value},Vals (ks.map kV) us->ItemsAre (mixKind P w) ks us
 | [],_,r=>by rw[List.map_nil] at r; cases r; exact .nil
 | k :: ks,_,r=>by
  rw[List.map_cons] at r;cases r with
  | cons h t=>exact .cons (zkw h) (zht t)
abbrev KT(H:Hp):List (List Key×V)->List (List Key×Addr×Value)->Prop:=Paired fun p q=>p.1=q.1/\H q.2.1=some (.tup (p.1.map kV))/\RelV p.2 q.2.2
theorem KT.val{H:Hp}{kvs:List (List Key×V)}{xs:List (List Key×Addr×Value)}(r:KT H kvs xs)(k:List Key):RelO (valV kvs k) ((atKey xs k).map (·.2)):=by
 induction r with
 | nil=>exact True.intro
 | @cons p q ps qs h t ih =>
  obtain⟨h1,_,h2⟩:=h;by_cases e:p.1=k
  ·have e':q.1=k:=h1.symm.trans e;have b:atKey (q :: qs) k=some q.2:=by simp[atKey,List.find?_cons,e']
   rw[zdn e,b]; exact h2
  ·have e':¬q.1=k:=fun z=>e (h1.trans z)
   have b:atKey (q :: qs) k=atKey qs k:=by simp[atKey,List.find?_cons,e']
   rw[zdo e,b]; exact ih
theorem KT.repl{H:Hp}{kvs:List (List Key×V)}{xs:List (List Key×Addr×Value)}(r:KT H kvs xs)(k:List Key){y:V}{u:Value}(ry:RelV y u):
  KT H (kvs.map fun kv=>if kv.1=k then (kv.1,y) else kv) (xs.map (putAt k u)):=by
 induction r with
 | nil=>exact .nil
 | @cons p q ps qs h t ih =>
  rw[List.map_cons,List.map_cons];refine .cons ?_ ih;obtain⟨h1,h2,h3⟩:=h;unfold putAt;by_cases e:p.1=k
  ·rw[if_pos e,if_pos (h1.symm.trans e)]; exact⟨h1,h2,ry⟩
  ·rw[if_neg e,if_neg (fun z=>e (h1.trans z))]; exact⟨h1,h2,h3⟩
theorem KT.put{H:Hp}{kvs:List (List Key×V)}{xs:List (List Key×Addr×Value)}(r:KT H kvs xs)(k:List Key){b:Addr}{y:V}{u:Value}(hb:H b=some (.tup (k.map kV)))(ry:RelV y u):
  KT H (putK kvs k y) (storedH xs k b u):=by
 have e:(kvs.any fun kv=>decide (kv.1=k))=(atKey xs k).isSome:=by
  rw[zee,(r.val k).isSome_eq,Option.isSome_map]
 unfold putK storedH;rw[e];by_cases q:(atKey xs k).isSome=true
 ·rw[if_pos q,if_pos q]; exact r.repl k ry
 ·rw[if_neg q,if_neg q]; exact Paired.snoc r ⟨rfl,hb,ry⟩
theorem KT.keeps{H H':Hp}{kvs:List (List Key×V)}{xs:List (List Key×Addr×Value)}(r:KT H kvs xs)(ht:∀b ys,H b=some (.tup ys)->H' b=some (.tup ys)):KT H' kvs xs :=
 Paired.mapP r fun _ _ z=>⟨z.1,ht _ _ z.2.1,z.2.2⟩
section
variable {P:Program} {w:World} {H:Hp} {h:Heap} {a:Addr}
theorem rd_of{u:HO}(ok:HOk P w H h)(e:Rd H a u):ObjOk P w H h a u:=e.ok ok
theorem zkz{kvs:List (Key×V)}(ok:HOk P w H h)(e:Rd H a (.dK kvs)):kvs.length<=sizeLine/\(a == sysModules)=false/\∃vs,KV kvs vs/\h.DictOf (mixKind P w) a vs :=
 show ObjOk P w H h a (.dK kvs) from rd_of ok e
theorem dk_of{kvs:List (Key×V)}(ok:HOk P w H h)(e:H a=some (.dK kvs)):kvs.length<=sizeLine/\(a == sysModules)=false/\∃vs,KV kvs vs/\h.DictOf (mixKind P w) a vs:=zkz ok (.inl e)
theorem zhs{ks:List Key}(ok:HOk P w H h)(e:H a=some (.tup (ks.map kV))):(tupleKind (mixKind P w)).is h ks a:=by
 obtain⟨_,its,r,⟨o,h1,h2,n,h3⟩,_⟩:=(show ObjOk P w H h a (.tup (ks.map kV)) from ok a _ e);exact⟨o,its.toArray,n,h1,h2,h3,by simpa using zht r⟩
theorem zn3{kvs:List (List Key×V)}(ok:HOk P w H h)(e:Rd H a (.dT kvs)):kvs.length<=sizeLine/\(a == sysModules)=false /\
  ∃xs,KT H kvs xs/\h.DictOfH (tupleKind (mixKind P w)) a xs:=by
 obtain⟨z,y,xs,r,o,es,ep,h1,h2,h3,h4,h5⟩:=(show ObjOk P w H h a (.dT kvs) from rd_of ok e);refine⟨z,y,xs,r,o,es,ep,h1,h2,h3,h4,fun x hx=>?_,h5⟩;have all:∀{l:List (List Key×V)} {m:List (List Key×Addr×Value)},KT H l m->∀x∈m,(tupleKind (mixKind P w)).is h x.1 x.2.1:=by
  intro l m q
  induction q with
  | nil=>intro x hx; exact nomatch hx
  | @cons p q ps qs hq t ih =>
   intro x hx;rcases List.mem_cons.mp hx with e | hx
   ·subst e;exact zhs ok (by rw[<-hq.1]; exact hq.2.1)
   ·exact ih x hx
 exact all r x hx
theorem dt_of{kvs:List (List Key×V)}(ok:HOk P w H h)(e:H a=some (.dT kvs)):kvs.length<=sizeLine/\(a == sysModules)=false /\
  ∃xs,KT H kvs xs/\h.DictOfH (tupleKind (mixKind P w)) a xs:=zn3 ok (.inl e)
end
def DGet(H:Hp)(a:Addr)(y:V)(r:Option V):Prop :=
 (∃kvs k,Rd H a (.dK kvs)/\y=kV k/\r=valV kvs k)\/∃kvs k b,Rd H a (.dT kvs)/\y=.ref b/\H b=some (.tup (k.map kV))/\r=valV kvs k
def DPut(H:Hp)(a:Addr)(y v:V)(H':Hp):Prop :=
 (∃kvs k,H a=some (.dK kvs)/\y=kV k/\kvs.length<sizeLine/\H'=upd H a (.dK (putK kvs k v))) \/
 ∃kvs k b,H a=some (.dT kvs)/\y=.ref b/\H b=some (.tup (k.map kV))/\kvs.length<sizeLine/\H'=upd H a (.dT (putK kvs k v))
theorem DGet.k{H:Hp}{a:Addr}{kvs:List (Key×V)}{k:Key}(e:H a=some (.dK kvs)):DGet H a (kV k) (valV kvs k):=.inl ⟨kvs,k,.inl e,rfl,rfl⟩
theorem DGet.t{H:Hp}{a b:Addr}{kvs:List (List Key×V)}{k:List Key}(e:H a=some (.dT kvs))(eb:H b=some (.tup (k.map kV))):DGet H a (.ref b) (valV kvs k):=.inr ⟨kvs,k,b,.inl e,rfl,eb,rfl⟩
theorem DPut.k{H:Hp}{a:Addr}{kvs:List (Key×V)}{k:Key}{v:V}(e:H a=some (.dK kvs))(hl:kvs.length<sizeLine):DPut H a (kV k) v (upd H a (.dK (putK kvs k v))):=.inl ⟨kvs,k,e,rfl,hl,rfl⟩
theorem DPut.t{H:Hp}{a b:Addr}{kvs:List (List Key×V)}{k:List Key}{v:V}(e:H a=some (.dT kvs))(eb:H b=some (.tup (k.map kV)))(hl:kvs.length<sizeLine):
  DPut H a (.ref b) v (upd H a (.dT (putK kvs k v))):=.inr ⟨kvs,k,b,e,rfl,eb,hl,rfl⟩
section
variable {X:Cx} {pins:List (Addr×Obj)} {σ:St} {H:Hp} {s:Shared} {a:Addr} {y v:V} {u r:Value} {o:Option V} {A:Around} {E:Value->Shared->Prop}
theorem Inv.big(I:Inv X pins σ H s):sysModules<s.heap.objs.size:=by
 have h:mainGlobals<s.heap.objs.size:=(I.mod.glob.keeps I.bk).lt;exact Nat.lt_trans (by decide) h
theorem zn9{Q:Value->Shared->Prop}(hu:A.units+1<cLine)(I:Inv X pins σ H s)(g:DGet H a y (some v))(ry:RelV y u)(h:∀w' s',Inv X pins σ H s'->RelV v w'->Q w' s'):
  wpAny (model X.prog X.w) A (getItem (.ref a) u) Q E s:=by
 rcases g with ⟨kvs,k,e,ey,l⟩ | ⟨kvs,k,b,e,ey,eb,l⟩
 ·subst ey;obtain⟨z,hd,vs,rel,dd⟩:=zkz I.hok e;obtain⟨w',hw,rw'⟩:=RelO.some_of (v:=v) (o:=valueAt vs k) (by rw[l]; exact rel.val k);exact wpAny_getItem_of (zkw ry) dd.mapOf hw (h w' _ (I.tok _) rw')
 ·subst ey;cases (show u=Value.ref b from ry);obtain⟨z,hd,xs,rel,dd⟩:=zn3 I.hok e;obtain⟨w',hw,rw'⟩:=RelO.some_of (v:=v) (o:=(atKey xs k).map (·.2)) (by rw[l]; exact rel.val k);obtain⟨p,hp,hp2⟩:=Option.map_eq_some_iff.mp hw;refine wpAny_getItem_heap (tupleKind_room_in1 hu) (zhs I.hok eb) dd hp ?_;rw[hp2];exact h w' _ (I.tok _) rw'
theorem d_in{Q:Value->Shared->Prop}(hu:A.units+1<cLine)(I:Inv X pins σ H s)(g:DGet H a y o)(ry:RelV y u)(h:∀s',Inv X pins σ H s'->Q (.bool o.isSome) s'):
  wpAny (model X.prog X.w) A (compareOp .In u (.ref a)) Q E s:=by
 rcases g with ⟨kvs,k,e,ey,l⟩ | ⟨kvs,k,b,e,ey,eb,l⟩
 ·subst ey;obtain⟨z,hd,vs,rel,dd⟩:=zkz I.hok e;refine wpAny_in_of (zkw ry) hd dd.mapOf ?_;rw[<-(rel.val k).isSome_eq,<-l];exact h _ (I.tok _)
 ·subst ey;cases (show u=Value.ref b from ry);obtain⟨z,hd,xs,rel,dd⟩:=zn3 I.hok e;refine wpAny_in_heap (tupleKind_room_in1 hu) (zhs I.hok eb) hd dd ?_;have q:=(rel.val k).isSome_eq;rw[Option.isSome_map] at q;rw[<-q,<-l];exact h _ (I.tok _)
theorem zss{Q:Value->Shared->Prop}(hu:A.units+1<cLine)(I:Inv X pins σ H s)(g:DGet H a y o)(ry:RelV y u)(h:∀s',Inv X pins σ H s'->Q (.bool (!o.isSome)) s'):
  wpAny (model X.prog X.w) A (compareOp .NotIn u (.ref a)) Q E s:=by
 rcases g with ⟨kvs,k,e,ey,l⟩ | ⟨kvs,k,b,e,ey,eb,l⟩
 ·subst ey;obtain⟨z,hd,vs,rel,dd⟩:=zkz I.hok e;refine wpAny_notIn_of (zkw ry) hd dd.mapOf ?_;rw[<-(rel.val k).isSome_eq,<-l];exact h _ (I.tok _)
 ·subst ey;cases (show u=Value.ref b from ry);obtain⟨z,hd,xs,rel,dd⟩:=zn3 I.hok e;refine wpAny_notIn_heap (tupleKind_room_in1 hu) (zhs I.hok eb) hd dd ?_;have q:=(rel.val k).isSome_eq;rw[Option.isSome_map] at q;rw[<-q,<-l];exact h _ (I.tok _)
theorem zj0{h':Heap}{t':Nat}{ob:HO}(I:Inv X pins σ H s)(mu:Mut (H a))(hs:Heap.SameBut a s.heap h')(he:∃q,h'.get? a=some q)(new:ObjOk X.prog X.w (upd H a ob) h' a ob):
  Inv X pins σ (upd H a ob) { s with heap:=h',toks:=t' } :=
 I.write (x:=a) (e:=a) mu (.inl rfl) (fun b q hb z=>(hs.2 b hb).trans z) he new
theorem zqo{P:Program}{w:World}{H':Hp}{h':Heap}{kvs:List (Key×V)}{vs:List (Key×Value)}(z:kvs.length<=sizeLine)(hd:(a == sysModules)=false)(rel:KV kvs vs)(dd:h'.DictOf (mixKind P w) a vs):
  ObjOk P w H' h' a (.dK kvs):=⟨z,hd,vs,rel,dd⟩
theorem zn8{H':Hp}{Q:Unit->Shared->Prop}(hu:A.units+1<cLine)(I:Inv X pins σ H s)(g:DPut H a y v H')(ry:RelV y u)(rv:RelV v r)(h:∀s',Inv X pins σ H' s'->Q () s'):
  wpAny (model X.prog X.w) A (setItem (.ref a) u r) Q E s:=by
 rcases g with ⟨kvs,k,e,ey,l,eH⟩ | ⟨kvs,k,b,e,ey,eb,l,eH⟩
 ·subst ey eH;obtain⟨z,hd,vs,rel,dd⟩:=dk_of I.hok e;have hz:vs.length<=sizeLine:=by rw[<-rel.length]; exact z
  have hl:(putK kvs k v).length<=sizeLine:=by have:=zdl kvs k v; omega
  refine wpAny_setItem_pairs (hsz:=hz) (zkw ry) dd fun h' dd' hs=>h _ ?_
  have he:∃q,h'.get? a=some q:=let ⟨q,_,_,hq,_⟩:=dd'; ⟨q,hq⟩
  exact zj0 I (by rw[e]; exact True.intro) hs he (zqo hl hd (rel.put k rv) dd')
 ·subst ey eH;cases (show u=Value.ref b from ry);obtain⟨z,hd,xs,rel,dd⟩:=dt_of I.hok e;have hz:xs.length<=sizeLine:=by rw[<-Paired.length rel]; exact z
  have hl:(putK kvs k v).length<=sizeLine:=by have:=zdl kvs k v; omega
  refine wpAny_setItem_heap (hsz:=hz) (tupleKind_room_in1 hu) (zhs I.hok eb) dd fun h' dd' hs=>h _ ?_
  obtain⟨q,es,ep,hq,h2,h3,h4,_,h5⟩:=dd';refine zj0 I (by rw[e]; exact True.intro) hs ⟨q,hq⟩ ⟨hl,hd,_,(rel.put k eb rv).keeps fun c ys ec=>?_,q,es,ep,hq,h2,h3,h4,h5⟩;rw[upd_ne (ne_of ec e (fun z=>nomatch z))];exact ec
end
section
variable {X:Cx} {pins:List (Addr×Obj)} {σ:St} {H:Hp} {s:Shared} {a:Addr} {kvs:List (Key×V)} {k:Key} {u:Value} {A:Around} {E:Value->Shared->Prop}
theorem d_len{Q:Value->Shared->Prop}(I:Inv X pins σ H s)(e:Rd H a (.dK kvs))(h:∀t s',Inv X pins σ H s'->Q (.int kvs.length t) s'):wpAny (model X.prog X.w) A (call (.builtin "len") [.ref a]) Q E s:=by
 obtain⟨z,hd,vs,rel,dd⟩:=zkz I.hok e;refine call_len_dict hd dd (by rw[<-rel.length]; rw[sizeLine_eq] at z; omega) ?_;rw[<-rel.length];exact h _ _ (I.tok _)
end
def NoSl(i:Expr):Prop:=∀ov iv,subscripted i false ov iv=operate [ov,iv] (getItem ov iv)
theorem zr8 {prog:Program} {w:World} {A:Around} {E:Value->Shared->Prop} {s:Shared} {env:Env} {value slice:Expr} {pos:Pos} {T id:String} {Q:Value->Shared->Prop}
  (hl:typeLookup (.type T) "__getitem__" = pure (some (.builtin id))) (hs:NoSl slice)
  (h:wpAny (model prog w) A (eval value env) (fun o s₁=>wpAny (model prog w) A (eval slice env) (fun i s₂=>s₂.TypeIs o T/\wpAny (model prog w) A (getItem o i) Q E s₂) E s₁) E s) :
  wpAny (model prog w) A (eval (.Subscript value slice pos) env) Q E s:=by
 refine Subscript_ (wpAny_mono h (fun o s₁ h₁=>wpAny_mono h₁ (fun i s₂ h₂=>?_) fun _ _ x=>x) fun _ _ x=>x);obtain⟨hT,h₂⟩:=h₂;unfold subscriptTail;refine wpAny_bind ?_;rw[getitemInPython_of_ne hT.not_modules];refine wpAny_bind (wpAny_specialOf hT hl ?_);have fin:wpAny (model prog w) A (subscripted slice false o i) (fun r s₃=>wpAny (model prog w) A (letTemporaryGo value o r >>= fun _=>pure r) Q E s₃) E s₂:=by
  rw[hs o i];exact wpAny_operating (wpAny_mono h₂ (fun r s₃ h₃=>wpAny_bind (wpAny_letTemporaryGo (wpAny_pure h₃))) fun _ _ x=>x)
 first
  | exact wpAny_pure (wpAny_bind fin)
  | exact wpAny_bind (wpAny_pure (wpAny_bind fin))
  | exact wpAny_bind fin
theorem ziz{X:Cx}{pins:List (Addr×Obj)}{σ:St}{H:Hp}{s:Shared}{a:Addr}{y:V}{o:Option V}(I:Inv X pins σ H s)(g:DGet H a y o):s.TypeIs (.ref a) "dict":=by
 rcases g with ⟨kvs,k,e,_,_⟩ | ⟨kvs,k,b,e,_,_,_⟩
 ·obtain⟨_,_,vs,_,dd⟩:=zkz I.hok e;exact dd.typeIs
 ·obtain⟨_,_,xs,_,dd⟩:=zn3 I.hok e;exact dd.typeIs
inductive DGetR(x y:V)(H:Hp)(Q:VK):Prop
 | mk (a:Addr) (v:V) (e:x=.ref a) (d:DGet H a y (some v)) (q:Q v H):DGetR x y H Q
inductive DInR(x y:V)(H:Hp)(Q:VK):Prop
 | mk (a:Addr) (o:Option V) (e:x=.ref a) (d:DGet H a y o) (q:Q (.bl o.isSome) H):DInR x y H Q
inductive DPutR(x y v:V)(H:Hp)(Q:Hp->Prop):Prop
 | mk (a:Addr) (H4:Hp) (e:x=.ref a) (d:DPut H a y v H4) (q:Q H4):DPutR x y v H Q
def tDGet(td ty:TE):TE:=fun σ H Q=>td σ H fun x H1=>ty σ H1 fun y H2=>DGetR x y H2 Q
def tDIn(ty td:TE):TE:=fun σ H Q=>ty σ H fun y H1=>td σ H1 fun x H2=>DInR x y H2 Q
def tDNotIn(ty td:TE):TE:=fun σ H Q=>ty σ H fun y H1=>td σ H1 fun x H2=>∃a o,x=.ref a/\DGet H2 a y o/\Q (.bl (!o.isSome)) H2
def sDPut(td ty tv:TE):TS:=fun D σ H=>tv σ H fun v H1=>td σ H1 fun x H2=>ty σ H2 fun y H3=>DPutR x y v H3 (D.nx σ)
section
variable {X:Cx} {o i e value:Expr} {pos pos' tpos:Pos} {td ty tv:TE}
theorem zlw(hu:X.A.units+1<cLine)(ho:PE X o td)(hi:PE X i ty)(hs:NoSl i):PE X (.Subscript o i pos) (tDGet td ty):=by
 intro pins s σ H Q I h;refine zr8 PySem.F.slot_dict_getitem.lookup hs (thn (ho pins s σ H _ I h) fun u s1 ⟨x,H1,I1,rx,q1⟩=>thn (hi pins s1 σ H1 _ I1 q1) fun iv s2 ⟨y,H2,I2,ry,a,v,ex,g,q2⟩=>?_);subst ex;obtain rfl:u=Value.ref a:=rx;exact⟨ziz I2 g,zn9 hu I2 g ry fun w' s3 I3 rw'=>⟨v,H2,I3,rw',q2⟩⟩
theorem zqf(hu:X.A.units+1<cLine)(hi:PE X i ty)(ho:PE X o td):PC X .In i o (tDIn ty td):=by
 intro pins s σ H Q I h;refine thn (hi pins s σ H _ I h) fun iv s1 ⟨y,H1,I1,ry,q1⟩=>thn (ho pins s1 σ H1 _ I1 q1) fun u s2 ⟨x,H2,I2,rx,a,ov,ex,g,q2⟩=>?_
 subst ex;obtain rfl:u=Value.ref a:=rx;exact d_in hu I2 g ry fun s3 I3=>⟨.bl ov.isSome,H2,I3,rfl,q2⟩
theorem zhh(hu:X.A.units+1<cLine)(hi:PE X i ty)(ho:PE X o td):PC X .NotIn i o (tDNotIn ty td):=by
 intro pins s σ H Q I h;refine thn (hi pins s σ H _ I h) fun iv s1 ⟨y,H1,I1,ry,q1⟩=>thn (ho pins s1 σ H1 _ I1 q1) fun u s2 ⟨x,H2,I2,rx,a,ov,ex,g,q2⟩=>?_
 subst ex;obtain rfl:u=Value.ref a:=rx;exact zss hu I2 g ry fun s3 I3=>⟨.bl (!ov.isSome),H2,I3,rfl,q2⟩
theorem zgf(hu:X.A.units+1<cLine)(ho:PE X o td)(hi:PE X i ty)(hv:PE X value tv)(hs:swapsWith value (some (.Subscript o i pos')) pos.line X.env=pure false):
  PS X (.Assign [.Subscript o i pos'] value pos) (sDPut td ty tv):=by
 intro pins s σ H D I h;refine wpAny_Assign_Subscript (thn (hv pins s σ H _ I h) fun r s1 ⟨v,H1,I1,rv,q1⟩=>thn (ho pins s1 σ H1 _ I1 q1) fun u s2 ⟨x,H2,I2,rx,q2⟩=>thn (hi pins s2 σ H2 _ I2 q2) fun iv s3 ⟨y,H3,I3,ry,a,H4,ex,g,q3⟩=>?_) hs;subst ex;obtain rfl:u=Value.ref a:=rx;exact zn8 hu I3 g ry rv fun s4 I4=>⟨σ,H4,I4,q3⟩
end
theorem zk3{P:Program}{w:World}{H:Hp}(h:Heap)(hb:sysModules<h.objs.size):ObjOk P w H (h.push { cls:=.type "dict",data:=.dict #[] }) h.objs.size (.dK []) :=
 ⟨Nat.zero_le _,beq_eq_false_iff_ne.mpr (Ne.symm (Nat.ne_of_lt hb)),[],.nil,Heap.DictOf.new h⟩
def tDNewK:TE:=fun _ H Q=>∀p,H p=none->Q (.ref p) (upd H p (.dK []))
section
variable {X:Cx} {pos:Pos}
theorem zjh:PE X (.Dict [] [] pos) tDNewK:=fun pins s σ H Q I h =>
 wpAny_Dict_empty ⟨.ref s.heap.objs.size,_,I.laid (a:=s.heap.objs.size) (o:=.dK []) (t':=s.toks) (fun _ _ q=>Heap.get?_push_of_some _ q) (Nat.le_refl _) (zk3 s.heap I.big),rfl,h _ (I.hok.fresh (Nat.le_refl _))⟩
end
def tPairs:List (TE×TE)->St->Hp->(List (V×V)->Hp->Prop)->Prop
 | [],_,H,Q=>Q [] H
 | (tk,tv) :: r,σ,H,Q=>tk σ H fun x H1=>tv σ H1 fun y H2=>tPairs r σ H2 fun ps H3=>Q ((x,y) :: ps) H3
abbrev VV:List (V×V)->List (Value×Value)->Prop:=Paired fun p q=>RelV p.1 q.1/\RelV p.2 q.2
def PPs(X:Cx)(pos:Pos)(keys:List (Option Expr))(values:List Expr)(trs:List (TE×TE)):Prop :=
 ∀(pins:List (Addr×Obj)) (s:Shared) (σ:St) (H:Hp) (Q:List (V×V)->Hp->Prop),Inv X pins σ H s->tPairs trs σ H Q →
  wpAny (model X.prog X.w) X.A (evalPairs (pairTrees keys values X.env pos)) (fun vs s'=>∃ps H',Inv X pins σ H' s'/\VV ps vs/\Q ps H') X.xe s
theorem zrm{X:Cx}{pos:Pos}:PPs X pos [] [] []:=fun pins s σ H Q I h=>pairTrees_nil_walk ⟨[],H,I,.nil,h⟩
theorem zom{X:Cx}{pos:Pos}{k v:Expr}{ks:List (Option Expr)}{vs:List Expr}{tk tv:TE}{trs:List (TE×TE)}(hk:PE X k tk)(hv:PE X v tv)(hr:PPs X pos ks vs trs):
  PPs X pos (some k :: ks) (v :: vs) ((tk,tv) :: trs):=fun pins s σ H Q I h =>
 pairTrees_cons_walk (thn (hk pins s σ H _ I h) fun u s1 ⟨x,H1,I1,rx,q1⟩=>thn (hv pins s1 σ H1 _ I1 q1) fun w2 s2 ⟨y,H2,I2,ry,q2⟩ =>
  thn (hr pins s2 σ H2 _ I2 q2) fun ws s3 ⟨ps,H3,I3,rel,q3⟩=>⟨(x,y) :: ps,H3,I3,.cons ⟨rx,ry⟩ rel,q3⟩)
def mergeK(kvs more:List (Key×V)):List (Key×V):=more.foldl (fun acc kv=>putK acc kv.1 kv.2) kvs
theorem KV.merge:∀{more:List (Key×V)} {rs:List (Key×Value)} {kvs:List (Key×V)} {vs:List (Key×Value)},KV more rs->KV kvs vs->KV (mergeK kvs more) (merged vs rs):=by
 intro more rs kvs vs r;unfold KV at r
 induction r generalizing kvs vs with
 | nil=>intro q; exact q
 | @cons p q ps qs h t ih =>
  intro r0;have e:KV (putK kvs p.1 p.2) (stored vs q.1 q.2):=by
   have:=r0.put p.1 h.2
   rw[<-h.1]; exact this
  exact ih e
theorem zdv:∀(more kvs:List (Key×V)),(mergeK kvs more).length<=kvs.length+more.length
 | [],kvs=>by show kvs.length<=kvs.length+0; omega
 | p :: r,kvs=>by
  have h1:=zdv r (putK kvs p.1 p.2);have h2:=zdl kvs p.1 p.2;show(mergeK (putK kvs p.1 p.2) r).length<=_;rw[List.length_cons]; omega
theorem zg2{P:Program}{w:World}:∀{kvs:List (Key×V)} {ws:List (Value×Value)},VV (kvs.map fun kv=>(kV kv.1,kv.2)) ws->∃rs,Carries (mixKind P w) ws rs/\KV kvs rs
 | [],_,r=>by rw[List.map_nil] at r; cases r; exact⟨[],True.intro,.nil⟩
 | p :: kvs,_,r=>by
  rw[List.map_cons] at r;cases r with
  | @cons a b as bs h t =>
   obtain⟨rs,c,q⟩:=zg2 (P:=P) (w:=w) t;obtain⟨b1,b2⟩:=b;exact⟨(p.1,b2) :: rs,⟨zkw h.1,rfl,c⟩,.cons ⟨rfl,h.2⟩ q⟩
def tDisp(trs:List (TE×TE)):TE:=fun σ H Q=>∀p,H p=none->tPairs trs σ (upd H p (.dK [])) fun ps H2=>H2 p=some (.dK [])/\∃kvs:List (Key×V),ps=kvs.map (fun kv=>(kV kv.1,kv.2))/\kvs.length<=15/\Q (.ref p) (upd H2 p (.dK (mergeK [] kvs)))
theorem zro {X:Cx} {pos:Pos} {keys:List (Option Expr)} {values:List Expr} {trs:List (TE×TE)} (h:PPs X pos keys values trs) (hall:keys.all (·.isSome)=true) (hl:keys.length=values.length) (h0:keys≠[])
  (h15:keys.length<=15):PE X (.Dict keys values pos) (tDisp trs):=by
 intro pins s σ H Q I q;have hn:=I.hok.fresh (Nat.le_refl s.heap.objs.size);have I1:=I.laid (a:=s.heap.objs.size) (o:=.dK []) (h':=s.heap.push { cls:=.type "dict",data:=.dict #[] }) (t':=s.toks) (fun _ _ q=>Heap.get?_push_of_some _ q) (Nat.le_refl _) (zk3 s.heap I.big);refine wpAny_Dict_walk (knd:=mixKind X.prog X.w) hall hl h0 h15 (thn (h pins _ σ _ _ I1 (q _ hn)) fun ws s2 ⟨ps,H2,I2,rel,e,kvs,ep,lk,q2⟩=>?_);subst ep;obtain⟨rs,c,rk⟩:=zg2 (P:=X.prog) (w:=X.w) rel;obtain⟨z,hd,vs0,r0,dd⟩:=dk_of I2.hok e;cases r0;refine⟨rs,c,dd,fun h' dd' hs=>⟨.ref s.heap.objs.size,_,?_,rfl,q2⟩⟩;have hz:(mergeK [] kvs).length<=sizeLine:=by
  have h1:=zdv kvs [];rw[List.length_nil] at h1;rw[sizeLine_eq]; omega
 have he:∃q,h'.get? s.heap.objs.size=some q:=let ⟨q,_,_,hq,_⟩:=dd'; ⟨q,hq⟩
 exact zj0 I2 (by rw[e]; exact True.intro) hs he (zqo hz hd (rk.merge .nil) dd')
structure M1(X:Cx)(o:Expr)(m:Str)(apos:Pos)(e:Expr)(cpos:Pos):Prop where
 base:attributeBase o m X.env (eval o X.env)=eval o X.env
 few:((backTo cpos (starEach [e] X.env)).all (fun x=>!x.1) && (backToKw cpos (keywordEach [] X.env)).all (fun x=>x.1.isSome)
  && decide (([e]:List Expr).length+([]:List Keyword).length+(if ([]:List Keyword).isEmpty then 0 else 1)<30))=true
 line:(apos.endLine == cpos.line)=true
 trees:backTo cpos (starEach [e] X.env)=[(false,eval e X.env)]
structure M2(X:Cx)(o:Expr)(m:Str)(apos:Pos)(e f:Expr)(cpos:Pos):Prop where
 base:attributeBase o m X.env (eval o X.env)=eval o X.env
 few:((backTo cpos (starEach [e,f] X.env)).all (fun x=>!x.1) && (backToKw cpos (keywordEach [] X.env)).all (fun x=>x.1.isSome)
  && decide (([e,f]:List Expr).length+([]:List Keyword).length+(if ([]:List Keyword).isEmpty then 0 else 1)<30))=true
 line:(apos.endLine == cpos.line)=true
 trees:backTo cpos (starEach [e,f] X.env)=[(false,eval e X.env),(false,eval f X.env)]
section
variable {X:Cx} {pins:List (Addr×Obj)} {σ:St} {H:Hp} {s:Shared} {a:Addr} {y d:V} {u r:Value} {o:Option V} {A:Around} {E:Value->Shared->Prop}
end
section
variable {X:Cx} {o e f:Expr} {apos cpos:Pos} {td ty tx:TE}
end
section
variable {X:Cx} {pins:List (Addr×Obj)} {σ:St} {H:Hp} {s:Shared} {a:Addr} {kvs:List (Key×V)} {A:Around} {E:Value->Shared->Prop}
end
section
variable {X:Cx} {pins:List (Addr×Obj)} {σ:St} {H:Hp} {s:Shared} {a:Addr} {y:V} {u:Value} {A:Around} {E:Value->Shared->Prop}
end
end L2
namespace Att
open PySem PySem.W PySem.Calls PyProof.Rows
theorem zfd{P:Params}{h:Heap}:∀(ns:List Int) (vs:List Value),WellAll P h vs (ns.map WData.int)->IntsAre vs ns:=by
 intro ns
 induction ns with
 | nil =>
  intro vs w;rw[List.map_nil] at w;cases w;exact .nil
 | cons n ns ih =>
  intro vs w;rw[List.map_cons] at w;cases w with
  | cons a b =>
   cases a;exact .cons _ _ (ih _ b)
theorem zlh {l:OpenLaw} {n:Nat} (hn:l.most=some n) {P:Params} {h:Heap} {args:List WData} {vals:List Value}
  (hpre:l.row.toRowW.claim.pre args=true) (hwl:WellAll P h vals args) :
  ∃a vs ns,vals=[Value.ref a]/\args=[WData.list (ns.map WData.int)]/\h.get? a=some { cls:=.type "list",data:=.seq vs.toArray }/\IntsAre vs ns/\ns.length<=n:=by
 have hsh:WShape.hasAll [] args [.list .int]=true:=(pre_splitW hpre).1;have hc:l.pre.holds [] { args:=args }=true:=(pre_splitW hpre).2;obtain⟨d,r,rfl,h1,h2⟩:=hasAllW_cons hsh;obtain rfl:=hasAllW_nil h2;obtain⟨xs,rfl,h3⟩:=hasW_list h1;obtain⟨ns,rfl⟩:=items_int h3;have hlen:ns.length<=n:=by
  unfold OpenLaw.pre at hc;have h4:(WTm.not (.lt (.lit (.int (n:Int))) (.len (.arg 0)))).holds [] { args:=[.list (ns.map .int)] }=true:=by
   have h4:=(holds_andW hc).1;rw[hn] at h4;exact h4
  have h5:=condW_of h4 (w_not (w_lt w_lit (w_len_list (w_arg rfl))));rw[List.length_map] at h5;refine Nat.le_of_not_lt fun q=>?_
  have q':(n:Int)<((ns.length:Nat):Int):=by omega
  first
   | (rw[decide_eq_true q'] at h5; exact absurd h5 (by decide))
   | (simp at h5; omega)
 cases hwl with
 | cons w1 w2 =>
  cases w2;cases w1 with
  | list ho hall=>exact⟨_,_,ns,rfl,rfl,ho,zfd ns _ hall,hlen⟩
theorem zlq(l:OpenLaw)(args:List WData):l.row.toRowW.claim.post args (.bool true) args=true :=
 postW_of (r:=l.row.toRowW) (X:=(true == true))
  (show WShape.has [] (.bool true) .bool=true by first | rfl | decide | simp[WShape.has,WShape.arms,WShape.armsAll])
  (show(WTm.eq .res (.lit (.bool true))).value [] { args:=args,res:=some (.bool true),after:=args }=some (.bool (true == true)) from w_eq_bool (w_res rfl) w_lit) rfl
theorem attach_call {l:OpenLaw} {n:Nat} {q:Program} {loose:List Str} {XP:(Str->Option Value)->Heap->Prop} {YP:World->Heap->Prop} {d:DefRec}
  (hn:l.most=some n) (hdf:d.params.defaults=[])
  (call:∀(w:World) (s₀ s₁:Shared) (mg mb:Str->Option Value) (fa:Addr) (o:Obj) (pm cd doc:Value) (a:Addr) (vs:List Value) (ns:List Int),
   Ground q loose [] XP w s₀ mg mb s₁.heap->YP w s₁.heap →
   s₁.heap.get? fa=some o->o.data=.func (docDef d.name d.params d.body d.scope pm cd doc)->s₁.heap.CodeRec cd d.name->mg d.name=some (.ref fa) →
   s₁.heap.get? a=some { cls:=.type "list",data:=.seq vs.toArray }->IntsAre vs ns->ns.length<=n->s₁.gens = #[] →
   codeAny (model l.prog w) callerA (.call (.ref fa) ⟨[.ref a],[]⟩) (fun r s'=>r=.ok (.ret (.bool true))/\OldK s₁.heap s'.heap/\s'.os=s₁.os/\AllBare s'.gens) s₁) :
  WalkO q loose XP YP l.row.toRowW d [] (fun f vs=>PySem.call f vs):=by
 intro w s₀ s₁ mg mb G Y fa o pm cd doc dV kV ho hd hcd hD hmg hg args vals as hpre hlay hrd hwl hlo;obtain rfl:dV=.none:=Dflts.none hD hdf;obtain rfl:kV=.none:=Dflts.noKw hD;obtain⟨a,vs,ns,rfl,rfl,hobj,hints,hlen⟩:=zlh hn hpre hwl;refine enter_call (codeAny_mono (call w s₀ s₁ mg mb fa o pm cd doc a vs ns G Y ho (fd_plain hd) hcd hmg hobj hints hlen hg) fun r s' hq=>?_);obtain⟨rfl,h2,h3,h4⟩:=hq;exact⟨.inl ⟨.bool true,.bool true,[],rfl,fun _=>rfl,.bool true,zlq l _,fun _=>⟨List.Pairwise.nil,fun _ hm=>(nomatch hm)⟩⟩,h2,h3,h4⟩
section
variable {prog:Program} {w:World} {A:Around} {E:Value->Shared->Prop} {s:Shared} {K:Frag}
def ledger(h:Heap)(L d:Addr):List (Addr×Obj):=(List.range h.objs.size).filterMap fun a=>if a=L\/a=d then none else (h.get? a).map fun o=>(a,o)
end
end Att
namespace L2
open PySem PySem.Spec PyProof.Rows
theorem zev:∀{vs:List Value} {ns:List Int},IntsAre vs ns->Vals (ns.map V.int) vs
 | _,_,.nil=>.nil
 | _,_,.cons n t h=>.cons ⟨t,rfl⟩ (zev h)
def Only(H:Hp):Prop:=∀b,H b=none\/∃o xs,H b=some (.frz o (.lst xs))
theorem zp7 {P:Program} {w:World} {K:PySem.W.Frag} {mg mb:Str->Option Value} {CX:CXT} {k:Nat} {fa a:Addr} {fd:FuncData} {x:Str} {sp:Sp} {s₁:Shared} {vs:List Value} {ns:List Int}
  (KX:K.In s₁.heap) (hns:s₁.heap.Ns mainGlobals mg) (hb:s₁.heap.Ns builtinsNs mb) (hbb:∀x:Str,x≠"__name__"->mb x=bootBuiltins x) (hlim:s₁.heap.NoLimit) (hg:s₁.gens = #[])
  (ha:s₁.heap.get? a=some { cls:=.type "list",data:=.seq vs.toArray }) (hi:IntsAre vs ns) (hl:ns.length<=sizeLine) (hr:Room k callerA)
  (F:∀base:Heap,K.In base->base.Ns mainGlobals mg->FnOk P w K mg base CX k fa fd [x] sp) (hbind:∀(s:Shared) (u:Value),BindsTo s fd ⟨[u],[]⟩ [(x,u)])
  (hsp:∀H:Hp,Only H->SqL K H a (ns.map V.int)->sp [.ref a] H (fun v _=>v=.bl true) fun _ _ _=>False)
  (hCX:∀H e s',CX [] H s₁ (fun _ _ _=>False) e s'->False) :
  codeAny (model P w) callerA (.call (.ref fa) ⟨[.ref a],[]⟩) (fun r s'=>r=.ok (.ret (.bool true))/\OldK s₁.heap s'.heap/\s'.os=s₁.os/\AllBare s'.gens) s₁:=by
 have rv:=zev hi;have lenV:=hi.length;have core:∀H:Hp,Only H->SqL K H a (ns.map V.int)->HOk P w H s₁.heap->(∀b,H b≠none->b=a)->(H a≠none->K.lookup a=none) →
   codeAny (model P w) callerA (.call (.ref fa) ⟨[.ref a],[]⟩) (fun r s'=>r=.ok (.ret (.bool true))/\OldK s₁.heap s'.heap/\s'.os=s₁.os/\AllBare s'.gens) s₁:=by
  intro H hO hS hok hA hK;have base_of:∀{b:Addr} {o:Obj},s₁.heap.get? b=some o->H b=none->(hidT s₁.heap H).get? b=some o:=fun e n=>zjy e n
  have noA:∀{b:Addr} {o:Obj} {es:Array DictEntry} {ep:Nat},s₁.heap.get? b=some o->o.data=.dict es ep->H b=none:=fun {b o es ep} e d=>by
   cases q:H b with
   | none=>rfl
   | some u =>
    have e':b=a:=hA b (by rw[q]; simp);subst e';rw[ha] at e; cases e;have d':Data.seq vs.toArray _=Data.dict es ep:=d;cases d'
  have nsK:∀{b:Addr} {m:Str->Option Value},s₁.heap.Ns b m->(hidT s₁.heap H).Ns b m:=fun {b m} ⟨o,es,ep,e,d,r⟩=>⟨o,es,ep,base_of e (noA e d),d,r⟩
  have hKb:K.In (hidT s₁.heap H):=fun b o e=>base_of (KX b o e) (by
   cases q:H b with
   | none=>rfl
   | some u =>
    have e':b=a:=hA b (by rw[q]; simp);subst e';rw[hK (by rw[q]; simp)] at e; cases e)
  have hM:Mod K mg (hidT s₁.heap H):=⟨hKb,nsK hns,⟨mb,nsK hb,hbb⟩,let ⟨mc,h1,h2⟩:=hlim; ⟨mc,nsK h1,h2⟩⟩;have e0:Env0 P w K mg (hidT s₁.heap H) callerA [] s₁ H:=⟨rfl,hM,fun b o e=>zm4 e,Nat.le_of_eq (zhv _ _),trivial,fun b hb=>absurd (show b∈([]:List Addr) from hb) (by simp),hok,.of_eq hg⟩;refine codeAny_mono ((F _ hKb (nsK hns)).run callerA [] s₁ H ⟨[.ref a],[]⟩ [.ref a] [.ref a] _ _ hr e0 (hbind s₁ (.ref a)) (.cons rfl .nil) (hsp H hO hS)) fun r s' h=>?_
  cases r with
  | error e=>exact(hCX H e s' h).elim
  | ok fl =>
   cases fl with
   | next=>exact False.elim h
   | brk=>exact False.elim h
   | cont=>exact False.elim h
   | ret u =>
    obtain⟨v,H',os,bare,un,hok',r',q⟩:=h;have q':v=.bl true:=q;subst q';obtain rfl:u=Value.bool true:=r';refine⟨rfl,OldK.of_keep fun b o e=>?_,os,bare⟩;cases q:H b with
    | none=>exact un.keep b o e q (by intro z; exact absurd (show b∈([]:List Addr) from z) (by simp)) (by simp)
    | some u =>
     rcases hO b with z | ⟨ob,xs,z⟩
     ·rw[q] at z; cases z
     ·have z2:=un.frzs b ob _ z;obtain⟨e1,_⟩:=hok b _ z;obtain⟨e2,_⟩:=hok' b _ z2;rw[e] at e1; cases e1;exact e2
 cases hk:K.lookup a with
 | some o =>
  have e:=KX a o hk;rw[ha] at e;cases e;refine core (fun _=>none) (fun _=>.inl rfl) (.inr ⟨_,vs.toArray,_,hk,rfl,rfl,rfl,by rw[List.size_toArray,lenV]; exact hl,by simpa using rv⟩) (fun b u z=>by have z':(none:Option HO)=some u:=z; cases z') (fun b z=>absurd rfl z) fun z=>absurd rfl z
 | none =>
  refine core (fun b=>if b=a then some (.frz { cls:=.type "list",data:=.seq vs.toArray } (.lst (ns.map V.int))) else none) (fun b=>?_) (.inl (.inr ⟨{ cls:=.type "list",data:=.seq vs.toArray },if_pos rfl⟩)) (fun b u z=>?_) (fun b z=>?_) fun _=>hk
  ·by_cases hb:b=a
   ·exact .inr ⟨_,_,if_pos hb⟩
   ·exact .inl (if_neg hb)
  ·by_cases hb:b=a
   ·have z':=(if_pos hb).symm.trans z;cases z';subst hb;exact⟨ha,by rw[List.length_map]; exact hl,vs,_,rv,ha⟩
   ·have z':=(if_neg hb).symm.trans z;cases z'
  ·by_cases hb:b=a
   ·exact hb
   ·exact absurd (if_neg hb) z
abbrev KOf{K:PySem.W.Frag}{h:Heap}(_:K.In h):PySem.W.Frag:=K
theorem zr1 {l:PySem.W.OpenLaw} {n k:Nat} {q:Program} {loose:List Str} {XP:(Str->Option Value)->Heap->Prop} {YP:World->Heap->Prop} {d:DefRec} {K:Params->PySem.W.Frag} {CX:World->CXT} {sp:World->Sp} {x:Str}
  (hn:l.most=some n) (hn2:n<=sizeLine) (hdf:d.params.defaults=[]) (hr:Room k callerA)
  (hY:∀(w:World) (h:Heap),YP w h->(K w.params).In h)
  (F:∀(w:World) (mg:Str->Option Value) (fa:Addr) (h:Heap),(K w.params).In h->h.Ns mainGlobals mg->mg d.name=some (.ref fa) →
   ∃fd:FuncData,(∀(s:Shared) (u:Value),BindsTo s fd ⟨[u],[]⟩ [(x,u)]) /\
    ∀base:Heap,(K w.params).In base->base.Ns mainGlobals mg->FnOk l.prog w (K w.params) mg base (CX w) k fa fd [x] (sp w))
  (hsp:∀(w:World) (H:Hp) (a:Addr) (ns:List Int),ns.length<=n->Only H->SqL (K w.params) H a (ns.map V.int)->sp w [.ref a] H (fun v _=>v=.bl true) fun _ _ _=>False)
  (hCX:∀(w:World) (H:Hp) (s:Shared) (e:Value) (s':Shared),CX w [] H s (fun _ _ _=>False) e s'->False) :
  PySem.W.WalkO q loose XP YP l.row.toRowW d [] (fun f vs=>PySem.call f vs):=by
 refine Att.attach_call hn hdf fun w s₀ s₁ mg mb fa o pm cd doc a vs ns G Y ho hd hcd hmg hobj hints hlen hg=>?_
 have KX:=hY w _ Y;obtain⟨fd,hb,hF⟩:=F w mg fa _ KX G.T.g hmg;exact zp7 KX G.T.g G.T.b G.T.builtins G.T.nolimit hg hobj hints (Nat.le_trans hlen hn2) hr hF hb (fun H hO hS=>hsp w H a ns hlen hO hS) fun H e s'=>hCX w H s₁ e s'
def inClass(s:Stmt)(j:Nat):Stmt:=match s with
 | .ClassDef _ _ _ body _ _ _ _ _ _ _=>body.getD j (.Pass ⟨0,0,0,0⟩)
 | _=>.Pass ⟨0,0,0,0⟩
def defArgs(s:Stmt):Arguments:=match s with
 | .FunctionDef _ a _ _ _ _ _ _ _ _=>a
 | _=>{ posonlyargs:=[],args:=[],vararg:=none,kwonlyargs:=[],kw_defaults:=[],kwarg:=none,defaults:=[] }
def defBody(s:Stmt):List Stmt:=match s with
 | .FunctionDef _ _ b _ _ _ _ _ _ _=>b
 | _=>[]
def defScope(s:Stmt):Scope:=match s with
 | .FunctionDef _ _ _ _ _ _ sc _ _ _=>sc
 | _=>{ kind:=.function,names:=[],isGenerator:=false,isCoroutine:=false }
abbrev CX0:CXT:=fun _ _ _ _ _ _=>False
abbrev E0:XK:=fun _ _ _=>False
theorem pass0{X:Cx}:Passes CX0 X E0:=fun _ _ _ _ _ _ _ h=>h.elim
structure Fun(K:PySem.W.Frag)(x qual:Str)(st:Stmt)(f:Addr)(fd:FuncData):Prop where
 ex:∃(oc:Value) (od:Option Addr) (kV doc pm:Value) (an:Option Addr) (cdv ct:Value) (osl:Array (Option Value)),
  fd=PySem.W.fnOf x qual (defArgs st) (defBody st) (defScope st) .none kV doc pm an cdv ct/\K.lookup f=some ⟨oc,od,.func fd,osl⟩/\PySem.W.codeIn K cdv qual=true
 kp:PySem.W.keepIn K (.ref f)=true
section
variable {P:Program} {w:World} {K:PySem.W.Frag} {mg:Str->Option Value} {base:Heap}
theorem Fun.ok {x qual:Str} {st:Stmt} {f:Addr} {fd:FuncData} {N ps:List Str} {k:Nat} {sp:Sp} (F:Fun K x qual st f fd) (S:FnScope N ps (defScope st)) (len:∀vs H Q E,sp vs H Q E->vs.length=ps.length)
  (hbody:∀(cdv:Value) (A:Around) (outer:List Env) (s:Shared) (H:Hp) (vs:List V) (Q:VK) (E:XK),Room k (A.deeper (envOfC qual (defScope st) s.heap.objs.size f cdv))->sp vs H Q E →
   ∃t,PSs (cxOf CX0 P w K mg base N qual (defScope st) f cdv A outer s H E).nox (defBody st) t/\t { nx:=fun _ H'=>Q .non H',rt:=Q } (start N vs) H):FnOk P w K mg base CX0 (k+1) f fd ps sp:=by
 obtain⟨oc,od,kV,doc,pm,an,cdv,ct,osl,rfl,lk,hcd⟩:=F.ex;refine zsi lk hcd S len fun A outer s H vs Q E hr hsp=>?_
 obtain⟨t,h,q⟩:=hbody cdv A outer s H vs Q E hr hsp;exact⟨t,h.nox,q⟩
theorem Fun.binds {x qual:Str} {st:Stmt} {f:Addr} {fd:FuncData} {ps:List Str} (F:Fun K x qual st f fd)
  (h:∀(kV doc pm:Value) (an:Option Addr) (cdv ct:Value) (us:List Value),us.length=ps.length->bindArgs (PySem.W.fnOf x qual (defArgs st) (defBody st) (defScope st) .none kV doc pm an cdv ct) ⟨us,[]⟩=pure (ps.zip us)):Binds K fd ps []:=by
 obtain⟨oc,od,kV,doc,pm,an,cdv,ct,osl,rfl,lk,hcd⟩:=F.ex;exact .all (h kV doc pm an cdv ct)
theorem zah {x qual:Str} {st:Stmt} {f:Addr} {oc:Value} {od an:Option Addr} {osl:Array (Option Value)} {kV doc pm cdv ct:Value} (l:K.lookup f=some ⟨oc,od,.func (PySem.W.fnOf x qual (defArgs st) (defBody st) (defScope st) .none kV doc pm an cdv ct),osl⟩)
  (c:PySem.W.codeIn K cdv qual=true) (k:PySem.W.keepIn K (.ref f)=true):Fun K x qual st f (PySem.W.fnOf x qual (defArgs st) (defBody st) (defScope st) .none kV doc pm an cdv ct):=⟨⟨oc,od,kV,doc,pm,an,cdv,ct,osl,rfl,l,c⟩,k⟩
end
theorem zkx{A:Around}{k:Nat}(hr:Room k A):A.units+1<cLine:=Nat.lt_of_le_of_lt (Nat.add_le_add_left (by decide:1<=64) _) hr.units
section
variable {X:Cx}
theorem pv (i:Nat) {x:Str} {pos:Pos} (hN:X.N[i]?=some x:=by rfl) (hv:Vis X.env.scope x:=by first | exact Or.inl rfl | exact Or.inr (Or.inl rfl) | exact Or.inr (Or.inr rfl)) (hd:(x == ("__debug__":Str))=false:=by decide)
  (hcd:(x == ("__classdict__":Str))=false:=by decide):PE X (.Name x pos) (tVar i):=pe_var hN hv hd hcd
end
theorem iteF{A B:Prop}(h:B):if false=true then A else B:=by
 rw[if_neg Bool.false_ne_true];exact h
theorem iteT{A B:Prop}(h:A):if true=true then A else B:=by
 rw[if_pos rfl];exact h
theorem ite2{c A B:Prop}[Decidable c](h1:c->A)(h2:¬c->B):if c then A else B:=by
 by_cases h:c
 ·rw[if_pos h];exact h1 h
 ·rw[if_neg h];exact h2 h
theorem iteNS{c A B:Prop}[Decidable c](hc:c)(h:B):if (!decide c)=true then A else B:=by
 rw[decide_eq_true hc];exact iteF h
def Same(H H':Hp):Prop:=∀b o,H b=some o->H' b=some o
theorem Same.refl(H:Hp):Same H H:=fun _ _ h=>h
theorem Same.trans{H H1 H2:Hp}(a:Same H H1)(b:Same H1 H2):Same H H2:=fun c o h=>b c o (a c o h)
theorem Same.free{H H':Hp}(e:Same H H'){l:Addr}(h:H' l=Option.none):H l=Option.none:=by
 cases q:H l with
 | none=>rfl
 | some o =>
  rw[e l o q] at h;cases h
theorem Same.seq{K:PySem.W.Frag}{H H':Hp}{a:Addr}{xs:List V}(e:Same H H')(h:SqL K H a xs):SqL K H' a xs:=by
 rcases h with (h | ⟨o,h⟩) | h
 ·exact .inl (.inl (e _ _ h))
 ·exact .inl (.inr ⟨o,e _ _ h⟩)
 ·exact .inr h
section
variable {X:Cx}
theorem zfi:CallR X (.builtin "len") (fun xs H Q=>∃a kvs,xs=[V.ref a]/\H a=some (.dK kvs)/\Q (.int kvs.length) H):=by
 intro pins s σ H xs us Q I r h;obtain⟨a,kvs,rfl,ha,q⟩:=h;obtain⟨u,rfl,ru⟩:=vals1 r;cases ru;exact d_len I (.inl ha) fun t s' I'=>⟨.int kvs.length,H,I',⟨t,rfl⟩,q⟩
end
section
variable {κ:Type} [DecidableEq κ]
end
end L2
namespace L2
open PySem
def DK(h h':Heap):Prop:=∀a o,h.get? a=some o->∃o',h'.get? a=some o'/\o'.dict=o.dict
theorem DK.refl(h:Heap):DK h h:=fun _ o e=>⟨o,e,rfl⟩
theorem DK.trans{h1 h2 h3:Heap}(x:DK h1 h2)(y:DK h2 h3):DK h1 h3:=fun a o e=>by
 obtain⟨o1,e1,d1⟩:=x a o e;obtain⟨o2,e2,d2⟩:=y a o1 e1;exact⟨o2,e2,d2.trans d1⟩
theorem zm7{h:Heap}{a:Addr}{o:Obj}(e:h.get? a=some o):o.isFreed=false:=by
 unfold Heap.get? at e;split at e
 ·cases e
 ·rename_i x hx
  obtain⟨c,d,dt,sl⟩:=o;cases dt <;> first | rfl | (exact absurd e (hx _ _ _))
theorem DK.upd{h:Heap}{a:Addr}{f:Obj->Obj}(hf:∀o,(f o).dict=o.dict/\(f o).isFreed=o.isFreed):DK h (h.update a f):=fun b o e=>by
 by_cases hb:a=b
 ·subst hb;exact⟨f o,Heap.get?_update_self f e ((hf o).2.trans (zm7 e)),(hf o).1⟩
 ·exact⟨o,(Heap.get?_update_other h f hb).trans e,rfl⟩
theorem DK.push(h:Heap)(x:Obj):DK h (h.push x):=fun _ o e=>⟨o,Heap.get?_push_of_some x e,rfl⟩
structure KpD{α:Type}(t:Sem α):Prop where
 out:∀(M:Model) (Γ:Ctx) (Q:α->Pos->Shared->Prop) (E:Value->Pos->Shared->Prop) (p:Pos) (s:Shared),Sem.wp M Γ t Q E p s->Sem.wp M Γ t (fun a p' s'=>Q a p' s'/\DK s.heap s'.heap) E p s
namespace KpD
variable {α β:Type}
theorem pure(a:α):KpD (Pure.pure a:Sem α):=⟨fun _ _ _ _ _ s h=>⟨h,DK.refl _⟩⟩
theorem unsupported(w:String):KpD (PySem.unsupported w:Sem α):=⟨fun _ _ _ _ _ _ h=>h⟩
theorem bind{m:Sem α}{f:α->Sem β}(hm:KpD m)(hf:∀a,KpD (f a)):KpD (m >>= f):=⟨fun M Γ Q E p s h=>by
 rw[Sem.wp_bind'] at h ⊢;refine Sem.wp_mono M Γ m (fun a p' s' ⟨q,k⟩=>?_) (fun _ _ _ z=>z) p s (hm.out M Γ _ E p s h);exact Sem.wp_mono M Γ (f a) (fun b p2 s2 ⟨q2,k2⟩=>⟨q2,k.trans k2⟩) (fun _ _ _ z=>z) p' s' ((hf a).out M Γ Q E p' s' q)⟩
theorem ite{c:Prop}[Decidable c]{t u:Sem α}(ht:KpD t)(hu:KpD u):KpD (if c then t else u):=by split <;> assumption
theorem load(a:Addr):KpD (PySem.load a):=⟨fun _ _ _ _ _ _ h=>by
 obtain⟨o,e,q⟩:=h;exact⟨o,e,q,DK.refl _⟩⟩
theorem stack:KpD PySem.stack:=⟨fun _ _ _ _ _ _ h=>⟨h,DK.refl _⟩⟩
theorem update(a:Addr){f:Obj->Obj}(hf:∀o,(f o).dict=o.dict/\(f o).isFreed=o.isFreed):KpD (PySem.update a f):=⟨fun _ _ _ _ _ _ h=>⟨h.1,h.2,DK.upd hf⟩⟩
theorem alloc(x:Obj):KpD (PySem.alloc x):=⟨fun _ _ _ _ _ _ h=>⟨h,DK.push _ _⟩⟩
theorem field(v:Value)(i:Nat):KpD (PySem.field v i):=⟨fun M Γ Q E p s h=>by
 rw[wp_field_iff] at h ⊢;obtain⟨a,o,vs,x,e,ho,hd,hx,q⟩:=h;exact⟨a,o,vs,x,e,ho,hd,hx,q,DK.refl _⟩⟩
theorem mapF(g:Array Value->Array Value)(o:Obj):(o.mapFields g).dict=o.dict/\(o.mapFields g).isFreed=o.isFreed:=by
 obtain⟨c,d,dt,sl⟩:=o;cases dt <;> exact⟨rfl,rfl⟩
theorem setField(v:Value)(i:Nat)(x:Value):KpD (PySem.setField v i x):=⟨fun M Γ Q E p s h=>by
 rw[wp_setField_iff] at h ⊢;obtain⟨a,o,vs,e,ho,hd,hi,q⟩:=h;exact⟨a,o,vs,e,ho,hd,hi,q,DK.upd (mapF _)⟩⟩
theorem newFields(ty:String)(vs:List Value):KpD (PySem.newFields ty vs):=by
 unfold PySem.newFields newObj newObjAsIs;dsimp only;split
 all_goals repeat' with_reducible first
  | exact unsupported _
  | exact alloc _
  | exact pure _
  | apply bind
  | intro _
theorem slotF(g:Obj->Array (Option Value))(o:Obj):({ o with slots:=g o }:Obj).dict=o.dict/\({ o with slots:=g o }:Obj).isFreed=o.isFreed:=by
 obtain⟨c,d,dt,sl⟩:=o;cases dt <;> exact⟨rfl,rfl⟩
end KpD
local macro_rules
 | `(tactic| trivial)=>`(tactic| (repeat' with_reducible first
  | assumption
  | exact KpD.pure _
  | exact KpD.unsupported _
  | exact KpD.field _ _
  | exact KpD.setField _ _ _
  | exact KpD.newFields _ _
  | exact KpD.load _
  | exact KpD.update _ (KpD.slotF _)
  | exact KpD.stack
  | exact KpD.alloc _
  | apply KpD.ite
  | apply KpD.bind
  | intro _
  | split))
theorem zkv(env:Env)(outer:List Env):KpD (behindIsImport env outer):=by unfold behindIsImport; trivial
theorem zmn:KpD underTheClaimsCaller:=by unfold underTheClaimsCaller; trivial
theorem zpa(env:Env)(i:Bool)(l:List Env):KpD (keptBack env i l):=by
 have:=zmn
 cases l <;> unfold keptBack <;> trivial
theorem zhr:∀l:List Env,KpD (readyFrames l)
 | []=>KpD.pure _
 | env :: outer=>by
  have ih:=zhr outer;have h1:=zkv env outer;have h2:=fun i=>zpa env i outer
  unfold readyFrames;trivial
  all_goals first | exact h2 _ | exact KpD.update _ (KpD.slotF _)
theorem zsd(l:List Env):KpD (frameObject l):=by
 cases l with
 | nil=>exact KpD.pure _
 | cons env outer =>
  have:=zhr (env :: outer)
  unfold frameObject;trivial
theorem zpb:KpD frameEnvs:=by unfold frameEnvs; trivial
theorem ziv(env:Env):KpD (frameOf env):=by
 have h1:=zpb;have h2:=zsd;unfold frameOf;trivial
 all_goals exact h2 _
theorem zmo(f:Addr)(b:Bool):KpD (entryPlaceOf f b):=by unfold entryPlaceOf; trivial
theorem ze8(e:Value)(f:Option Addr):KpD (setFlight e f):=by unfold setFlight; trivial
theorem zju(e:Value)(env:Env):KpD (noteFrame e env):=by
 have h1:=ziv env;have h2:=zmo;unfold noteFrame EntryCells.newEntry;trivial
 all_goals exact h2 _ _
theorem zcz(env:Env)(e:Value):KpD (leaving env e):=by
 unfold leaving;exact KpD.bind (zju e env) fun _=>ze8 e none
theorem zff{α:Type}{M:Model}{A:Around}{t:Sem α}{Q Q':α->Shared->Prop}{E:Value->Shared->Prop}{s:Shared}(k:KpD t)(h:wpAny M A t Q' E s)(hQ:∀a s',Q' a s'->DK s.heap s'.heap->Q a s'):wpAny M A t Q E s:=fun Γ p hΓ =>
 Sem.wp_mono M Γ t (fun a _ s' ⟨q,d⟩=>hQ a s' q d) (fun _ _ _ z=>z) p s (k.out M Γ _ _ p s (h Γ p hΓ))
end L2
namespace L2
open PySem PySem.Spec PyProof.Rows
theorem zhl{P:Program}{w:World}{H:Hp}{h:Heap}{a:Addr}{o:HO}(x:ObjOk P w H h a o):∃u,h.get? a=some u:=by
 cases o with
 | lst xs=>obtain⟨_,_,_,_,e⟩:=x; exact⟨_,e⟩
 | tup xs=>obtain⟨_,_,_,_,u,e,_⟩:=x; exact⟨u,e⟩
 | dK kvs=>obtain⟨_,_,_,_,u,_,_,e,_⟩:=x; exact⟨u,e⟩
 | dT kvs=>obtain⟨_,_,_,_,u,_,_,e,_⟩:=x; exact⟨u,e⟩
 | set S n=>obtain⟨u,_,_,_,e,_⟩:=x; exact⟨u,e⟩
 | ins C dx fs=>obtain⟨_,_,_,e,_⟩:=x; exact⟨_,e⟩
 | own y=>exact x
 | xd fs=>obtain⟨_,⟨u,_,_,e,_⟩,_⟩:=x; exact⟨u,e⟩
 | rng lo hi=>obtain⟨_,_,_,e⟩:=x; exact⟨_,e⟩
 | frz ob u=>obtain⟨e,_⟩:=x; exact⟨_,e⟩
 | tbl ps=>exact⟨_,x⟩
 | met f y=>exact⟨_,x⟩
 | ext φ=>obtain⟨_,e,_⟩:=x; exact e
theorem zce{P:Program}{w:World}{H:Hp}{h:Heap}{a:Addr}(x:HOk P w H h)(e:h.get? a=none):H a=none:=by
 cases q:H a with
 | none=>rfl
 | some o =>
  obtain⟨u,z⟩:=zhl (x a o q);rw[e] at z;cases z
def FlyD(B:Heap)(l:List Env)(a:Addr)(cls:Value)(t:Addr)(od:Option Addr)(h:Heap):Prop:=Heap.FlyingW B l a cls (.ref t) h/\∃o,h.get? a=some o/\o.dict=od
theorem FlyD.there{B h:Heap}{l:List Env}{a t:Addr}{cls:Value}{od:Option Addr}(x:FlyD B l a cls t od h):∃o,h.get? a=some o/\o.cls=cls/\o.dict=od/\∃vs,o.data=.fields vs:=by
 obtain⟨o,e,d⟩:=x.2;obtain⟨o2,vs,e2,c,f,_⟩:=x.1.first;rw[e] at e2;cases e2;exact⟨o,e,c,d,vs,f⟩
theorem DK.dict{h h':Heap}{a:Addr}{od:Option Addr}(k:DK h h')(x:∃o,h.get? a=some o/\o.dict=od):∃o,h'.get? a=some o/\o.dict=od:=by
 obtain⟨o,e,d⟩:=x;obtain⟨o',e',d'⟩:=k a o e;exact⟨o',e',d'.trans d⟩
def CXr(P:Program)(w:World):CXT:=fun outer H s E e s' =>
 ∃(a t:Addr) (cls:Value) (od:Option Addr) (B:Heap) (H':Hp),e=.ref a/\s'.os=s.os/\AllBare s'.gens/\Un (frs outer) [] H H' s.heap s'.heap /\
  (∀b o,s.heap.get? b=some o->H b=none->b∉frs outer->B.get? b=some o)/\(∀b o,s.heap.get? b=some o->b∉frs outer->∃o',B.get? b=some o') /\
  HOk P w H' B/\FlyD B outer a cls t od s'.heap/\s.heap.get? a=none/\H' a=none/\E cls od H'
def excO(a:Addr)(cls:Value)(od:Option Addr):HO:=.ext fun h=>∃o,h.get? a=some o/\o.cls=cls/\o.dict=od/\∃vs,o.data=.fields vs
theorem zsm{P:Program}{w:World}{H:Hp}{h:Heap}{a:Addr}{cls:Value}{od:Option Addr}{o:Obj}(e:h.get? a=some o)(c:o.cls=cls)(d:o.dict=od/\∃vs,o.data=.fields vs):ObjOk P w H h a (excO a cls od) :=
 ⟨⟨o,e,c,d⟩,⟨o,e⟩,fun _ _ ⟨u,q,z⟩ k=>⟨u,k u q,z⟩⟩
def Caught(X:Cx)(pins:List (Addr×Obj))(σ:St)(a:Addr)(cls:Value)(od:Option Addr)(H':Hp)(s':Shared):Prop :=
 ∃(B:Heap) (t:Addr),FlyD B X.stack a cls t od s'.heap/\H' a=none/\∀h'',FlyD B X.stack a cls t od h''->s'.heap.UpToSlots h'' →
  Inv X pins σ H' { s' with heap:=h'' }/\Inv X pins σ (upd H' a (excO a cls od)) { s' with heap:=h'' }
section
variable {X:Cx} {pins:List (Addr×Obj)} {σ:St} {H:Hp} {s s':Shared} {E:XK} {e:Value}
theorem zsk(I:Inv X pins σ H s)(h:CXr X.prog X.w X.stack H s E e s'):∃a cls od H',e=.ref a/\E cls od H'/\Caught X pins σ a cls od H' s':=by
 obtain⟨a,t,cls,od,B,H',rfl,os,bare,u,kB,tB,hok,fl,na,nH,hE⟩:=h;refine⟨a,cls,od,H',rfl,hE,B,t,fl,nH,fun h'' flD' up=>?_⟩;have fl':=flD'.1;have fr:=I.stack;have un:Un (frs X.stack) [] H H' s.heap h'':=by
  refine⟨fun b o q n hb _=>fl'.1 b o (kB b o q n hb),fun b o q n hb hx=>?_,u.free,fun b o q hx=>?_,u.tups,u.frzs,u.tbls⟩
  ·obtain⟨sl,q1⟩:=u.slot b o q n hb hx;obtain⟨_,o2,q2,nf⟩:=fr.mem hb;rw[q] at q2;cases q2;obtain⟨sl',q3⟩:=up b _ q1 nf;exact⟨sl',q3⟩
  ·by_cases hb:b∈frs X.stack
   ·obtain⟨sl,q1⟩:=u.slot b o q (I.stkFree b hb) hb hx;obtain⟨_,o2,q2,nf⟩:=fr.mem hb;rw[q] at q2;cases q2;obtain⟨sl',q3⟩:=up b _ q1 nf;exact⟨_,q3⟩
   ·obtain⟨o',q'⟩:=tB b o q hb;exact⟨o',fl'.1 b o' q'⟩
 have ok':HOk X.prog X.w H' h'':=hok.kept fl'.1;have neA:∀b o,s.heap.get? b=some o->b≠a:=fun b o q z=>by rw[z,na] at q; cases q
 have inS:∀b o,H b=some o->b≠a:=fun b o q=>by
  obtain⟨v,z⟩:=zhl (I.hok b o q);exact neA b v z
 refine⟨I.call' (s':={ s' with heap:=h'' }) os un ok' bare fun b z=>absurd z (by simp),?_⟩;refine I.call' (s':={ s' with heap:=h'' }) os ⟨un.keep,un.slot,fun b o q n hx=>?_,un.there,fun b xs q=>?_,fun b o v q=>?_,fun b ps q=>?_⟩ (fun b o q=>?_) bare fun b z=>absurd z (by simp)
 ·rw[upd_ne (neA b o q)];exact un.free b o q n hx
 ·rw[upd_ne (inS b _ q)];exact un.tups b xs q
 ·rw[upd_ne (inS b _ q)];exact un.frzs b o v q
 ·obtain⟨more,z⟩:=un.tbls b ps q;exact⟨more,by rw[upd_ne (inS b _ q)]; exact z⟩
 ·by_cases hb:b=a
  ·subst hb;rw[za1] at q;cases q;obtain⟨ob,z1,z2,z3⟩:=flD'.there;exact zsm z1 z2 z3
  ·rw[upd_ne hb] at q;refine(ok' b o q).stay (fun c v _ z=>z) (fun c z=>?_) fun c xs z=>?_
   ·rw[upd_ne (ne_of_none z nH)];exact z
   ·rw[upd_ne (ne_of_none z nH)];exact z
end
section
variable {P:Program} {w:World} {K:PySem.W.Frag} {mg:Str->Option Value} {base:Heap} {N:List Str} {qual:Str} {scope:Scope} {f:Addr} {cd:Value} {A:Around} {outer:List Env} {s₀:Shared} {H₀:Hp} {E:XK}
theorem zbg:Passes (CXr P w) (cxOf (CXr P w) P w K mg base N qual scope f cd A outer s₀ H₀ E) E:=by
 intro pins σ H s e s' I h;obtain⟨a,t,cls,od,B,H',rfl,os,bare,u,kB,tB,hok,fl,na,nH,hE⟩:=h;have sub:∀b,b∈frs outer->b∈frs (envOfC qual scope s₀.heap.objs.size f cd :: outer):=fun b hb=>by
  show b∈List.filterMap _ (_ :: outer);rw[List.filterMap_cons];exact List.mem_cons_of_mem _ hb
 have noL:∀b o,s₀.heap.get? b=some o->b∉frs outer->b∉frs (envOfC qual scope s₀.heap.objs.size f cd :: outer):=fun b o q hb z=>by
  rcases List.mem_cons.mp (I.stkSub b z) with z | z
  ·exact absurd (Heap.lt_size q) (by rw[z]; exact Nat.lt_irrefl _)
  ·exact hb z
 have nex:∀b:Addr,b∉([]:List Addr):=fun b z=>by simp at z
 have kB':∀b o,s₀.heap.get? b=some o->H₀ b=none->b∉frs outer->B.get? b=some o:=fun b o q n hb =>
  kB b o (I.base.keep b o q n hb (nex b)) (I.base.free b o q n (nex b)) (noL b o q hb)
 have tB':∀b o,s₀.heap.get? b=some o->b∉frs outer->∃o',B.get? b=some o':=fun b o q hb=>by
  obtain⟨o1,q1⟩:=I.base.there b o q (nex b);exact tB b o1 q1 (noL b o q hb)
 have na':s₀.heap.get? a=none:=by
  cases q:s₀.heap.get? a with
  | none=>rfl
  | some o =>
   obtain⟨o1,q1⟩:=I.base.there a o q (nex a);rw[na] at q1;cases q1
 refine zff (zcz _ _) (Q':=fun _ s2=>∃h',s2={ s' with heap:=h' }/\Heap.FlyingW B outer a cls (.ref t) h'/\s'.heap.UpToSlots h') (wpAny_leaves_onW I.ok.frames rfl fl.1 fun h' fl' up=>⟨h',rfl,fl',up⟩) ?_;rintro _ s2 ⟨h',rfl,fl',up⟩ dk;refine⟨a,t,cls,od,B,H',rfl,os.trans I.os,bare,?_,kB',tB',hok,⟨fl',dk.dict fl.2⟩,na',nH,hE⟩;have slot':∀b o,s₀.heap.get? b=some o->H₀ b=none->b∈frs outer->∃sl,h'.get? b=some { o with slots:=sl }:=fun b o q n hb=>by
  obtain⟨sl,q1⟩:=I.base.slot b o q n hb (nex b);obtain⟨sl1,q2⟩:=u.slot b _ q1 (I.base.free b o q n (nex b)) (sub b hb) (nex b);obtain⟨_,o2,q3,nf⟩:=I.funs.mem hb;rw[q1] at q3;cases q3;obtain⟨sl2,q4⟩:=up b _ q2 nf;exact⟨sl2,q4⟩
 refine⟨fun b o q n hb _=>fl'.1 b o (kB' b o q n hb),fun b o q n hb _=>slot' b o q n hb,fun b o q n _=>?_,fun b o q _=>?_,fun b xs q=>u.tups b xs (I.base.tups b xs q),fun b o v q=>u.frzs b o v (I.base.frzs b o v q),fun b ps q=>?_⟩
 ·obtain⟨o1,q1⟩:=I.base.there b o q (nex b);exact u.free b o1 q1 (I.base.free b o q n (nex b)) (nex b)
 ·by_cases hb:b∈frs outer
  ·obtain⟨sl,q1⟩:=slot' b o q (I.ok.frf b hb) hb;exact⟨_,q1⟩
  ·obtain⟨o1,q1⟩:=tB' b o q hb;exact⟨o1,fl'.1 b o1 q1⟩
 ·obtain⟨m1,q1⟩:=I.base.tbls b ps q;obtain⟨m2,q2⟩:=u.tbls b _ q1;exact⟨m1++m2,by rw[q2,Array.append_assoc]⟩
end
theorem okX {P:Program} {w:World} {K:PySem.W.Frag} {mg:Str->Option Value} {base:Heap} {x qual:Str} {st:Stmt} {f:Addr} {fd:FuncData} {N ps:List Str} {k:Nat} {sp:Sp} (F:Fun K x qual st f fd) (S:FnScope N ps (defScope st))
  (len:∀vs H Q E,sp vs H Q E->vs.length=ps.length)
  (hbody:∀(cdv:Value) (A:Around) (outer:List Env) (s:Shared) (H:Hp) (vs:List V) (Q:VK) (E:XK),Room k (A.deeper (envOfC qual (defScope st) s.heap.objs.size f cdv))->sp vs H Q E →
   ∃t,PSs (cxOf (CXr P w) P w K mg base N qual (defScope st) f cdv A outer s H E) (defBody st) t/\t { nx:=fun _ H'=>Q .non H',rt:=Q } (start N vs) H):FnOk P w K mg base (CXr P w) (k+1) f fd ps sp:=by
 obtain⟨oc,od,kV,doc,pm,an,cdv,ct,osl,rfl,lk,hcd⟩:=F.ex;exact zsi lk hcd S len fun A outer s H vs Q E hr hsp=>hbody cdv A outer s H vs Q E hr hsp
abbrev TX:=St->Hp->VK->XK->Prop
def PX(X:Cx)(e:PySem.Expr)(t:TX):Prop :=
 ∀(pins:List (Addr×Obj)) (s:Shared) (σ:St) (H:Hp) (Q:VK) (E:XK) (W:Value->Shared->Prop),Inv X pins σ H s->t σ H Q E->(∀a cls od H' s',Caught X pins σ a cls od H' s'->E cls od H'->W (.ref a) s') →
  wpAny (model X.prog X.w) X.A (eval e X.env) (EP X pins σ Q) W s
abbrev TXS:=Ends->St->Hp->XK->Prop
def PXS(X:Cx)(body:List Stmt)(t:TXS):Prop :=
 ∀(pins:List (Addr×Obj)) (s:Shared) (σ:St) (H:Hp) (D:Ends) (E:XK) (W:Value->Shared->Prop),Inv X pins σ H s->t D σ H E->(∀a cls od H' s',Caught X pins σ a cls od H' s'->E cls od H'->W (.ref a) s') →
  wpAny (model X.prog X.w) X.A (execs body X.env) (SP X pins D) W s
def tXSet(i:Nat)(te:TX):TXS:=fun D σ H E=>te σ H (fun v H1=>D.nx (σ.set i (some v)) H1) E
theorem zrk {X:Cx} {i:Nat} {x:Str} {e:PySem.Expr} {te:TX} {pos pos':Pos} (hN:X.N.Nodup) (hi:X.N[i]?=some x) (hx:Loc X.env.scope x) (he:PX X e te) (hs:swapsWith e (some (.Name x pos')) pos.line X.env=pure false:=by rfl)
  (hf:X.fn x=true\/X.env.scope.names.lookup x=some .local:=by first | exact .inl rfl | exact .inr rfl | assumption):PXS X [.Assign [.Name x pos'] e pos] (tXSet i te):=by
 intro pins s σ H D E W I h hW;refine wpAny_execs_cons (wpAny_Assign_Name (thn (he pins s σ H _ E W I h hW) fun v s1 ⟨y,H1,I1,r1,q1⟩=>?_) hs);exact zeg I1 hN hi hx r1 (fun s2 I2=>wpAny_execs_nil ⟨_,H1,I2,q1⟩) hf
abbrev marked(X:Cx)(a:Addr):Cx:={ X with A:=X.A.mark (some (.ref a)),calm:=false }
theorem zfx{X:Cx}{pins:List (Addr×Obj)}{σ:St}{H:Hp}{s:Shared}(I:Inv X pins σ H s)(a:Addr):Inv (marked X a) pins σ H s :=
 ⟨⟨I.ok.mod,I.ok.kind,I.ok.glob,I.ok.blt,I.ok.above,I.ok.inj,I.ok.has,I.ok.cab,(fun z=>by cases z),I.ok.frames,I.ok.stk,I.ok.exf,I.ok.bs,I.ok.bsz,I.ok.noex,I.ok.exfs,I.ok.funs,I.ok.frf⟩,I.os,I.bare,I.base,I.loc,I.cell,I.free,I.freeC,I.pin,I.hok,I.len⟩
theorem zer{X:Cx}{pins:List (Addr×Obj)}{σ:St}{H:Hp}{s:Shared}{a:Addr}(ok:X.Ok)(I:Inv (marked X a) pins σ H s):Inv X pins σ H s :=
 ⟨ok,I.os,I.bare,I.base,I.loc,I.cell,I.free,I.freeC,I.pin,I.hok,I.len⟩
theorem zgw {X:Cx} {M:Model} {A:Around} {W:Value->Shared->Prop} {pins:List (Addr×Obj)} {σ:St} {H:Hp} {s:Shared} {i:Nat} {n:Str} {pos:Pos} {Q:Unit->Shared->Prop} (I:Inv X pins σ H s) (hN:X.N.Nodup) (hi:X.N[i]?=some n)
  (hx:X.env.scope.names.lookup n=some .local) (h:∀s',Inv X pins (σ.set i none) H s'->Q () s'):wpAny M A (do bindName X.env n .none; unbindBehindTheSuite X.env n pos) Q W s:=by
 obtain⟨m,hn,hl⟩:=id I.loc;have hcls:(X.env.scope.kind == .class || (X.env.scope.kind == .module && X.env.locals != X.env.globals))=false:=by rw[I.ok.kind]; rfl
 obtain⟨oL,_,_,hoL,_⟩:=id hn;refine wpAny_nameGoes_keeps hx hn hcls fun h' v hn' hs=>h _ ?_
 have ne:∀b o,X.s₀.heap.get? b=some o->b≠X.env.locals:=fun b o e=>Nat.ne_of_lt (Nat.lt_of_lt_of_le (Heap.lt_size e) I.ok.above)
 refine⟨I.ok,I.os,I.bare,⟨fun b o e z hb hx=>?_,fun b o e z hb hx=>?_,I.base.free,fun b o e hx=>?_,I.base.tups,I.base.frzs,I.base.tbls⟩,⟨_,hn',fun j y v' e1 e2 e3=>?_⟩,fun y c e=>?_,I.free,I.freeC,fun p hp=>?_,fun b o e=>?_,by simpa using I.len⟩
 ·exact(hs.2 b (ne b o e)).trans (I.base.keep b o e z hb hx)
 ·obtain⟨sl,e1⟩:=I.base.slot b o e z hb hx;exact⟨sl,(hs.2 b (ne b o e)).trans e1⟩
 ·obtain⟨o',e1⟩:=I.base.there b o e hx;exact⟨o',(hs.2 b (ne b o e)).trans e1⟩
 ·have hj:j≠i:=fun z=>by
   subst z;have hlt:j<σ.length:=by rw[I.len]; exact(List.getElem?_eq_some_iff.mp hi).1
   rw[List.getElem?_set_self hlt] at e2;cases e2
  rw[List.getElem?_set_ne (Ne.symm hj)] at e2;obtain⟨u',r',q⟩:=hl j y v' e1 e2 e3;have hy:y≠n:=fun e=>hj (zgo hN e1 (e ▸ hi))
  refine⟨u',r',?_⟩;rcases q with ⟨k,e⟩ | ⟨k,c,e,z⟩
  ·exact .inl ⟨k,by simp[hy,e]⟩
  ·exact .inr ⟨k,c,e,z.sameBut hs (I.cne y c e)⟩
 ·obtain⟨w',z⟩:=I.cell y c e;exact⟨w',z.sameBut hs (I.cne y c e)⟩
 ·obtain⟨e,z,ne',nf,d⟩:=I.pin p hp;exact⟨(hs.2 p.1 ne').trans e,z,ne',nf,d⟩
 ·refine(I.hok b o e).stay (fun c w' hc q=>(hs.2 c ?_).trans q) (fun _ q=>q) fun _ _ q=>q
  rintro rfl;rcases hc with rfl | hc
  ·rw[I.free] at e; cases e
  ·rw[I.free] at hc; cases hc
section
variable {M:Model} {A:Around} {E:Value->Shared->Prop} {s:Shared} {B:Heap} {env:Env} {outer l:List Env} {L e t:Addr} {cls:Value} {od:Option Addr} {Q:Unit->Shared->Prop}
theorem zho (hfr:A.frames=some (env :: outer)) (hf:env.frame=some L) (hfl:FlyD B (env :: outer) e cls t od s.heap)
  (hQ:∀h',Heap.HeldW B (env :: outer) e cls (.ref t) L h'->(∃o,h'.get? e=some o/\o.dict=od)->s.heap.UpToSlots h'->Q () { s with heap:=h' }):wpAny M A (noteFrame (.ref e) env) Q E s:=by
 refine zff (zju _ _) (Q':=fun _ s2=>∃h',s2={ s with heap:=h' }/\Heap.HeldW B (env :: outer) e cls (.ref t) L h'/\s.heap.UpToSlots h') (wpAny_looks_onW hfr hf hfl.1 fun h' a b=>⟨h',rfl,a,b⟩) ?_;rintro _ s2 ⟨h',rfl,a,b⟩ dk;exact hQ h' a (dk.dict hfl.2) b
theorem landsD(hh:Heap.HeldW B l e cls (.ref t) L s.heap)(hd:∃o,s.heap.get? e=some o/\o.dict=od)(hQ:∀h',FlyD B l e cls t od h'->s.heap.UpToSlots h'->Q () { s with heap:=h' }):wpAny M A (setFlight (.ref e) none) Q E s:=by
 refine zff (ze8 _ _) (Q':=fun _ s2=>∃h',s2={ s with heap:=h' }/\Heap.FlyingW B l e cls (.ref t) h'/\s.heap.UpToSlots h') (wpAny_landsW hh fun h' a b=>⟨h',rfl,a,b⟩) ?_;rintro _ s2 ⟨h',rfl,a,b⟩ dk;exact hQ h' ⟨a,dk.dict hd⟩ b
theorem zhq(hh:FlyD B l e cls t od s.heap)(hQ:∀h',FlyD B l e cls t od h'->s.heap.UpToSlots h'->Q () { s with heap:=h' }):wpAny M A (setFlight (.ref e) none) Q E s:=by
 refine zff (ze8 _ _) (Q':=fun _ s2=>∃h',s2={ s with heap:=h' }/\Heap.FlyingW B l e cls (.ref t) h'/\s.heap.UpToSlots h') (lands_againW hh.1 fun h' a b=>⟨h',rfl,a,b⟩) ?_;rintro _ s2 ⟨h',rfl,a,b⟩ dk;exact hQ h' ⟨a,dk.dict hh.2⟩ b
end
def tTry(K:PySem.W.Frag)(C:Addr)(i:Nat)(tb:TXS)(th:Addr->TS):TS:=fun D σ H=>tb D σ H fun cls od H'=>PySem.W.exmOne K cls (.ref C)=some true/\∀a,H' a=none →
 th a { nx:=fun σ2 H2=>D.nx (σ2.set i none) H2,rt:=D.rt,bk:=fun σ2 H2=>D.bk (σ2.set i none) H2,ct:=fun σ2 H2=>D.ct (σ2.set i none) H2 } (σ.set i (some (.ref a))) (upd H' a (excO a cls od))
theorem ps_try {X:Cx} {body:List Stmt} {y n:Str} {C:Addr} {i:Nat} {b0:Stmt} {suite:List Stmt} {tb:TXS} {th:Addr->TS} {np hpos pos:Pos} (hN:X.N.Nodup) (hi:X.N[i]?=some n) (hx:X.env.scope.names.lookup n=some .local) (hg:Gl X y) (hm:X.mg y=some (.ref C))
  (hst:X.stack=X.env :: X.outer) (hfr:X.env.frame=some X.env.locals)
  (hb:PXS X body tb) (hs:∀a,PSs (marked X a).nox (b0 :: suite) (th a)) (hdb:(y == ("__debug__":Str))=false:=by decide) :
  PS X (.Try body [.ExceptHandler (some (.Name y np)) (some n) (b0 :: suite) hpos] [] [] pos) (tTry X.K C i tb th):=by
 intro pins s σ H D I h;refine wpAny_Try_except (wpAny_mono (hb pins s σ H D _ _ I h ?_) (fun f s1 q=>?_) fun _ _ z=>z);rotate_left
 ·cases f with
  | next=>exact wpAny_execs_nil q
  | ret v=>exact q
  | brk=>exact q
  | cont=>exact q
 intro a cls od H' s' ⟨B,t,fl,nH,inv⟩ ⟨hq,rd⟩;rw[hst] at fl inv;refine zho (hst ▸ I.ok.frames) hfr fl fun h4 held4 dk4 up4=>?_
 refine landsD held4 dk4 fun h5 fl5 up5=>?_
 have up45:=up4.trans up5;have I5:=(inv h5 fl5 up45).1;refine wpAny_handleBy_cons (codeAny_handlers_test ?_) (by intro z; cases z);refine zfb (zfx I5 a) hg hm ?_ hdb;obtain⟨ob,hob,hoc,_⟩:=fl5.there;have LT:PySem.W.Looks (model X.prog X.w) h5 (typeOf (.ref a)) cls:=hoc ▸ (PySem.W.Looks.ld hob).andThen .now;refine(PySem.W.exm_one (I5.kIn) LT hq).at (codeAny_handlers_suite_as ?_);refine zhq fl5 fun h6 fl6 up6=>?_
 have I6:=(inv h6 fl6 (up45.trans up6)).2;refine zeg (X:=(marked X a).nox) (v:=.ref a) (Inv.wish (zfx I6 a) (fun _ _=>False)) hN hi (.inl hx) rfl (fun s7 I7=>?_) (.inr hx);refine wpAny_mono (hs a pins s7 _ _ _ I7 (rd a nH)) (fun f s8 q8=>?_) fun _ _ z=>False.elim z
 cases f with
 | next =>
  obtain⟨σ8,H8,I8,d8⟩:=q8;exact zgw (zer I.ok (Inv.unwish I8)) hN hi hx fun s9 I9=>⟨_,H8,I9,d8⟩
 | brk =>
  obtain⟨σ8,H8,I8,d8⟩:=q8;exact zgw (zer I.ok (Inv.unwish I8)) hN hi hx fun s9 I9=>⟨_,H8,I9,d8⟩
 | cont =>
  obtain⟨σ8,H8,I8,d8⟩:=q8;exact zgw (zer I.ok (Inv.unwish I8)) hN hi hx fun s9 I9=>⟨_,H8,I9,d8⟩
 | ret u =>
  obtain⟨v,σ8,H8,I8,rv,d8⟩:=q8;exact zgw (zer I.ok (Inv.unwish I8)) hN hi hx fun s9 I9=>⟨v,_,H8,I9,rv,d8⟩
def cxComp(X:Cx)(scope:Scope)(cl:List (Str×Addr))(C:Addr)(Nc:List Str)(ex:List Addr)(pins:List (Addr×Obj))(s₀:Shared)(H₀:Hp):Cx where
 prog:=X.prog
 w:=X.w
 K:=X.K
 mg:=X.mg
 base:=X.base
 A:=X.A
 N:=Nc
 s₀:=s₀
 H₀:=H₀
 env:=compEnvC scope cl C X.env
 outer:=X.stack
 stack:=X.stack
 ex:=ex
 fn:=fun y=>scope.names.lookup y == some .local
 calm:=true
 pn:=X.pn++pins
 xe:=fun _ _=>False
structure CompScope(X:Cx)(scope:Scope)(cl:List (Str×Addr))(Nc:List Str)(cap:List (Nat×Nat)):Prop where
 clos:closureFor scope X.env=pure cl
 kind:scope.kind=.function
 names:∀y∈scope.names,y.2=.local->scope.names.lookup y.1=some .local
 nocell:∀y∈scope.names,y.2≠.cell
 sub:∀x c,cl.lookup x=some c->X.env.cells.lookup x=some c/\scope.names.lookup x≠some .local
 has:∀x,((relabel scope X.env).names.lookup x=some .cell\/(relabel scope X.env).names.lookup x=some .free)->∃c,cl.lookup x=some c
 caps:∀j i,(j,i)∈cap->∃x c,Nc[j]?=some x/\X.N[i]?=some x/\cl.lookup x=some c/\X.env.scope.names.lookup x=some .cell/\(relabel scope X.env).names.lookup x=some .cell
theorem zd0 {X:Cx} {scope:Scope} {cl:List (Str×Addr)} {Nc:List Str} {cap:List (Nat×Nat)} (clos:closureFor scope X.env=pure cl) (kind:scope.kind=.function) (names:∀y∈scope.names,y.2=.local->scope.names.lookup y.1=some .local) (nocell:∀y∈scope.names,y.2≠.cell)
  (subs:∀p∈cl,X.env.cells.lookup p.1=some p.2/\scope.names.lookup p.1=some .free) (hass:((relabel scope X.env).names.all fun p=>(p.2 != .cell && p.2 != .free) || (cl.lookup p.1).isSome)=true)
  (caps:∀p∈cap,∃x c,Nc[p.1]?=some x/\X.N[p.2]?=some x/\cl.lookup x=some c/\X.env.scope.names.lookup x=some .cell/\(relabel scope X.env).names.lookup x=some .cell):CompScope X scope cl Nc cap :=
 ⟨clos,kind,names,nocell,fun x c e=>⟨(subs (x,c) (PySem.mem_of_lookup e)).1,fun z=>by
  have:=(subs (x,c) (PySem.mem_of_lookup e)).2
  rw[z] at this;cases this⟩,fun x e=>by
  have key:∀k,(relabel scope X.env).names.lookup x=some k->(k=.cell\/k=.free)->∃c,cl.lookup x=some c:=fun k e hk=>by
   have:=List.all_eq_true.mp hass (x,k) (PySem.mem_of_lookup e)
   rcases hk with rfl | rfl
   ·exact Option.isSome_iff_exists.mp (by simpa using this)
   ·exact Option.isSome_iff_exists.mp (by simpa using this)
  rcases e with e | e
  ·exact key _ e (.inl rfl)
  ·exact key _ e (.inr rfl),fun j i m=>caps (j,i) m⟩
def capSt(n:Nat)(cap:List (Nat×Nat))(σ:St):St:=(List.range n).map fun j=>((cap.find? fun p=>p.1 == j).bind fun p=>σ[p.2]?).bind id
theorem zne{n:Nat}{cap:List (Nat×Nat)}{σ:St}{j:Nat}{v:V}(h:(capSt n cap σ)[j]?=some (some v)):∃i,(j,i)∈cap/\σ[i]?=some (some v):=by
 unfold capSt at h;rw[List.getElem?_map] at h;cases e:(List.range n)[j]? with
 | none=>rw[e] at h; cases h
 | some k =>
  rw[e] at h;have hk:k=j:=by
   obtain⟨hl,q⟩:=List.getElem?_eq_some_iff.mp e;rw[List.getElem_range] at q;exact q.symm
  subst hk;simp only[Option.map_some,Option.some.injEq] at h;cases f:cap.find? fun p=>p.1 == k with
  | none=>rw[f] at h; cases h
  | some p =>
   rw[f] at h;have h1:=List.mem_of_find?_eq_some f;have h2:p.1=k:=by
    have:=List.find?_some f
    exact eq_of_beq this
   refine⟨p.2,?_,?_⟩
   ·rw[<-h2]; exact h1
   ·simp only[Option.bind_some] at h;cases g:σ[p.2]? with
    | none=>rw[g] at h; cases h
    | some o=>rw[g] at h; simpa using h
section
variable {X:Cx} {pins:List (Addr×Obj)} {σ:St} {H:Hp} {s:Shared} {scope:Scope} {cl:List (Str×Addr)} {Nc:List Str} {cap:List (Nat×Nat)} {fp:List Addr}
theorem zjx (I:Inv X pins σ H s) (hcalm:X.calm=true) (S:CompScope X scope cl Nc cap) (hfp:∀b∈fp,FpOk X pins H b) (hob:∀b∈fp,∃o,s.heap.get? b=some o) {C:Addr} {h1:Heap} {m:Str->Option Value} {tk:Nat} (hC:s.heap.objs.size<=C)
  (hn:h1.Ns C m) (keep:∀b o,s.heap.get? b=some o->h1.get? b=some o):Inv (cxComp X scope cl C Nc fp pins s H) [] (capSt Nc.length cap σ) H { s with heap:=h1,toks:=tk }:=by
 have neC:∀b o,s.heap.get? b=some o->b≠C:=fun b o e=>Nat.ne_of_lt (Nat.lt_of_lt_of_le (Heap.lt_size e) hC)
 refine⟨⟨I.ok.mod,S.kind,I.ok.glob,I.ok.blt,hC,fun x y c e1 e2=>?_,fun x hx=>S.has x hx,fun x c e1 e2=>?_,fun _=>I.ok.hd hcalm,I.ok.frames,.inl rfl,fun b hb=>⟨?_,fun x c e=>?_⟩,I.bs,Nat.le_trans I.ok.bsz I.sz,fun b o e hb=>?_,fun b hb z=>?_,I.stack,I.stkFree⟩,
  rfl,I.bare,Un.kept keep,⟨m,hn,fun j x v e1 e2 e3=>?_⟩,fun x c e=>?_,I.hok.fresh hC,fun x c e=>?_,fun p hp=>?_,I.hok.kept keep,?_⟩
 ·exact I.ok.inj x y c (S.sub x c e1).1 (S.sub y c e2).1
 ·exact absurd (beq_iff_eq.mp e1) (S.sub x c e2).2
 ·obtain⟨o,e⟩:=hob b hb;exact neC b o e
 ·exact(hfp b hb).2.2.2.2.1 x c (S.sub x c e).1
 ·rcases(hfp b hb).2.2.2.1 with z | z
  ·exact I.ok.noex b o e z
  ·exact absurd (Nat.lt_of_lt_of_le (Heap.lt_size e) (Nat.le_trans I.ok.bsz z)) (Nat.lt_irrefl _)
 ·rcases List.mem_cons.mp (I.stkSub b z) with z | z
  ·exact(hfp b hb).2.1 z
  ·exact(hfp b hb).2.2.1 z
 ·obtain⟨i,hm,hv⟩:=zne e2;obtain⟨x',c,q1,q2,q3,q4,q5⟩:=S.caps j i hm;have e1':Nc[j]?=some x:=e1;rw[q1] at e1';cases e1';obtain⟨mo,_,hl⟩:=I.loc;obtain⟨u,r,l⟩:=hl i x v q2 hv (.inr (.inl q4));refine⟨u,r,?_⟩;rcases l with ⟨k,_⟩ | ⟨_,c',e',z⟩
  ·have k':X.env.scope.names.lookup x=some .local:=k;rw[q4] at k';cases k'
  ·have:c'=c:=Option.some.inj (e'.symm.trans (S.sub x c q3).1)
   subst this;obtain⟨o,ho,hd⟩:=z;exact .inr ⟨.inl q5,c',q3,⟨o,keep _ _ ho,hd⟩⟩
 ·obtain⟨v,o,ho,hd⟩:=I.cell x c (S.sub x c e).1;exact⟨v,o,keep _ _ ho,hd⟩
 ·exact I.freeC x c (S.sub x c e).1
 ·have hp':p∈X.pn++pins:=by
   have z:p∈(X.pn++pins)++[]:=hp;rw[List.append_nil] at z;exact z
  obtain⟨e,n,ne,nf,d⟩:=I.pin p hp';refine⟨keep _ _ e,n,neC _ _ e,fun z=>?_,d⟩;rcases List.mem_cons.mp (I.stkSub p.1 z) with z | z
  ·exact ne z
  ·exact nf z
 ·show(capSt Nc.length cap σ).length=Nc.length;unfold capSt;rw[List.length_map,List.length_range]
theorem zhz(I:Inv X pins σ H s)(hfp:∀b∈fp,FpOk X pins H b){C:Addr}{σc:St}{H':Hp}{s':Shared}{h':Heap}(J:Inv (cxComp X scope cl C Nc fp pins s H) [] σc H' s')(hs:Heap.SameBut C s'.heap h'):Inv X pins σ H' { s' with heap:=h' }:=by
 have hC:s.heap.objs.size<=C:=J.ok.above;have neC:∀b o,s.heap.get? b=some o->b≠C:=fun b o e=>Nat.ne_of_lt (Nat.lt_of_lt_of_le (Heap.lt_size e) hC)
 have u:=J.base;refine I.call' (s':={ s' with heap:=h' }) (ch:=fp) J.os ⟨fun b o e n hb hx=>?_,fun b o e n hb hx=>?_,u.free,fun b o e hx=>?_,u.tups,u.frzs,u.tbls⟩ (fun b o e=>?_) J.bare fun b hb=>⟨(hfp b hb).2.2.2.1,(hfp b hb).2.1,(hfp b hb).2.2.2.2.1,(hfp b hb).2.2.2.2.2⟩
 ·exact(hs.2 b (neC b o e)).trans (u.keep b o e n hb hx)
 ·obtain⟨sl,q⟩:=u.slot b o e n hb hx;exact⟨sl,(hs.2 b (neC b o e)).trans q⟩
 ·obtain⟨o',q⟩:=u.there b o e hx;exact⟨o',(hs.2 b (neC b o e)).trans q⟩
 ·refine(J.hok b o e).stay (fun c v hc q=>(hs.2 c ?_).trans q) (fun _ q=>q) fun _ _ q=>q
  intro z;subst z;have fr:H' c=none:=J.free;rcases hc with hc | hc
  ·rw[hc] at fr; rw[fr] at e; cases e
  ·rw[fr] at hc; cases hc
end
def tComp(n:Nat)(cap:List (Nat×Nat))(wi:TI)(g:TG)(te:TE):TE:=fun σ H Q=>wi σ H fun J H1=>∀acc,H1 acc=none →
 ∃W:Nat->Nat->List V->St->Hp->Prop,(∃m,W 0 m [] (capSt n cap σ) (upd H1 acc (.lst [])))/\∀i m ys σc H2,W i m ys σc H2 →
  (J.stop i H2/\Q (.ref acc) H2)\/(J.go i H2/\∀x H3,J.yld i H2 x H3->g x σc H3 fun σ4 H4=>te σ4 H4 fun v H5=>H5 acc=some (.lst ys)/\ys.length<sizeLine/\∃m',m' < m/\W (i+1) m' (ys++[v]) σ4 (upd H5 acc (.lst (ys++[v]))))
def tCompF(n:Nat)(cap:List (Nat×Nat))(wi:TI)(g:TG)(tt:TT)(te:TE):TE:=fun σ H Q=>wi σ H fun J H1=>∀acc,H1 acc=none →
 ∃W:Nat->Nat->List V->St->Hp->Prop,(∃m,W 0 m [] (capSt n cap σ) (upd H1 acc (.lst [])))/\∀i m ys σc H2,W i m ys σc H2 →
  (J.stop i H2/\Q (.ref acc) H2)\/(J.go i H2/\∀x H3,J.yld i H2 x H3->g x σc H3 fun σ4 H4=>tt σ4 H4 fun ok H5=>if ok=true then (te σ4 H5 fun v H6=>H6 acc=some (.lst ys)/\ys.length<sizeLine/\∃m',m' < m/\W (i+1) m' (ys++[v]) σ4 (upd H6 acc (.lst (ys++[v])))) else ∃m',m' < m/\W (i+1) m' ys σ4 H5)
def PTs(X:Cx)(ifs:List PySem.Expr)(tt:TT):Prop:=∀(pins:List (Addr×Obj)) (s:Shared) (σ:St) (H:Hp) (Q:Bool->Hp->Prop),Inv X pins σ H s->tt σ H Q →
 wpAny (model X.prog X.w) X.A (forIn ifs true fun c r=>if r=true then do let ok <-isTrue c X.env (eval c X.env); pure (ForInStep.yield ok) else pure (ForInStep.yield r)) (fun ok s'=>∃H',Inv X pins σ H' s'/\Q ok H') X.xe s
theorem zlp{X:Cx}:PTs X [] (fun _ H Q=>Q true H):=fun _ _ _ H _ I q=>wpAny_tests_nil ⟨H,I,q⟩
section
variable {prog:Program} {w:World} {A:Around} {s:Shared}
theorem zi0 {elt iter tg:PySem.Expr} {ifs:List PySem.Expr} {scope:Scope} {pos:Pos} {it acc:Value} {env:Env} {R:Result->Shared->Prop} (I:Nat->Shared->Prop)
  (turn:∀n s,I n s->wpAny (model prog w) A (pyNext it) (fun r s₁=>match r with
   | none=>R (.ok .next) s₁
   | some v=>wpAny (model prog w) A (letOwnedTupleGo tg it v) (fun _ s₁'=>wpAny (model prog w) A (assign tg env v) (fun _ s₂ =>
     wpAny (model prog w) A (forIn ifs true fun c r=>if r=true then do let ok <-isTrue c env (eval c env); pure (ForInStep.yield ok) else pure (ForInStep.yield r)) (fun ok s₃=>if ok=true then
      wpAny (model prog w) A (eval elt env) (fun x s₄ =>
       wpAny (model prog w) A (call (.builtin "list.append") [acc,x]) (fun _ s₅=>∃m,m<n/\I m s₅) (fun _ _=>False) s₄) (fun _ _=>False) s₃
      else ∃m,m<n/\I m s₃) (fun _ _=>False) s₂)
     (fun _ _=>False) s₁') (fun _ _=>False) s₁) (notedBy (model prog w) A env fun e s'=>R (.error e) s') s)
  (n:Nat) (h:I n s):codeAny (model prog w) A (.compLoop (.ListComp elt [⟨tg,iter,ifs,0⟩] scope pos) 0 it acc env) R s:=by
 refine codeAny_loop rfl I (fun n s hI=>?_) n h;show wpAny _ A ((compTurn (.ListComp elt [⟨tg,iter,ifs,0⟩] scope pos) 0 it acc env).onRaise (fun x=>do noteFrame x env; theTreesLotGoes x)) _ _ s;refine wpAny_noted ?_;rw[compTurn_list];refine wpAny_bind (wpAny_standAt (wpAny_bind (wpAny_mono (turn n s hI) (fun r s₁ h₁=>?_) fun _ _ h'=>h')));cases r with
 | none=>exact wpAny_pure h₁
 | some v =>
  refine wpAny_bind (wpAny_mono h₁ (fun _ s₁' h₁'=>?_) fun _ _ h'=>False.elim h');refine wpAny_bind (wpAny_mono h₁' (fun _ s₂ h₂=>wpAny_bind (wpAny_mono h₂ (fun ok s₃ h₃=>?_) fun _ _ h'=>False.elim h')) fun _ _ h'=>False.elim h');cases ok with
  | false=>exact wpAny_pure ⟨rfl,h₃⟩
  | true =>
   exact wpAny_bind (wpAny_bind (wpAny_mono h₃ (fun x s₄ h₄=>wpAny_bind (wpAny_mono h₄ (fun _ s₅ h₅=>wpAny_pure (wpAny_pure ⟨rfl,h₅⟩)) fun _ _ h'=>False.elim h')) fun _ _ h'=>False.elim h'))
end
section
variable {X:Cx} {elt iter tg:PySem.Expr} {ifs:List PySem.Expr} {pos:Pos} {scope:Scope} {cl:List (Str×Addr)} {Nc:List Str} {cap:List (Nat×Nat)} {wi:TI} {g:TG} {tt:TT} {te:TE}
theorem zhy {pins:List (Addr×Obj)} {s:Shared} {σ:St} {H:Hp} {Q:V->Hp->Prop} {pos':Pos} {use:Option (Value->Sem Unit)} {P:Value->Shared->Prop} (hc:X.calm=true) (hi:PI X tg iter wi) (S:CompScope X scope cl Nc cap)
  (hg:∀C fp pins s H,PG (cxComp X scope cl C Nc fp pins s H) tg g) (ht:∀C fp pins s H,PTs (cxComp X scope cl C Nc fp pins s H) ifs tt) (he:∀C fp pins s H,PE (cxComp X scope cl C Nc fp pins s H) elt te)
  (hs:∀y,foldedSetIterable iter X.env y=pure y) (I:Inv X pins σ H s) (h:tCompF Nc.length cap wi g tt te σ H Q)
  (fin:∀(acc C:Addr) (H5:Hp) (s6:Shared) (m6:Str->Option Value),Inv X pins σ H5 s6->FpOk X pins H5 C->s6.heap.Ns C m6->Q (.ref acc) H5->compPost (model X.prog X.w) X.A X.xe use P (.ref acc) C (.ok .next) s6) :
  wpAny (model X.prog X.w) X.A (comprehension (.ListComp elt [⟨tg,iter,ifs,0⟩] scope pos) scope X.env pos' (newList []) false (eval iter X.env) use) P X.xe s:=by
 refine wpAny_comprehension_free (use:=use) (cl:=cl) rfl hs S.clos S.kind S.names ?_;refine thn (hi pins s σ H _ I h) fun v s1 h1=>thn h1 fun itv s2 h2=>?_
 obtain⟨it,fp,tn,J,H2,e,I2,T,st2,f2,rd⟩:=h2;subst e;refine wpAny_newObj_type ?_;have hacc:H2 s2.heap.objs.size=none:=I2.hok.fresh (Nat.le_refl _);obtain⟨W,⟨m0,w0⟩,turn⟩:=rd s2.heap.objs.size hacc;have I3:Inv X pins σ (upd H2 s2.heap.objs.size (.lst [])) { s2 with heap:=s2.heap.push { cls:=.type "list",dict:=none,data:=.seq ([]:List Value).toArray } } :=
  I2.laid (t':=s2.toks) (fun b u e=>Heap.get?_push_of_some _ e) (Nat.le_refl _) ⟨Nat.zero_le _,[],0,.nil,Heap.get?_push_size _ rfl⟩
 have st3:tn 0 (s2.heap.push { cls:=.type "list",dict:=none,data:=.seq ([]:List Value).toArray }):=T.keep _ _ _ st2 fun b _ o e=>Heap.get?_push_of_some _ e
 have f3:∀b∈fp,FpOk X pins (upd H2 s2.heap.objs.size (.lst [])) b:=fun b hb=>by
  obtain⟨o,e,_⟩:=T.obj _ _ st2 b hb;refine⟨?_,(f2 b hb).2⟩;rw[upd_ne (Nat.ne_of_lt (Heap.lt_size e))];exact(f2 b hb).1
 generalize hh3:s2.heap.push { cls:=.type "list",dict:=none,data:=.seq ([]:List Value).toArray }=h3 at I3 st3 ⊢;generalize hH3:upd H2 s2.heap.objs.size (.lst [])=H3 at I3 f3 w0;generalize s2.heap.objs.size=acc at *;refine wpAny_newFunctionEnv S.nocell (by intro y hy; simp at hy) (fun h4 hns hsb=>?_) S.kind;dsimp only at hns hsb ⊢;have keep:∀b o,h3.get? b=some o->h4.get? b=some o:=fun b o e=>hsb.extBut b o (Nat.ne_of_lt (Heap.lt_size e)) (Heap.get?_push_of_some _ e)
 have f0:∀b∈fp,∃o,h3.get? b=some o:=fun b hb=>by
  obtain⟨o,e,_⟩:=T.obj _ _ st3 b hb;exact⟨o,e⟩
 have I4:=zjx (tk:=s2.toks+([]:List (Str×Value)).length) I3 hc S f3 f0 (C:=h3.objs.size) (Nat.le_refl _) hns keep;have st4:tn 0 h4:=T.keep _ _ _ st3 fun b _ o e=>keep b o e
 have stat:∀{H':Hp},(∀b∈fp,H' b=none)->∀b∈fp,FpOk (cxComp X scope cl h3.objs.size Nc fp pins { s2 with heap:=h3 } H3) [] H' b:=fun hn b hb=>by
  obtain⟨o,e⟩:=f0 b hb;refine⟨hn b hb,Nat.ne_of_lt (Heap.lt_size e),I4.ok.exfs b hb,.inl hb,fun x c q=>(f3 b hb).2.2.2.2.1 x c (S.sub x c q).1,fun p hp=>?_⟩;have z:p∈(X.pn++pins)++[]:=hp;rw[List.append_nil] at z;exact(f3 b hb).2.2.2.2.2 p z
 have loop:codeAny (model X.prog X.w) X.A (.compLoop (.ListComp elt [⟨tg,iter,ifs,0⟩] scope pos) 0 (.ref it) (.ref acc) (compEnvC scope cl h3.objs.size X.env)) (compPost (model X.prog X.w) X.A X.xe use P (.ref acc) h3.objs.size)
   { s2 with heap:=h4,toks:=s2.toks+([]:List (Str×Value)).length }:=by
  refine zi0 (fun n s'=>∃i ys σ' H',Inv (cxComp X scope cl h3.objs.size Nc fp pins { s2 with heap:=h3 } H3) [] σ' H' s'/\tn i s'.heap/\(∀b∈fp,H' b=none)/\W i n ys σ' H') ?_ m0 ⟨0,[],_,H3,I4,st4,fun b hb=>(f3 b hb).1,w0⟩;rintro n s5 ⟨i,ys,σ5,H5,I5,st5,fr5,w5⟩;rcases turn i n ys σ5 H5 w5 with ⟨stop,qn⟩ | ⟨go,step⟩
  ·refine thn (T.done (cxComp X scope cl h3.objs.size Nc fp pins { s2 with heap:=h3 } H3) rfl rfl rfl rfl i [] s5 σ5 H5 _ I5 (stat fr5) st5 stop) fun r s6 ⟨hr,I6⟩=>?_
   subst hr;obtain⟨m6,hn6,_⟩:=id I6.loc;exact fin acc _ H5 s6 m6 (zhz (h':=s6.heap) I3 f3 I6 ⟨rfl,fun _ _=>rfl⟩) (I3.fpOk (Nat.le_refl _) I6.free) hn6 qn
  ·refine wpAny_mono (T.item (cxComp X scope cl h3.objs.size Nc fp pins { s2 with heap:=h3 } H3) rfl rfl rfl rfl i [] s5 σ5 H5 (fun _ _=>False) I5 (stat fr5) st5 go) (fun r s6 ⟨u,hr,h6⟩=>?_) fun _ _ z=>False.elim z
   subst hr;refine thn h6 fun _ s7 ⟨y,H7,I7,r7,y7,st7,fr7⟩=>?_
   have I7':=I7.pinned (stat fr7) (T.obj _ _ st7);have kp:∀{σ8:St} {H8:Hp} {s8:Shared},Inv (cxComp X scope cl h3.objs.size Nc fp pins { s2 with heap:=h3 } H3) ([]++pinsAt fp s7.heap) σ8 H8 s8->tn (i+1) s8.heap/\∀b∈fp,H8 b=none:=fun {σ8 H8 s8} I8 =>
    ⟨T.keep _ _ _ st7 fun b hb o e=>(I8.pin (b,o) (List.mem_append_right _ (List.mem_append_right _ (zc6 hb e)))).1,fun b hb=>by
     obtain⟨o,e,d⟩:=T.obj _ _ st7 b hb;exact(I8.pin (b,o) (List.mem_append_right _ (List.mem_append_right _ (zc6 hb e)))).2.1⟩
   refine thn (hg _ _ _ _ _ _ s7 σ5 H7 y u _ I7' r7 (step y H7 y7)) fun _ s8 ⟨σ8,H8,I8,q8⟩=>?_
   refine thn (ht _ _ _ _ _ _ s8 σ8 H8 _ I8 q8) fun ok s9 ⟨H9,I9,q9⟩=>?_
   cases ok with
   | false =>
    rw[if_neg Bool.false_ne_true] at q9 ⊢;obtain⟨m',hm,w'⟩:=q9;obtain⟨st9,fr9⟩:=kp I9;exact⟨m',hm,i+1,ys,σ8,H9,I9.unpinned,st9,fr9,w'⟩
   | true =>
    rw[if_pos rfl] at q9 ⊢;refine thn (he _ _ _ _ _ _ s9 σ8 H9 _ I9 q9) fun w10 s10 ⟨v10,H10,I10,r10,e10,l10,m',hm,q10⟩=>?_
    refine thn (zal _ s10 σ8 H10 (.ref acc) [v10] (.ref acc) [w10] (fun _ H11=>W (i+1) m' (ys++[v10]) σ8 H11) I10 rfl (.cons r10 .nil) ⟨acc,ys,v10,rfl,rfl,e10,l10,q10⟩) fun _ s11 ⟨_,H11,I11,_,q11⟩=>?_
    obtain⟨st11,fr11⟩:=kp I11;exact⟨m',hm,i+1,ys++[v10],σ8,H11,I11.unpinned,st11,fr11,q11⟩
 exact codeAny_compStart_list loop (T.self _ 0 _ _ _ st4 loop)
theorem zos (hc:X.calm=true) (hi:PI X tg iter wi) (S:CompScope X scope cl Nc cap)
  (hg:∀C fp pins s H,PG (cxComp X scope cl C Nc fp pins s H) tg g) (ht:∀C fp pins s H,PTs (cxComp X scope cl C Nc fp pins s H) ifs tt) (he:∀C fp pins s H,PE (cxComp X scope cl C Nc fp pins s H) elt te)
  (hs:∀y,foldedSetIterable iter X.env y=pure y:=by intro _; rfl):PE X (.ListComp elt [⟨tg,iter,ifs,0⟩] scope pos) (tCompF Nc.length cap wi g tt te):=by
 intro pins s σ H Q I h;rw[eval_ListComp];exact zhy (use:=none) hc hi S hg ht he hs I h fun acc C H5 s6 m6 back fpC hn qn=>⟨m6,hn,fun h7 hs7=>⟨.ref acc,H5,back.turned (t':=s6.toks) (fun b o hb q=>(hs7.2 b hb).trans q) fpC.1 fpC.2.1 fpC.2.2.2.1 fpC.2.2.2.2.1 fpC.2.2.2.2.2,rfl,qn⟩⟩
theorem zfk{n:Nat}:tCompF n cap wi g (fun _ H Q=>Q true H) te=tComp n cap wi g te:=by
 unfold tCompF tComp;simp only[if_true]
theorem zgj (hc:X.calm=true) (hi:PI X tg iter wi) (S:CompScope X scope cl Nc cap)
  (hg:∀C fp pins s H,PG (cxComp X scope cl C Nc fp pins s H) tg g) (he:∀C fp pins s H,PE (cxComp X scope cl C Nc fp pins s H) elt te)
  (hs:∀y,foldedSetIterable iter X.env y=pure y:=by intro _; rfl):PE X (.ListComp elt [⟨tg,iter,[],0⟩] scope pos) (tComp Nc.length cap wi g te) :=
 zfk ▸ zos (ifs:=[]) (pos:=pos) hc hi S hg (fun _ _ _ _ _=>zlp) he hs
theorem zig {i:Nat} {y:Str} {py spos:Pos} (hN:X.N.Nodup) (hiN:X.N[i]?=some y) (hy:Loc X.env.scope y)
  (hc:X.calm=true) (hi:PI X tg iter wi) (S:CompScope X scope cl Nc cap)
  (hg:∀C fp pins s H,PG (cxComp X scope cl C Nc fp pins s H) tg g) (ht:∀C fp pins s H,PTs (cxComp X scope cl C Nc fp pins s H) ifs tt) (he:∀C fp pins s H,PE (cxComp X scope cl C Nc fp pins s H) elt te)
  (hsw:swapsWith (.ListComp elt [⟨tg,iter,ifs,0⟩] scope pos) (some (.Name y py)) spos.line X.env=pure true:=by rfl) (hs:∀z,foldedSetIterable iter X.env z=pure z:=by intro _; rfl)
  (hf:X.fn y=true\/X.env.scope.names.lookup y=some .local:=by first | exact .inl rfl | exact .inr rfl | assumption) :
  PS X (.Assign [.Name y py] (.ListComp elt [⟨tg,iter,ifs,0⟩] scope pos) spos) (tAsg (tCompF Nc.length cap wi g tt te) (gName i)):=by
 intro pins s σ H D I h;rw[exec_Assign_Name_used _ _ _ _ hsw];refine wpAny_bind (wpAny_standAt (wpAny_bind ?_));show wpAny _ X.A (do let _ <-comprehension (.ListComp elt [⟨tg,iter,ifs,0⟩] scope pos) scope X.env _ (newList []) false (eval iter X.env) (some (assign (.Name y py) X.env))) _ _ s;refine wpAny_bind (wpAny_mono (zhy (use:=some (assign (.Name y py) X.env)) (P:=fun _ s'=>SP X pins D .next s') hc hi S hg ht he hs I h fun acc C H5 s6 m6 back fpC hn6 qn=>?_) (fun _ s' hq=>wpAny_pure (wpAny_pure hq)) fun _ _ e=>e);show wpAny (model X.prog X.w) X.A (assign (.Name y py) X.env (.ref acc)) _ X.xe s6;refine wpAny_assign_Name (zh5 (v:=.ref acc) back hN hiN hy rfl (fun s7 I7 ⟨a7,sb7,e7⟩=>?_) hf);have nC:C≠a7:=by
  rcases e7 with e7 | e7
  ·rw[e7]; exact fpC.2.1
  ·exact Ne.symm (fpC.2.2.2.2.1 _ _ e7)
 refine⟨m6,hn6.sameBut sb7 nC,fun h8 hs8=>⟨_,H5,?_,qn⟩⟩;exact I7.turned (t':=s7.toks) (fun b o hb q=>(hs8.2 b hb).trans q) fpC.1 fpC.2.1 fpC.2.2.2.1 fpC.2.2.2.2.1 fpC.2.2.2.2.2
theorem zfq {i:Nat} {y:Str} {py spos:Pos} (hN:X.N.Nodup) (hiN:X.N[i]?=some y) (hy:Loc X.env.scope y)
  (hc:X.calm=true) (hi:PI X tg iter wi) (S:CompScope X scope cl Nc cap)
  (hg:∀C fp pins s H,PG (cxComp X scope cl C Nc fp pins s H) tg g) (he:∀C fp pins s H,PE (cxComp X scope cl C Nc fp pins s H) elt te)
  (hsw:swapsWith (.ListComp elt [⟨tg,iter,[],0⟩] scope pos) (some (.Name y py)) spos.line X.env=pure true:=by rfl) (hs:∀z,foldedSetIterable iter X.env z=pure z:=by intro _; rfl)
  (hf:X.fn y=true\/X.env.scope.names.lookup y=some .local:=by first | exact .inl rfl | exact .inr rfl | assumption) :
  PS X (.Assign [.Name y py] (.ListComp elt [⟨tg,iter,[],0⟩] scope pos) spos) (tAsg (tComp Nc.length cap wi g te) (gName i)) :=
 zfk ▸ zig (ifs:=[]) hN hiN hy hc hi S hg (fun _ _ _ _ _=>zlp) he hsw hs hf
end
section
variable {X:Cx}
def Big(i:Int):Prop:=i.natAbs<2 ^ 8000
theorem zsv{i:Int}(h:Big i):i.natAbs.log2<8000:=by
 by_cases z:i.natAbs=0
 ·rw[z]; decide
 ·exact(Nat.log2_lt z).mpr h
def CDivB(_ j:Int):Prop:=j≠0/\Big j
theorem zeo:OpR X (binaryOp .FloorDiv) (rI CDivB fun i j=>.int (i.fdiv j)):=opI fun _ _ _ _ _ _ _ hc q=>floordiv_int hc.1 q (.inl (PyProof.noPylong_of_log2 (by have:=zsv hc.2; omega)))
end
theorem zbe:bootBuiltins "isinstance" = some (.builtin "isinstance"):=by decide +kernel
theorem bt_int:bootBuiltins "int" = some (.type "int"):=by decide +kernel
theorem zc0:bootBuiltins "tuple" = some (.type "tuple"):=by decide +kernel
theorem zav:bootBuiltins "len" = some (.builtin "len"):=by decide +kernel
theorem zqt:bootBuiltins "abs" = some (.builtin "abs"):=by decide +kernel
theorem zqs:bootBuiltins "min" = some (.builtin "min"):=by decide +kernel
section
variable {X:Cx}
end
end L2
namespace L2
open PySem PySem.Spec PyProof.Rows PySem.W
abbrev excD(C t:Addr)(od:Option Addr):Obj:={ cls:=.ref C,dict:=od,data:=.fields #[.ref t,.none,.none,.none,.bool false,.none] }
section
variable {M:Model} {A:Around} {E:Value->Shared->Prop} {env:Env} {nm qn:Str} {C N:Addr} {bs tl:List Value} {hdct:Bool} {sn:List Str} {sub:List Value} {ab:Bool} {col:Option Bool} {dd:Option Addr} {k0 k1 k2 k3 k5:Option Value} {newId:String}
abbrev ClsE(nm qn:Str)(C N:Addr)(bs tl:List Value)(hdct:Bool)(sn:List Str)(sub:List Value)(ab:Bool)(col:Option Bool)(dd:Option Addr)(k0 k1 k2 k3 k5:Option Value)(newId:String):Obj:=excClassObj nm qn C N bs tl hdct sn sub ab col dd k0 k1 k2 k3 k5 newId
theorem zie {s:Shared} {x:Sem Value} {Q:Flow->Shared->Prop} (hb:tl.contains (.type "BaseException")=true) (hh:A.handled=none)
  (h:wpAny M A x (fun v s1=>∃e t od,v=.ref e/\s1.heap.get? C=some (ClsE nm qn C N bs tl hdct sn sub ab col dd k0 k1 k2 k3 k5 newId)/\s1.heap.get? e=some (excD C t od)/\E (.ref e) s1) E s) :
  wpAny M A (raiseStmt env (some x) none) Q E s:=by
 have hcB:(Value.ref C :: tl).contains (.type "BaseException")=true:=by rw[List.contains_cons,hb]; exact Bool.or_true _
 unfold raiseStmt;refine wpAny_bind (wpAny_mono h (fun v s1 hv=>?_) fun _ _ z=>z);obtain⟨e,t,od,rfl,hC,he,hE⟩:=hv;obtain⟨hp,g,d,tk,os⟩:=s1
 repeat (first | with_reducible refine wpAny_loadPart_at he ?_ | with_reducible refine wpAny_loadPart_at hC ?_ | (with_reducible refine wpAny_isSubtype_exc hC ?_; rw[hcB]) | wp_step)
 exact wpAny_raiseNew_none hh hE
end
section
variable {prog:Program} {w:World} {A:Around} {E:Value->Shared->Prop} {s:Shared} {env:Env} {nm qn:Str} {C N:Addr} {bs tl bmB:List Value} {hdct:Bool} {sn:List Str} {sub:List Value} {ab:Bool} {col:Option Bool} {dd:Option Addr} {k0 k1 k2 k3 k5:Option Value} {B newId initId:String}
theorem zk8 (F:ExcBaseFacts B newId initId bmB) (T:OwnTail s.heap bmB tl) {mN:Str->Option Value} {rest:List Value} {fI:Addr} {oI:Obj} {Q:Fin->Shared->Prop}
  (hC:s.heap.get? C=some (ClsE nm qn C N bs tl hdct sn sub ab col dd k0 k1 k2 k3 k5 newId)) (hn:s.heap.Ns N mN) (hi:mN "__init__" = some (.ref fI)) (hfI:s.heap.get? fI=some oI) (hfc:oI.cls=.type "function")
  (hq:∀h' e t,Heap.MadeExcOf s.heap h' e (.ref C) rest->h'.get? e=some (excD C t none) →
   wpAny (model prog w) A (call (.ref fI) (.ref e :: rest)) (fun r s'=>r=.none/\Q (.done (.ret (.ref e))) s') E { s with heap:=h' }) (hrest:rest.length<=sizeLine) :
  wpAny (model prog w) A (Builtin.«type.__call__» ⟨.ref C :: rest,[]⟩) Q E s:=by
 obtain⟨h,g,d,t,os⟩:=s;dsimp only at T hC hn hfI hq
 repeat (first | with_reducible refine wpAny_loadPart_at hC ?_ | with_reducible refine wpAny_madeBy_exc hC ?_ | wp_step)
 refine codeAny_call_builtin_code (Code.quiet_builtin _ F.quiet) (wpAny_check_new_subT F T hC (codeAny_exc_new_subT F T hC ?_ hrest));obtain⟨h2,eh2⟩:∃h2,h2=(h.push { cls:=.type "tuple",data:=.seq rest.toArray }).push (excD C h.objs.size none):=⟨_,rfl⟩;have kp:∀b o,h.get? b=some o->h2.get? b=some o:=fun b o e=>by rw[eh2]; exact Heap.get?_push_of_some _ (Heap.get?_push_of_some _ e)
 have hget:h2.get? (h.objs.size+1)=some (excD C h.objs.size none):=by rw[eh2]; heap_get
 have htup:h2.get? h.objs.size=some { cls:=.type "tuple",data:=.seq rest.toArray }:=by rw[eh2]; exact Heap.get?_push_of_some _ (Heap.get?_push_at rfl rfl)
 show wpAny _ _ _ _ _ ⟨(h.push { cls:=.type "tuple",data:=.seq rest.toArray }).push (excD C h.objs.size none),g,d,t,os⟩;rw[<-eh2];clear eh2;have hC2:=kp _ _ hC;have hn2:=hn.keeps kp;have hcC:(Value.ref C :: tl).contains (.ref C)=true:=by simp
 unfold isInstance
 repeat (first | with_reducible refine wpAny_loadPart_at hget ?_ | (with_reducible refine wpAny_isSubtype_exc hC2 ?_; rw[hcC]) | wp_step)
 show wpAny _ _ (typeLookup (.ref C) _) _ _ _;refine wpAny_typeLookup_tail hC2 hn2 (T.keeps kp) F.mroIs F.init.lookup ?_;rw[hi];refine wpAny_holding (wpAny_bind ?_);unfold bindSpecial;refine wpAny_bind (wpAny_typeOf (T:="function") ⟨_,kp _ _ hfI,hfc⟩ ?_);rw[if_pos (by decide)];refine wpAny_pure (wpAny_bind (wpAny_mono (hq h2 (h.objs.size+1) h.objs.size ⟨kp,Heap.get?_none_of_le (Nat.le_succ _),h.objs.size,hget,Heap.get?_none_of_le (Nat.le_refl _),htup⟩ hget) (fun r s' hr=>?_) fun _ _ x=>x));obtain⟨rfl,hQ⟩:=hr
 wp_walk
 exact hQ
theorem zni (F:ExcBaseFacts B newId initId bmB) (T:OwnTail s.heap bmB tl) {mN:Str->Option Value} {rest:List Value} {fI:Addr} {oI:Obj} {Q:Value->Shared->Prop}
  (hC:s.heap.get? C=some (ClsE nm qn C N bs tl hdct sn sub ab col dd k0 k1 k2 k3 k5 newId)) (hn:s.heap.Ns N mN) (hi:mN "__init__" = some (.ref fI)) (hfI:s.heap.get? fI=some oI) (hfc:oI.cls=.type "function")
  (hq:∀h' e t,Heap.MadeExcOf s.heap h' e (.ref C) rest->h'.get? e=some (excD C t none) →
   wpAny (model prog w) (A.under (.builtin "type.__call__" ⟨.ref C :: rest,[]⟩)) (call (.ref fI) (.ref e :: rest)) (fun r s'=>r=.none/\Q (.ref e) s') E { s with heap:=h' }) (hrest:rest.length<=sizeLine) :
  wpAny (model prog w) A (call (.ref C) rest) Q E s:=by
 obtain⟨h,g,d,t,os⟩:=s;dsimp only at T hC hn hfI hq;have f1:=tc_lookup;have f2:=tc_bind (.ref C);have hT:(⟨h,g,d,t,os⟩:Shared).TypeIs (.ref C) "type":=⟨_,hC,rfl⟩;refine wpAny_call (codeAny_of_tree ?_);show wpAny _ _ (callAny (.ref C) _) _ _ _
 repeat (any_goals (first | assumption | with_reducible refine wpAny_loadPart_at hC ?_ | wp_step))
 refine⟨rfl,codeAny_call_builtin_at (Code.quiet_builtin _ (by decide +kernel)) entry_typeCall (wpAny_check_type_call_sub hC (zk8 F T hC hn hi hfI hfc (fun h' e t' hm ht=>?_) hrest))⟩;exact hq h' e t' hm ht
theorem zif (F:ExcBaseFacts B newId initId bmB) {mN:Str->Option Value} {x:Str} {np cpos pos:Pos} {args:List PySem.Expr} {fI:Addr} {oI:Obj} {Q:Flow->Shared->Prop} (hb:tl.contains (.type "BaseException")=true) (hh:A.handled=none)
  (hpl:(backTo cpos (starEach args env)).any (·.1)=false) (hi:mN "__init__" = some (.ref fI)) (hfc:oI.cls=.type "function")
  (h:wpAny (model prog w) A (eval (.Name x np) env) (fun f s1=>f=.ref C/\wpAny (model prog w) A (evalArgs (.ref C) true (backTo cpos (starEach args env)) [])
   (fun a s2=>a.kw=[]/\a.pos.length<=sizeLine/\s2.heap.get? C=some (ClsE nm qn C N bs tl hdct sn sub ab col dd k0 k1 k2 k3 k5 newId)/\s2.heap.Ns N mN/\OwnTail s2.heap bmB tl/\s2.heap.get? fI=some oI /\
    ∀h' e t,Heap.MadeExcOf s2.heap h' e (.ref C) a.pos->h'.get? e=some (excD C t none) →
     wpAny (model prog w) (A.under (.builtin "type.__call__" ⟨.ref C :: a.pos,[]⟩)) (call (.ref fI) (.ref e :: a.pos)) (fun r s'=>r=.none/\(∃od,s'.heap.get? e=some (excD C t od))/\s'.heap.get? C=some (ClsE nm qn C N bs tl hdct sn sub ab col dd k0 k1 k2 k3 k5 newId)/\E (.ref e) s') E { s2 with heap:=h' }) E s1) E s) :
  wpAny (model prog w) A (exec (.Raise (some (.Call (.Name x np) args [] cpos)) none pos) env) Q E s:=by
 rw[arm_exec_Raise];refine wpAny_bind (wpAny_standAt (zie (C:=C) (nm:=nm) (qn:=qn) (N:=N) (bs:=bs) (tl:=tl) (hdct:=hdct) (sn:=sn) (sub:=sub) (ab:=ab) (col:=col) (dd:=dd) (k0:=k0) (k1:=k1) (k2:=k2) (k3:=k3) (k5:=k5) (newId:=newId) hb hh ?_));refine wpAny_bind (wpAny_mono (wpAny_Call_ofName (wpAny_mono h (fun f s1 h1=>?_) fun _ _ x=>x)) (fun v s3 h3=>wpAny_bind (wpAny_standAt (wpAny_pure h3))) fun _ _ x=>x);obtain⟨rfl,h1⟩:=h1;unfold callWith;refine wpAny_bind (wpAny_holding (wpAny_mono h1 (fun a s2 h2=>wpAny_bind (wpAny_standAt ?_)) fun _ _ x=>x));obtain⟨apos,akw⟩:=a;obtain⟨hkw,hlen,hC,hn,T,hfI,h2⟩:=h2;obtain rfl:akw=[]:=hkw;simp only[hpl];obtain⟨hp,g,d,tk,os⟩:=s2;refine wpAny_bind (wpAny_keeperOf_exc hC ?_);refine wpAny_bind (zni (s:=⟨hp,g,d,tk,os⟩) F T hC hn hi hfI hfc (fun h' e t hm ht=>wpAny_mono (h2 h' e t hm ht) (fun r s' hr=>⟨hr.1,wpAny_bind (wpAny_holding (wpAny_point (wpAny_pure ?_)))⟩) fun _ _ z=>z) hlen);obtain⟨_,⟨od,h4⟩,h5,h6⟩:=hr;exact⟨e,t,od,rfl,h5,h4,h6⟩
end
def exMro:List Value->Bool
 | [.type a,.type b,.type c,.type d]=>a == "ValueError" && b == "Exception" && c == "BaseException" && d == "object"
 | .ref _ :: r=>exMro r
 | _=>false
def exIn(K:Frag)(C:Addr):Bool:=(clsIn K C).any fun cd=>cd.hasDict && exMro cd.mro
theorem zea:∀{l:List Value},exMro l=true->(∀self,refuseLoop self "__setattr__" l=pure ())/\l.contains (.type "object")=true/\l.isEmpty=false
 | [.type a,.type b,.type c,.type d],e=>by
  have e':(a == "ValueError" && b == "Exception" && c == "BaseException" && d == "object")=true:=e;simp only[Bool.and_eq_true,beq_iff_eq] at e';obtain⟨⟨⟨rfl,rfl⟩,rfl⟩,rfl⟩:=e';exact⟨PySem.F.store_ValueError.passes,by decide,rfl⟩
 | .ref c :: r,e=>by
  have e':exMro r=true:=by
   unfold exMro at e;exact e
  obtain⟨h1,h2,_⟩:=zea (l:=r) e';exact⟨fun self=>by rw[refuseLoop_ref]; exact h1 self,by rw[List.contains_cons,h2,Bool.or_true],rfl⟩
section
variable {prog:Program} {w:World} {A:Around} {E:Value->Shared->Prop} {s:Shared} {K:Frag} {x C:Addr} {ox:Obj} {name:Str} {v:Value}
theorem xset {Q:Unit->Shared->Prop} (X:K.In s.heap) (hx:s.heap.get? x=some ox) (hcl:ox.cls=.ref C) (hdn:ox.dict=none) (hno:notCls ox=true)
  (hs:findIn K (.ref C) "__setattr__" = some (some (.builtin "object.__setattr__"))) (hm:exIn K C=true) (hn:findIn K (.ref C) name=some none)
  (h:∀h' d tk,s.heap.get? d=none->h'.get? x=some { ox with dict:=some d }->h'.Ns1 d (fun y=>if y=name then some v else none)->(∀b o,b≠x->s.heap.get? b=some o->h'.get? b=some o)->Q () { s with heap:=h',toks:=tk }) :
  wpAny (model prog w) A (setAttr (.ref x) name v) Q E s:=by
 have I:InstAt s.heap x ox C none:=⟨hx,hcl,hno,by rw[hdn]; trivial⟩;obtain⟨cd,hc,hcd⟩:=any_some hm;rw[Bool.and_eq_true] at hcd;obtain⟨hhd,hmro⟩:=hcd;obtain⟨m1,m2,m3⟩:=zea hmro;have SF:=PySem.F.store_object;refine set_plain X I hs ?_;obtain⟨hp,g,d,tk,os⟩:=s;dsimp only at X hx I h ⊢;have sub:Looks (model prog w) hp (isInstance (.ref x) (.type "object")) true:=I.type.andThen (looks_mroIn X (by unfold mroIn; rw[hc,Option.bind_some,if_neg (by rw[m3]; decide),m2]));refine codeAny_call_builtin SF.slot.plain SF.entry (@check_slot (model prog w) _ _ ⟨hp,g,d,tk+1,os⟩ "object.__setattr__" "object" "__setattr__" (.ref x) [.str name tk,v] [] _ SF.kind SF.split sub (SF.args (.ref x) (.str name tk) v) ?_);have hmo:Looks (model prog w) hp (mroOf (.ref C)) cd.mro:=(looks_clsIn X hc).andThen .now;rw[osa_eq,refuse_eq];refine wpAny_bind (wpAny_bind (I.type.at (wpAny_bind (hmo.at ?_))));rw[m1];refine wpAny_pure (wpAny_bind (I.type.at (wpAny_bind ((looks_findIn X hn).at (wpAny_bind (Looks.now.at ?_))))));show wpAny _ _ (Builtin.ObjectAttr.storeInOwnDict (.ref x) (.ref C) (.str name tk) name v false) _ _ _;obtain⟨oc,od,oda,osl⟩:=ox;dsimp only at hcl hdn;subst hcl;subst hdn;refine wpAny_bind (wpAny_pure (wpAny_bind (wpAny_bind (wpAny_loadPart hx (wpAny_bind ((looks_clsIn X hc).at ?_))))));rw[hhd];have hx1:(hp.push { cls:=.type "dict",data:=.dict #[] }).get? x=some ⟨.ref C,none,oda,osl⟩:=Heap.get?_push_of_some _ hx;have hxs:x≠hp.objs.size:=Nat.ne_of_lt (Heap.lt_size hx);have hfr:=(Heap.get?_some_iff.mp hx).2;have hx2:((hp.push { cls:=.type "dict",data:=.dict #[] }).update x fun o=>{ o with dict:=some hp.objs.size }).get? x=some ⟨.ref C,some hp.objs.size,oda,osl⟩:=Heap.get?_update_self _ hx1 (by cases oda <;> first | rfl | exact hfr);have hgd:((hp.push { cls:=.type "dict",data:=.dict #[] }).update x fun o=>{ o with dict:=some hp.objs.size }).get? hp.objs.size=some { cls:=.type "dict",data:=.dict #[] }:=(Heap.get?_update_ne _ _ _ _ hxs.symm).trans (Heap.get?_push_at rfl rfl);have hko:∀b o,b≠x->hp.get? b=some o->((hp.push { cls:=.type "dict",data:=.dict #[] }).update x fun o=>{ o with dict:=some hp.objs.size }).get? b=some o:=fun b o n e=>(Heap.get?_update_ne _ _ _ _ n).trans (Heap.get?_push_of_some _ e)
 have fin:wpAny (model prog w) A.in1 (Builtin.ObjectAttr.storeInDict hp.objs.size (.str name tk) name v) (fun fin s'=>match fin with
   | .done f=>(match (Except.ok f:Result) with | .ok (.ret _)=>Q () s' | .ok _=>False | .error e=>E e s')
   | .again c'=>c'.quiet=true/\codeAny (model prog w) A c' (fun r s'=>match r with | .ok (.ret _)=>Q () s' | .ok _=>False | .error e=>E e s') s') (fun e s'=>E e s')
   ⟨(hp.push { cls:=.type "dict",data:=.dict #[] }).update x fun o=>{ o with dict:=some hp.objs.size },g,d,tk+1,os⟩:=by
  have hnd:((hp.push { cls:=.type "dict",data:=.dict #[] }).update x fun o=>{ o with dict:=some hp.objs.size }).Ns hp.objs.size (fun _=>none):=⟨_,#[],_,hgd,rfl,fun e he=>absurd he (by simp),fun _=>rfl⟩;unfold Builtin.ObjectAttr.storeInDict Builtin.ObjectAttr.newKeyGuard;refine wpAny_bind (wpAny_pure (wpAny_bind (wpAny_nsSet1 (Heap.Ns1.of_empty hnd) fun h' hn' hs=>?_)));obtain⟨oD,esD,epD,hoD,hdD,hcD⟩:=hn'.count (Within.cons name v Within.nil);refine wpAny_bind (wpAny_lookBehind hoD (by rw[hdD]; exact pastItsLine_dict (Nat.le_trans hcD (by rw[List.length_cons,List.length_nil,sizeLine_eq]; omega))) ?_);refine wpAny_pure ?_;exact h h' hp.objs.size _ (Heap.get?_none_of_le (Nat.le_refl _)) ((hs.2 x hxs).trans hx2) hn' fun b o n e=>(hs.2 b (Nat.ne_of_lt (Heap.lt_size e))).trans (hko b o n e)
 cases oda with
 | cls c=>cases hno
 | _ =>
  refine wpAny_bind (wpAny_alloc' ?_);refine wpAny_bind (wpAny_update' hx1 ?_);exact wpAny_pure fin
end
end L2
namespace L2
open PySem PySem.Spec PyProof.Rows
section
variable {X:Cx}
end
section
variable {prog:Program} {w:World} {A:Around} {E:Value->Shared->Prop} {s:Shared}
theorem zkp {c t:Addr} {k:Nat} {vs:Array Value} {y:Value} {Q:Value->Shared->Prop} (hc:s.heap.IsTupleIter c t k) (ht:s.heap.IsTuple t vs) (hy:vs[k]?=some y)
  (hQ:∀h',h'.IsTupleIter c t (k+1)->Heap.SameBut c s.heap h'->Q y { s with heap:=h' }):wpAny (model prog w) A (Builtin.SmallTypes.nextOf (.ref c)) Q E s:=by
 obtain⟨ob,e1,e2,e3⟩:=id hc;obtain⟨ot,f1,_,nt,f2⟩:=ht;unfold Builtin.SmallTypes.nextOf;refine wpAny_bind (wpAny_callSpecial?_slot (name:=Str.ofString "__next__") hc.typeIs PySem.F.slot_tuple_iterator_next (wpAny_call_entry PySem.F.slot_tuple_iterator_next hc.typeIs PySem.F.entry_tuple_iterator_next ?_ (PySem.F.args_tuple_iterator_next_1 _)));show wpAny _ _ (field (.ref c) 0 >>= _) _ _ s;refine wpAny_bind (wpAny_field e1 e3 (x:=.ref t) rfl ?_);show wpAny _ _ (if (Value.ref t == Value.none)=true then _ else _) _ _ _;rw[if_neg (show ¬((Value.ref t == Value.none)=true) by exact Bool.false_ne_true)];show wpAny _ _ (field (.ref c) 1 >>= _) _ _ s;refine wpAny_bind (wpAny_field e1 e3 (x:=.int k 0) rfl ?_);show wpAny _ _ (seqItems? (.ref t) >>= _) _ _ _;refine wpAny_bind (wpAny_seqItems f1 f2 ?_);simp only[Int.toNat_natCast,hy];refine wpAny_bind (wpAny_setField e1 e3 (by simp) (wpAny_pure ⟨y,rfl,wpAny_pure (hQ _ ?_ (Heap.SameBut.update ..))⟩));exact⟨_,Heap.get?_update_self _ e1 (Obj.isFreed_of_fields (Obj.data_mapFields e3 _)),(Obj.cls_mapFields ..).trans e2,by rw[Obj.data_mapFields e3]; simp[rawInt]⟩
theorem zm8 {c t:Addr} {k:Nat} {vs:Array Value} {Q:Value->Shared->Prop} (hh:A.handled=none) (hc:s.heap.IsTupleIter c t k) (ht:s.heap.IsTuple t vs) (hy:vs[k]?=none)
  (hE:∀h' x,Heap.ExtBut c s.heap h'->(∃o,h'.get? x=some o/\o.cls=.type "StopIteration")->E (.ref x) { s with heap:=h' }):wpAny (model prog w) A (Builtin.SmallTypes.nextOf (.ref c)) Q E s:=by
 obtain⟨ob,e1,e2,e3⟩:=id hc;obtain⟨ot,f1,_,nt,f2⟩:=ht;unfold Builtin.SmallTypes.nextOf;refine wpAny_bind (wpAny_callSpecial?_slot (name:=Str.ofString "__next__") hc.typeIs PySem.F.slot_tuple_iterator_next (wpAny_call_entry PySem.F.slot_tuple_iterator_next hc.typeIs PySem.F.entry_tuple_iterator_next ?_ (PySem.F.args_tuple_iterator_next_1 _)));show wpAny _ _ (field (.ref c) 0 >>= _) _ _ s;refine wpAny_bind (wpAny_field e1 e3 (x:=.ref t) rfl ?_);show wpAny _ _ (if (Value.ref t == Value.none)=true then _ else _) _ _ _;rw[if_neg (show ¬((Value.ref t == Value.none)=true) by exact Bool.false_ne_true)];show wpAny _ _ (field (.ref c) 1 >>= _) _ _ s;refine wpAny_bind (wpAny_field e1 e3 (x:=.int k 0) rfl ?_);show wpAny _ _ (seqItems? (.ref t) >>= _) _ _ _;refine wpAny_bind (wpAny_seqItems f1 f2 ?_);simp only[Int.toNat_natCast,hy];refine wpAny_bind (wpAny_rule (wpAny_bind (wpAny_setField e1 e3 (by simp) ?_)));show wpAny _ _ (newExc (.type "StopIteration") [] >>= _) _ _ (_:Shared);refine wpAny_bind ?_;simp only[newExc,newTuple];refine wpAny_bind (wpAny_newObj_type ?_ (by size_fits)); refine wpAny_bind (m:=firstArgMember _ _) (wpAny_of_eq (a:=Value.none) (by first | rfl | (simp only[firstArgMember]; rfl)) ?_);refine wpAny_newObj_type ?_ (by size_fits); simp only[raiseNew];refine wpAny_bind (wpAny_handled ?_); first | rw[show A.in1.handled=none from hh] | rw[hh]
 refine wpAny_bind (wpAny_pure (wpAny_throw (hE _ _ (((Heap.SameBut.update ..).extBut.push _).push _) ⟨_,Heap.get?_push_size _ rfl,rfl⟩)))
theorem drawsT(hh:A.handled=none)(c t:Addr)(hne:t≠c)(vs:Array Value):
  Draws prog w A c [c,t] vs.size (fun i v=>vs[i]?=some v) (fun i h=>h.IsTupleIter c t i/\h.IsTuple t vs) where
 live:=fun _ _ st=>let ⟨o,ho,_⟩:=st.1; ⟨o,ho⟩
 frame:=fun _ _ _ st hk=>⟨let ⟨o,ho,r⟩:=st.1; ⟨o,hk c (by simp) o ho,r⟩,let ⟨o,ho,r⟩:=st.2; ⟨o,hk t (by simp) o ho,r⟩⟩
 item:=fun i s' Q' E' hi st hQ=>zkp st.1 st.2 (y:=vs[i]) (by simp[hi]) fun h' k1 k2=>hQ _ h' s'.toks (by simp[hi]) ⟨k1,st.2.extBut k2.extBut hne⟩ k2
 done:=fun s' Q' E' st hE=>zm8 hh st.1 st.2 (by simp) hE
set_option maxHeartbeats 1000000 in
theorem zit(t:Addr)(vs:Array Value)(n:Nat)(dct:Option Addr)(sl:Array (Option Value)):
  Meets (Builtin.«enumerate.__new__» ⟨[.type "enumerate",.ref t],[]⟩) (fun _ R s=>s.heap.get? t=some { cls:=.type "tuple",dict:=dct,data:=.seq vs n,slots:=sl } /\
   R (.ok (.ret (.ref (s.heap.push { cls:=.type "tuple_iterator",data:=.fields #[.ref t,.int 0 0] }).objs.size)))
    { s with heap:=(s.heap.push { cls:=.type "tuple_iterator",data:=.fields #[.ref t,.int 0 0] }).push { cls:=.type "enumerate",data:=.fields #[.none,.bool false,.ref s.heap.objs.size,rawInt 0,.none,.none] } }) :=
 .of_wp fun prog w A R s h=>by
  obtain⟨hp,g,d,tk,os⟩:=s; obtain⟨ht,h⟩:=h;have hsub:=sub_enumerate;have hT:Heap.IsTuple (Shared.heap ⟨hp,g,d,tk,os⟩) t vs:=⟨_,ht,rfl,n,rfl⟩
  wp_walk using AutoSeq1.wpAny_loadPart' ht
  refine wpAny_stack_any fun st=>wpAny_pure ?_
  split
  ·rename_i c _ _ _ _ _
   cases (c == Value.type "enumerate") <;> (wp_walk using AutoSeq1.wpAny_loadPart' ht,wpAny_pyIter_tuple hT; exact⟨_,rfl,h⟩)
  ·wp_walk using AutoSeq1.wpAny_loadPart' ht,wpAny_pyIter_tuple hT; exact⟨_,rfl,h⟩
theorem zl2 {t:Addr} {vs:Array Value} {Q:Value->Shared->Prop} (hT:s.heap.IsTuple t vs)
  (h:∀h',IsEnum h' (s.heap.objs.size+1) s.heap.objs.size 0 .none->h'.IsTupleIter s.heap.objs.size t 0->(∀b o,s.heap.get? b=some o->h'.get? b=some o)->Q (.ref (s.heap.objs.size+1)) { s with heap:=h' }) :
  wpAny (model prog w) A (call (.type "enumerate") [.ref t]) Q E s:=by
 obtain⟨⟨c,dct,dt,sl⟩,ht,hc,n,hd⟩:=hT;obtain rfl:c=.type "tuple":=hc;obtain rfl:dt=.seq vs n:=hd;refine callType_new PySem.F.called_enumerate (by decide) (PySem.F.typeCall_enumerate_1 _) (PySem.F.newCall_enumerate_1 _) (fun obj=>PySem.F.args_object_init_2 obj _) PySem.F.entry_enumerate_new (zit t vs n dct sl) ⟨ht,?_⟩;have z:(s.heap.push { cls:=.type "tuple_iterator",data:=.fields #[.ref t,.int 0 0] }).objs.size=s.heap.objs.size+1:=Heap.size_push ..;show _/\_;rw[z];have he:IsEnum ((s.heap.push { cls:=.type "tuple_iterator",data:=.fields #[.ref t,.int 0 0] }).push { cls:=.type "enumerate",data:=.fields #[.none,.bool false,.ref s.heap.objs.size,rawInt 0,.none,.none] }) (s.heap.objs.size+1) s.heap.objs.size 0 .none:=by
  have q:=Heap.get?_push_size (s.heap.push { cls:=.type "tuple_iterator",data:=.fields #[.ref t,.int 0 0] }) (o:={ cls:=.type "enumerate",data:=.fields #[.none,.bool false,.ref s.heap.objs.size,rawInt 0,.none,.none] }) rfl;rw[z] at q;exact q
 exact⟨⟨_,he,rfl⟩,h _ he ⟨_,Heap.get?_push_of_some _ (Heap.get?_push_size _ rfl),rfl,rfl⟩ fun b o q=>Heap.get?_push_of_some _ (Heap.get?_push_of_some _ q)⟩
end
section
variable {X:Cx}
def Ite(a : Addr): It :=
  ⟨fun i H => ∃xs x, H a = some (.tup xs) /\ xs[i]? = some x,
   fun i H v H' => ∃p x, v = .ref p /\ H p = none /\ H' = upd H p (.tup [.int i, x]) /\ ∀xs, H a = some (.tup xs) → xs[i]? = some x,
   fun i H => ∃xs, H a = some (.tup xs) /\ xs.length = i⟩
theorem zla{P:Program}{w:World}{K:PySem.W.Frag}{es:List PySem.Expr}{kk:Nat}{pos:Pos}{a e it:Addr}(hei:e≠it):
  Turn P w K (.Tuple es kk pos) (Ite a) [e,it] e (fun i h=>(∃old,IsEnum h e it ((i:Nat):Int) old)/\h.IsTupleIter it a i) where
 mem:=by simp
 obj:=fun i h st c hc=>by
  obtain⟨⟨old,h1⟩,o2,h2,_,d2⟩:=st;simp only[List.mem_cons,List.not_mem_nil,or_false] at hc;rcases hc with rfl | rfl
  ·exact⟨_,h1,fun v z=>by have z':Data.fields _=Data.cell v:=z; cases z'⟩
  ·exact⟨_,h2,fun v z=>by rw[d2] at z; cases z⟩
 keep:=fun i h h' st k=>by
  obtain⟨⟨old,h1⟩,o2,h2,r⟩:=st;exact⟨⟨old,k e (by simp) _ h1⟩,o2,k it (by simp) _ h2,r⟩
 item:=by
  intro X hP hw hK hc i pins s σ H E I hf st hg;subst hP hw hK;obtain⟨xs,x,qa,hx⟩:=hg;obtain⟨its,rv,pa,_⟩:=I.tuple (SqT.of (K:=X.K) qa);obtain⟨ux,hux,rx⟩:=rv.get hx;obtain⟨⟨old,h1⟩,h2⟩:=st;have nea:e≠a:=fun z=>by
   have:=(hf e (by simp)).1
   rw[z,qa] at this;cases this
  have nia:a≠it:=fun z=>by
   have:=(hf it (by simp)).1
   rw[<-z,qa] at this;cases this
  have hlt:i<its.toArray.size:=by
   rw[List.size_toArray];exact(List.getElem?_eq_some_iff.mp hux).1
  have D:Draws X.prog X.w X.A.in1 it [it,a] its.toArray.size (fun i v=>its.toArray[i]?=some v) (fun i h=>h.IsTupleIter it a i/\h.IsTuple a its.toArray):=drawsT (show X.A.in1.handled=none from I.ok.hd hc) it a nia its.toArray;refine wpAny_pyNext_enum_itemD D h1 ⟨h2,pa⟩ hlt hei (by simp[hei,nea]) fun y h' tk hy a1 a2 a3 a4 k=>?_
  have hyx:y=ux:=by
   have q1:its.toArray[i]?=some y:=hy;rw[List.getElem?_toArray,hux] at q1;exact(Option.some.inj q1).symm
  subst hyx;refine⟨_,rfl,wpAny_letOwnedTupleGo_enum a1 fun h'' b1 sb=>?_⟩;have sb:Heap.SameBut e h' h'':=sb;have hse:s.heap.objs.size≠e:=Nat.ne_of_gt (Heap.lt_size h1);have hsi:s.heap.objs.size≠it:=by
   obtain⟨o,g,_⟩:=id h2;exact Nat.ne_of_gt (Heap.lt_size g)
  have hn:H s.heap.objs.size=none:=I.hok.fresh (Nat.le_refl _);have kk':∀c o,c∉[e,it]->s.heap.get? c=some o->h''.get? c=some o:=fun c o hc q =>
   (sb.2 c fun z=>hc (by simp[z])).trans (k c o (fun z=>hc (by simp[z])) (fun z=>hc (by simp[z])) q)
  have tO:h''.get? s.heap.objs.size=some { cls:=.type "tuple",data:=.seq #[.int i tk,y] }:=(sb.2 _ hse).trans a3;have nt:∀c u,H c=some u->c∉[e,it]:=fun c u q hc=>by
   have:=(hf c hc).1
   rw[q] at this;cases this
  have tupOk:ObjOk X.prog X.w (upd H s.heap.objs.size (.tup [.int i,x])) h'' s.heap.objs.size (.tup [.int i,x]) :=
   ⟨by show 2<=sizeLine; decide,[.int i tk,y],.cons ⟨tk,rfl⟩ (.cons rx .nil),⟨_,tO,rfl,_,rfl⟩,_,tO,rfl⟩
  have I1:Inv X pins σ (upd H s.heap.objs.size (.tup [.int i,x])) { s with heap:=h'',toks:=tk+1 }:=by
   refine I.step (g':=s.gens) (d':=s.drawn) (t':=tk+1) (ch:=[e,it]) (fun c hc=>⟨(hf c hc).2.2.2.1,(hf c hc).2.1,(hf c hc).2.2.2.2.1,(hf c hc).2.2.2.2.2⟩) (fun c o _ _ hc q _=>kk' c o hc q) (fun c o _ _ hc q _=>⟨o.slots,kk' c o hc q⟩)
    (fun c o _ q n=>by rw[upd_ne (Nat.ne_of_lt (Heap.lt_size q))]; exact n) (fun c o hc q=>⟨o,kk' c o hc q⟩) (fun c vs q=>by rw[upd_ne (ne_of_none q hn)]; exact q) (fun c o vs q=>by rw[upd_ne (ne_of_none q hn)]; exact q)
    (fun c ps q=>⟨#[],by rw[upd_ne (ne_of_none q hn),q]; simp⟩) (fun m hm=>?_) (fun c o q=>?_) I.bare
   ·obtain⟨o,es',ep,ho,r⟩:=hm;exact⟨o,es',ep,kk' _ o (fun q=>(hf _ q).2.1 rfl) ho,r⟩
   ·by_cases hcs:c=s.heap.objs.size
    ·subst hcs;rw[za1] at q;cases q;exact tupOk
    ·rw[upd_ne hcs] at q;refine(I.hok c o q).stay (fun d v hd z=>kk' d v ?_ z) (fun d z=>by rw[upd_ne (ne_of_none z hn)]; exact z) fun d vs z=>by rw[upd_ne (ne_of_none z hn)]; exact z
     rcases hd with hd | hd
     ·rw[hd]; exact nt c o q
     ·exact nt d _ hd
  have g2:h''.IsTupleIter it a (i+1):=by
   obtain⟨⟨o,g,r⟩,_⟩:=a2;exact⟨o,(sb.2 _ (Ne.symm hei)).trans g,r⟩
  have g1:IsEnum h'' e it (((i+1:Nat)):Int) y:=by
   have:((i+1:Nat):Int)=(i:Int)+1:=by omega
   rw[this];exact b1
  exact⟨.ref s.heap.objs.size,_,I1,rfl,⟨_,x,rfl,hn,rfl,fun xs' q=>by rw[qa] at q; cases q; exact hx⟩,⟨⟨_,g1⟩,g2⟩,fun c hc=>by
   have:c≠s.heap.objs.size:=by
    simp only[List.mem_cons,List.not_mem_nil,or_false] at hc;rcases hc with rfl | rfl
    ·exact Ne.symm hse
    ·exact Ne.symm hsi
   rw[upd_ne this];exact(hf c hc).1⟩
 done:=by
  intro X hP hw hK hc i pins s σ H E I hf st hg;subst hP hw hK;obtain⟨xs,qa,hl⟩:=hg;obtain⟨its,rv,pa,_⟩:=I.tuple (SqT.of (K:=X.K) qa);obtain⟨⟨old,h1⟩,h2⟩:=st;have nia:a≠it:=fun z=>by
   have:=(hf it (by simp)).1
   rw[<-z,qa] at this;cases this
  have D:Draws X.prog X.w X.A.in1 it [it,a] its.toArray.size (fun i v=>its.toArray[i]?=some v) (fun i h=>h.IsTupleIter it a i/\h.IsTuple a its.toArray):=drawsT (show X.A.in1.handled=none from I.ok.hd hc) it a nia its.toArray;have hi:its.toArray.size=i:=by
   rw[List.size_toArray,<-rv.length];exact hl
  obtain⟨f0,f1,f2,f3,f4,f5⟩:=hf it (by simp);refine wpAny_pyNext_enum_endD D h1 (by rw[hi]; exact⟨h2,pa⟩) fun h' k=>⟨rfl,I.turned (t':=s.toks) (fun b o hb q=>k b o hb q) f0 f1 f3 f4 f5⟩
 self:=fun _ _ _ _ _ st h=>by
  obtain⟨⟨old,h1⟩,_⟩:=st;exact wpAny_pyIter_enum h1 h
def iEnum(ta:TA):TI:=fun σ H R=>ta σ H fun vs H1=>∃a xs,vs=[.ref a]/\H1 a=some (.tup xs)/\R (Ite a) H1
theorem zih{es:List PySem.Expr}{kk:Nat}{tpos:Pos}{a:PySem.Expr}{ta:TA}{p pos:Pos}(hg:Gl X "enumerate")(hm:X.mg "enumerate" = none)(ha:PA X [a] ta)(hs:starEach [a] X.env=[(false,eval a X.env)]:=by rfl):
  PI X (.Tuple es kk tpos) (.Call (.Name "enumerate" p) [a] [] pos) (iEnum ta):=by
 intro pins s σ H R I h;refine Call_ (zhp I hg hm PyProof.Rows.boot_enumerate (PyProof.Rows.callWith_type1 (thn (ha pos pins s σ H _ I h) fun us s1 ⟨vs,H1,I1,r1,q1⟩=>?_) hs rfl));obtain⟨la,xs,e,qa,q⟩:=q1;subst e;obtain⟨u1,rfl,ra⟩:=vals1 r1;cases ra;obtain⟨its,rv,pa,_⟩:=I1.tuple (SqT.of (K:=X.K) qa);refine zl2 pa fun h' z1 z2 zk=>wpAny_pyIter_enum z1 ?_
 have I2:Inv X pins σ H1 { s1 with heap:=h' }:=I1.kept (t':=s1.toks) zk;refine⟨s1.heap.objs.size+1,_,_,_,H1,rfl,I2,zla (Nat.succ_ne_self _),⟨⟨_,z1⟩,z2⟩,fun c hc=>?_,q⟩;have hge:s1.heap.objs.size<=c:=by
  simp only[List.mem_cons,List.not_mem_nil,or_false] at hc;rcases hc with rfl | rfl <;> omega
 exact I1.fpOk (H':=H1) hge (I1.hok.fresh hge)
theorem zgx {a:Addr} {xs:List V} {g:TG} {tb:TS} {D:Ends} {σ:St} {H:Hp} (Pv:Nat->St->Hp->Prop) (h0:Pv 0 σ H) (hl:∀i σ H,i<=xs.length->Pv i σ H->H a=some (.tup xs))
  (hs:∀i x σ H p,xs[i]?=some x->Pv i σ H->H p=none->g (.ref p) σ (upd H p (.tup [.int i,x])) fun σ2 H2=>tb { D with nx:=Pv (i+1),ct:=Pv (i+1),bk:=D.nx } σ2 H2) (hd:∀σ H,Pv xs.length σ H->D.nx σ H) :
  ∃W:Nat->Nat->St->Hp->Prop,(∃m,W 0 m σ H)/\∀i m σ H,W i m σ H →
   ((Ite a).stop i H/\D.nx σ H)\/((Ite a).go i H/\∃N:St->Hp->Prop,(∀σ' H',N σ' H'->∃m',m' < m/\W (i+1) m' σ' H')/\∀x H',(Ite a).yld i H x H'->g x σ H' fun σ2 H2=>tb { D with nx:=N,ct:=N,bk:=D.nx } σ2 H2):=by
 refine⟨fun i m σ H=>m=xs.length-i/\i<=xs.length/\Pv i σ H,⟨xs.length,by simp,Nat.zero_le _,h0⟩,?_⟩;rintro i m σ H ⟨rfl,hi,p⟩;have qa:=hl i σ H hi p;rcases Nat.lt_or_ge i xs.length with hlt | hge
 ·refine .inr ⟨⟨xs,xs[i],qa,by simp[hlt]⟩,Pv (i+1),fun σ' H' p'=>⟨xs.length-(i+1),by omega,rfl,hlt,p'⟩,fun v H' yl=>?_⟩;obtain⟨pa,x,rfl,hp,rfl,hx⟩:=yl;exact hs i x σ H pa (hx xs qa) p hp
 ·obtain rfl:i=xs.length:=by omega
  exact .inl ⟨⟨xs,qa,rfl⟩,hd σ H p⟩
def rInsert:V->List V->Hp->VK->Prop:=fun x vs H Q=>∃l xs k y,x=.ref l/\vs=[.int k,y]/\H l=some (.lst xs)/\0<=k/\k<=xs.length/\xs.length<1000000/\Q .non (upd H l (.lst (xs.take k.toNat++y :: xs.drop k.toNat)))
theorem zmb:MtM X "list.insert" rInsert:=by
 intro pins s σ H x vs v us Q I rx rv h;obtain⟨l,xs,k,y,rfl,rfl,hH,k0,k1,hz,q⟩:=h;cases rx;obtain⟨u1,u2,rfl,r1,r2⟩:=vals2 rv;obtain⟨t,rfl⟩:=r1;obtain⟨z,its,n,r,hl,e⟩:=I.lstM hH;have hzs:its.length<=sizeLine:=by rw[<-hl]; exact z
 have hfit:¬(!Builtin.List.listFitsIndex k)=true:=by
  unfold Builtin.List.listFitsIndex;simp only[Bool.not_eq_true,Bool.not_eq_false',Bool.and_eq_true,decide_eq_true_eq];omega
 refine call_meets PySem.F.slot_list_insert ⟨_,e,rfl⟩ PySem.F.entry_list_insert (PySem.F.args_list_insert_3 _ _ _) (AutoSeq1.list_insert_list_int_val_1 l its.toArray n k t u2 hfit (by rw[List.size_toArray]; exact hzs)) ⟨e,?_⟩;refine⟨.non,_,I.lset (its':=its.take k.toNat++u2 :: its.drop k.toNat) hH e ?_ ((r.take _).append (.cons r2 (r.drop _))) ?_,rfl,q⟩
 ·have hk:¬k<0:=by omega
  have hm:min k.toNat its.toArray.size=k.toNat:=by rw[List.size_toArray]; omega
  simp only[if_neg hk,hm];apply Array.toList_inj.mp;simp;exact List.take_of_length_le (by simp)
 ·rw[List.length_append,List.length_cons,List.length_take,List.length_drop];rw[sizeLine_eq] at *;omega
theorem znf(hc:X.calm=true):CallR X (.builtin "min") (fun xs H Q=>∃(p:Addr) (ns:List Int),xs=[.ref p]/\H p=some (.tup (ns.map V.int))/\0<ns.length/\∀m,m∈ns->(∀a∈ns,m<=a)->Q (.int m) H):=by
 intro pins s σ H xs us Q I r h;obtain⟨p,ns,rfl,hp,hne,q⟩:=h;obtain⟨u,rfl,r1⟩:=vals1 r;cases r1;obtain⟨its,rv,pa,_⟩:=I.tuple (SqT.of (K:=X.K) hp);have hlen:its.length=ns.length:=by rw[<-rv.length,List.length_map]
 have hlt:p<s.heap.objs.size:=by
  obtain⟨o,ho,_⟩:=id pa;exact Heap.lt_size ho
 have num:∀i v,its.toArray[i]?=some v->∃t,v=.int (ns.getD i 0) t/\i<ns.length:=fun i v hv=>by
  rw[List.getElem?_toArray] at hv;have hi:i<its.length:=(List.getElem?_eq_some_iff.mp hv).1;have hi2:i<ns.length:=by omega
  have hx:(ns.map V.int)[i]?=some (.int ns[i]):=by rw[List.getElem?_map,List.getElem?_eq_getElem hi2]; rfl
  obtain⟨u,hu,ru⟩:=rv.get hx;rw[hu] at hv;obtain rfl:u=v:=Option.some.inj hv;obtain⟨t,rfl⟩:=ru;exact⟨t,by rw[List.getD_eq_getElem?_getD,List.getElem?_eq_getElem hi2]; rfl,hi2⟩
 refine call_min_walk (wpAny_pyIter_tuple pa ?_);refine⟨s.heap.objs.size,_,_,_,_,_,fun i j=>decide (ns.getD i 0<ns.getD j 0),rfl,Walks.tuple (show X.A.in1.handled=none from I.ok.hd hc) _ p (Nat.ne_of_lt hlt) its.toArray,⟨⟨_,Heap.get?_push_size _ rfl,rfl,rfl⟩,pa.push _⟩,fun b hb=>?_,by rw[List.size_toArray]; omega,fun i j vi vj s' Q' E' hi hj hQ'=>?_,fun v h' tk hv k=>?_⟩
 ·simp only[List.mem_cons,List.not_mem_nil,or_false] at hb;rw[Heap.size_push];rcases hb with rfl | rfl
  ·exact Nat.lt_succ_self _
  ·exact Nat.lt_succ_of_lt hlt
 ·obtain⟨t1,rfl,_⟩:=num i vi hi;obtain⟨t2,rfl,_⟩:=num j vj hj;exact lt_int hQ'
 ·obtain⟨t,rfl,hb⟩:=num _ v hv;obtain⟨h1,h2⟩:=argBest_lt (fun i=>ns.getD i 0) (its.toArray.size-1);refine⟨.int _,H,I.kept fun b o eb=>?_,⟨t,rfl⟩,q _ (getD_mem hb) fun a ha=>?_⟩
  ·exact k b o (fun z=>by
    have:b=s.heap.objs.size:=by simpa using z
    exact absurd (Heap.lt_size eb) (by rw[this]; exact Nat.lt_irrefl _)) (Heap.get?_push_of_some _ eb)
  ·obtain⟨j,hj,rfl⟩:=mem_getD ha;exact h2 j (by rw[List.size_toArray]; omega)
end
section
variable {X:Cx}
def ItEl(a : Addr): It :=
  ⟨fun i H => ∃xs x, H a = some (.lst xs) /\ xs[i]? = some x,
   fun i H v H' => ∃p x, v = .ref p /\ H p = none /\ H' = upd H p (.tup [.int i, x]) /\ ∀xs, H a = some (.lst xs) → xs[i]? = some x,
   fun i H => ∃xs, H a = some (.lst xs) /\ xs.length = i⟩
theorem zkb{P:Program}{w:World}{K:PySem.W.Frag}{es:List PySem.Expr}{kk:Nat}{pos:Pos}{a e it:Addr}(hei:e≠it):
  Turn P w K (.Tuple es kk pos) (ItEl a) [e,it] e (fun i h=>(∃old,IsEnum h e it ((i:Nat):Int) old)/\h.IsListIter it a i) where
 mem:=by simp
 obj:=fun i h st c hc=>by
  obtain⟨⟨old,h1⟩,o2,h2,_,d2⟩:=st;simp only[List.mem_cons,List.not_mem_nil,or_false] at hc;rcases hc with rfl | rfl
  ·exact⟨_,h1,fun v z=>by have z':Data.fields _=Data.cell v:=z; cases z'⟩
  ·exact⟨_,h2,fun v z=>by rw[d2] at z; cases z⟩
 keep:=fun i h h' st k=>by
  obtain⟨⟨old,h1⟩,o2,h2,r⟩:=st;exact⟨⟨old,k e (by simp) _ h1⟩,o2,k it (by simp) _ h2,r⟩
 item:=by
  intro X hP hw hK hc i pins s σ H E I hf st hg;subst hP hw hK;obtain⟨xs,x,qa,hx⟩:=hg;obtain⟨its,rv,pa,_⟩:=I.list (SqL.of (K:=X.K) qa);obtain⟨ux,hux,rx⟩:=rv.get hx;obtain⟨⟨old,h1⟩,h2⟩:=st;have nea:e≠a:=fun z=>by
   have:=(hf e (by simp)).1
   rw[z,qa] at this;cases this
  have nia:a≠it:=fun z=>by
   have:=(hf it (by simp)).1
   rw[<-z,qa] at this;cases this
  have hlt:i<its.toArray.size:=by
   rw[List.size_toArray];exact(List.getElem?_eq_some_iff.mp hux).1
  have D:Draws X.prog X.w X.A.in1 it [it,a] its.toArray.size (fun i v=>its.toArray[i]?=some v) (fun i h=>h.IsListIter it a i/\h.IsList a its.toArray):=Draws.list (show X.A.in1.handled=none from I.ok.hd hc) it a nia its.toArray;refine wpAny_pyNext_enum_itemD D h1 ⟨h2,pa.isList⟩ hlt hei (by simp[hei,nea]) fun y h' tk hy a1 a2 a3 a4 k=>?_
  have hyx:y=ux:=by
   have q1:its.toArray[i]?=some y:=hy;rw[List.getElem?_toArray,hux] at q1;exact(Option.some.inj q1).symm
  subst hyx;refine⟨_,rfl,wpAny_letOwnedTupleGo_enum a1 fun h'' b1 sb=>?_⟩;have sb:Heap.SameBut e h' h'':=sb;have hse:s.heap.objs.size≠e:=Nat.ne_of_gt (Heap.lt_size h1);have hsi:s.heap.objs.size≠it:=by
   obtain⟨o,g,_⟩:=id h2;exact Nat.ne_of_gt (Heap.lt_size g)
  have hn:H s.heap.objs.size=none:=I.hok.fresh (Nat.le_refl _);have kk':∀c o,c∉[e,it]->s.heap.get? c=some o->h''.get? c=some o:=fun c o hc q =>
   (sb.2 c fun z=>hc (by simp[z])).trans (k c o (fun z=>hc (by simp[z])) (fun z=>hc (by simp[z])) q)
  have tO:h''.get? s.heap.objs.size=some { cls:=.type "tuple",data:=.seq #[.int i tk,y] }:=(sb.2 _ hse).trans a3;have nt:∀c u,H c=some u->c∉[e,it]:=fun c u q hc=>by
   have:=(hf c hc).1
   rw[q] at this;cases this
  have tupOk:ObjOk X.prog X.w (upd H s.heap.objs.size (.tup [.int i,x])) h'' s.heap.objs.size (.tup [.int i,x]) :=
   ⟨by show 2<=sizeLine; decide,[.int i tk,y],.cons ⟨tk,rfl⟩ (.cons rx .nil),⟨_,tO,rfl,_,rfl⟩,_,tO,rfl⟩
  have I1:Inv X pins σ (upd H s.heap.objs.size (.tup [.int i,x])) { s with heap:=h'',toks:=tk+1 }:=by
   refine I.step (g':=s.gens) (d':=s.drawn) (t':=tk+1) (ch:=[e,it]) (fun c hc=>⟨(hf c hc).2.2.2.1,(hf c hc).2.1,(hf c hc).2.2.2.2.1,(hf c hc).2.2.2.2.2⟩) (fun c o _ _ hc q _=>kk' c o hc q) (fun c o _ _ hc q _=>⟨o.slots,kk' c o hc q⟩)
    (fun c o _ q n=>by rw[upd_ne (Nat.ne_of_lt (Heap.lt_size q))]; exact n) (fun c o hc q=>⟨o,kk' c o hc q⟩) (fun c vs q=>by rw[upd_ne (ne_of_none q hn)]; exact q) (fun c o vs q=>by rw[upd_ne (ne_of_none q hn)]; exact q)
    (fun c ps q=>⟨#[],by rw[upd_ne (ne_of_none q hn),q]; simp⟩) (fun m hm=>?_) (fun c o q=>?_) I.bare
   ·obtain⟨o,es',ep,ho,r⟩:=hm;exact⟨o,es',ep,kk' _ o (fun q=>(hf _ q).2.1 rfl) ho,r⟩
   ·by_cases hcs:c=s.heap.objs.size
    ·subst hcs;rw[za1] at q;cases q;exact tupOk
    ·rw[upd_ne hcs] at q;refine(I.hok c o q).stay (fun d v hd z=>kk' d v ?_ z) (fun d z=>by rw[upd_ne (ne_of_none z hn)]; exact z) fun d vs z=>by rw[upd_ne (ne_of_none z hn)]; exact z
     rcases hd with hd | hd
     ·rw[hd]; exact nt c o q
     ·exact nt d _ hd
  have g2:h''.IsListIter it a (i+1):=by
   obtain⟨⟨o,g,r⟩,_⟩:=a2;exact⟨o,(sb.2 _ (Ne.symm hei)).trans g,r⟩
  have g1:IsEnum h'' e it (((i+1:Nat)):Int) y:=by
   have:((i+1:Nat):Int)=(i:Int)+1:=by omega
   rw[this];exact b1
  exact⟨.ref s.heap.objs.size,_,I1,rfl,⟨_,x,rfl,hn,rfl,fun xs' q=>by rw[qa] at q; cases q; exact hx⟩,⟨⟨_,g1⟩,g2⟩,fun c hc=>by
   have:c≠s.heap.objs.size:=by
    simp only[List.mem_cons,List.not_mem_nil,or_false] at hc;rcases hc with rfl | rfl
    ·exact Ne.symm hse
    ·exact Ne.symm hsi
   rw[upd_ne this];exact(hf c hc).1⟩
 done:=by
  intro X hP hw hK hc i pins s σ H E I hf st hg;subst hP hw hK;obtain⟨xs,qa,hl⟩:=hg;obtain⟨its,rv,pa,_⟩:=I.list (SqL.of (K:=X.K) qa);obtain⟨⟨old,h1⟩,h2⟩:=st;have nia:a≠it:=fun z=>by
   have:=(hf it (by simp)).1
   rw[<-z,qa] at this;cases this
  have D:Draws X.prog X.w X.A.in1 it [it,a] its.toArray.size (fun i v=>its.toArray[i]?=some v) (fun i h=>h.IsListIter it a i/\h.IsList a its.toArray):=Draws.list (show X.A.in1.handled=none from I.ok.hd hc) it a nia its.toArray;have hi:its.toArray.size=i:=by
   rw[List.size_toArray,<-rv.length];exact hl
  obtain⟨f0,f1,f2,f3,f4,f5⟩:=hf it (by simp);refine wpAny_pyNext_enum_endD D h1 (by rw[hi]; exact⟨h2,pa.isList⟩) fun h' k=>⟨rfl,I.turned (t':=s.toks) (fun b o hb q=>k b o hb q) f0 f1 f3 f4 f5⟩
 self:=fun _ _ _ _ _ st h=>by
  obtain⟨⟨old,h1⟩,_⟩:=st;exact wpAny_pyIter_enum h1 h
def iEnumL(ta:TA):TI:=fun σ H R=>ta σ H fun vs H1=>∃a xs,vs=[.ref a]/\H1 a=some (.lst xs)/\R (ItEl a) H1
theorem zop{es:List PySem.Expr}{kk:Nat}{tpos:Pos}{a:PySem.Expr}{ta:TA}{p pos:Pos}(hg:Gl X "enumerate")(hm:X.mg "enumerate" = none)(ha:PA X [a] ta)(hs:starEach [a] X.env=[(false,eval a X.env)]:=by rfl):
  PI X (.Tuple es kk tpos) (.Call (.Name "enumerate" p) [a] [] pos) (iEnumL ta):=by
 intro pins s σ H R I h;refine Call_ (zhp I hg hm PyProof.Rows.boot_enumerate (PyProof.Rows.callWith_type1 (thn (ha pos pins s σ H _ I h) fun us s1 ⟨vs,H1,I1,r1,q1⟩=>?_) hs rfl));obtain⟨la,xs,e,qa,q⟩:=q1;subst e;obtain⟨u1,rfl,ra⟩:=vals1 r1;cases ra;obtain⟨its,rv,pa,_⟩:=I1.list (SqL.of (K:=X.K) qa);refine call_enumerate_list pa.isList fun h' z1 z2 _ zk=>wpAny_pyIter_enum z1 ?_
 have I2:Inv X pins σ H1 { s1 with heap:=h' }:=I1.kept (t':=s1.toks) zk;refine⟨s1.heap.objs.size+1,_,_,_,H1,rfl,I2,zkb (Nat.succ_ne_self _),⟨⟨_,z1⟩,z2⟩,fun c hc=>?_,q⟩;have hge:s1.heap.objs.size<=c:=by
  simp only[List.mem_cons,List.not_mem_nil,or_false] at hc;rcases hc with rfl | rfl <;> omega
 exact I1.fpOk (H':=H1) hge (I1.hok.fresh hge)
theorem zmy {a:Addr} {xs:List V} {g:TG} {tb:TS} {D:Ends} {σ:St} {H:Hp} (Pv:Nat->St->Hp->Prop) (h0:Pv 0 σ H) (hl:∀i σ H,i<=xs.length->Pv i σ H->H a=some (.lst xs))
  (hs:∀i x σ H p,xs[i]?=some x->Pv i σ H->H p=none->g (.ref p) σ (upd H p (.tup [.int i,x])) fun σ2 H2=>tb { D with nx:=Pv (i+1),ct:=Pv (i+1),bk:=D.nx } σ2 H2) (hd:∀σ H,Pv xs.length σ H->D.nx σ H) :
  ∃W:Nat->Nat->St->Hp->Prop,(∃m,W 0 m σ H)/\∀i m σ H,W i m σ H →
   ((ItEl a).stop i H/\D.nx σ H)\/((ItEl a).go i H/\∃N:St->Hp->Prop,(∀σ' H',N σ' H'->∃m',m' < m/\W (i+1) m' σ' H')/\∀x H',(ItEl a).yld i H x H'->g x σ H' fun σ2 H2=>tb { D with nx:=N,ct:=N,bk:=D.nx } σ2 H2):=by
 refine⟨fun i m σ H=>m=xs.length-i/\i<=xs.length/\Pv i σ H,⟨xs.length,by simp,Nat.zero_le _,h0⟩,?_⟩;rintro i m σ H ⟨rfl,hi,p⟩;have qa:=hl i σ H hi p;rcases Nat.lt_or_ge i xs.length with hlt | hge
 ·refine .inr ⟨⟨xs,xs[i],qa,by simp[hlt]⟩,Pv (i+1),fun σ' H' p'=>⟨xs.length-(i+1),by omega,rfl,hlt,p'⟩,fun v H' yl=>?_⟩;obtain⟨pa,x,rfl,hp,rfl,hx⟩:=yl;exact hs i x σ H pa (hx xs qa) p hp
 ·obtain rfl:i=xs.length:=by omega
  exact .inl ⟨⟨xs,qa,rfl⟩,hd σ H p⟩
end
theorem zaq{i:Nat}{v:V}{σ:L2.St}{H:Hp}{k:L2.St->Hp->Prop}(h:k (σ.set i (some v)) H):gName i v σ H k:=h
theorem zb8{t u:L2.TS}{D:Ends}{σ:L2.St}{H:Hp}(h:∀U:L2.St->Hp->Prop,u D=U->t { D with nx:=U } σ H):tSeq t u D σ H:=h _ rfl
theorem ze6{t:L2.TS}{N c b:L2.St->Hp->Prop}{r:VK}{σ:L2.St}{H:Hp}(h:∀U:L2.St->Hp->Prop,N=U->t { nx:=U,rt:=r,ct:=c,bk:=b } σ H):t { nx:=N,rt:=r,ct:=c,bk:=b } σ H:=h _ rfl
section
variable {a:Addr} {xs:List V} {g:TG} {tb:TS} {D:Ends} {σ:St} {H:Hp}
end
theorem zap {X:Cx} (K:PySem.W.Frag) {o e:PySem.Expr} {es:List PySem.Expr} {to:TE} {t:TA} {name:Str} {apos cpos:Pos} {T id:String} {r:V->List V->Hp->VK->Prop} (pa:PlainAttrs T) (slot:Slot T name id) (hty:typeOf (.builtin id)=pure (.type "method_descriptor")) (hm:MtR X id r) (ho:PE X o to) (ha:PA X (e :: es) t)
  (hbase:attributeBase o name X.env (eval o X.env)=eval o X.env:=by rfl)
  (hfew:((backTo cpos (starEach (e :: es) X.env)).all (fun x=>!x.1) && (backToKw cpos (keywordEach [] X.env)).all (fun x=>x.1.isSome) && decide ((e :: es).length+([]:List Keyword).length+(if ([]:List Keyword).isEmpty then 0 else 1)<30))=true:=by rfl)
  (hline:(apos.endLine == cpos.line)=true:=by rfl) (hs:starEach (e :: es) X.env=(false,eval e X.env) :: starEach es X.env:=by rfl) (hplain:(backTo cpos (starEach es X.env)).any (·.1)=false:=by rfl) (hK:X.K=K:=by rfl) :
  PE X (.Call (.Attribute o name apos) (e :: es) [] cpos) (tBM K T r to t):=by
 subst hK;exact pe_bm pa slot hty hm ho ha hbase hfew hline hs hplain
section
variable {X:Cx}
end
def ItK(t:Bool)(h:Heap)(c a:Addr)(k:Nat):Prop:=if t then h.IsTupleIter c a k else h.IsListIter c a k
def SqK(t:Bool)(h:Heap)(a:Addr)(vs:Array Value):Prop:=if t then h.IsTuple a vs else h.IsList a vs
theorem ItK.ext{t:Bool}{h h':Heap}{c b a:Addr}{k:Nat}(x:ItK t h c a k)(hs:Heap.ExtBut b h h')(n:c≠b):ItK t h' c a k:=by
 cases t
 ·exact Heap.IsListIter.extBut x hs n
 ·exact Heap.IsTupleIter.extBut x hs n
theorem ItK.at{t:Bool}{h h':Heap}{c a:Addr}{k:Nat}(x:ItK t h c a k)(e:∀o,h.get? c=some o->h'.get? c=some o):ItK t h' c a k:=by
 cases t
 ·exact Heap.IsListIter.at x e
 ·exact Heap.IsTupleIter.at x e
theorem ItK.obj{t:Bool}{h:Heap}{c a:Addr}{k:Nat}(x:ItK t h c a k):∃o,h.get? c=some o/\∀v,o.data≠.cell v:=by
 cases t
 ·obtain⟨o,e,_,d⟩:=x;exact⟨o,e,fun v z=>by rw[d] at z; cases z⟩
 ·obtain⟨o,e,_,d⟩:=x;exact⟨o,e,fun v z=>by rw[d] at z; cases z⟩
theorem SqK.ext{t:Bool}{h h':Heap}{b a:Addr}{vs:Array Value}(x:SqK t h a vs)(hs:Heap.ExtBut b h h')(n:a≠b):SqK t h' a vs:=by
 cases t
 ·exact Heap.IsList.extBut x hs n
 ·exact Heap.IsTuple.extBut x hs n
section
variable {prog:Program} {w:World} {A:Around} {E:Value->Shared->Prop} {s:Shared}
end
section
variable {X:Cx}
def SqS(t:Bool)(K:PySem.W.Frag)(H:Hp)(a:Addr)(xs:List V):Prop:=if t then SqT K H a xs else SqL K H a xs
theorem SqK.lt{t:Bool}{h:Heap}{a:Addr}{vs:Array Value}(x:SqK t h a vs):a<h.objs.size:=by
 cases t
 ·obtain⟨o,e,_⟩:=x;exact Heap.lt_size e
 ·obtain⟨o,e,_⟩:=x;exact Heap.lt_size e
theorem SqS.l{K:PySem.W.Frag}{H:Hp}{a:Addr}{xs:List V}(h:H a=some (.lst xs)):SqS false K H a xs:=SqL.of h
theorem SqS.t{K:PySem.W.Frag}{H:Hp}{a:Addr}{xs:List V}(h:H a=some (.tup xs)):SqS true K H a xs:=SqT.of h
end
section
variable {X:Cx}
end
section
variable {prog:Program} {w:World} {A:Around} {E:Value->Shared->Prop} {s:Shared}
end
section
variable {X:Cx}
theorem zj5:∀{ts:List Str} {us:List Value},Vals (ts.map V.str) us->∃ys:List (Str×Tok),us=strValues ys/\ys.map (·.1)=ts
 | [],_,.nil=>⟨[],rfl,rfl⟩
 | t :: r,_,.cons (b:=u) h t'=>by
  obtain⟨k,rfl⟩:=h;obtain⟨ys,rfl,e⟩:=zj5 t';exact⟨(t,k) :: ys,rfl,by rw[List.map_cons,e]⟩
end
end L2
namespace L2
open PySem PySem.Spec PyProof.Rows PySem.W
section
variable {prog:Program} {w:World} {A:Around} {E:Value->Shared->Prop} {K:Frag} {h:Heap} {g:Array GenState} {d:Drawn} {t:Nat} {os:OsState} {a C:Addr} {o:Obj}
structure XCls(K:Frag)(C:Addr):Prop where
 ga:findIn K (.ref C) "__getattribute__" = some (some (.builtin "BaseException.__getattribute__"))
 gt:findIn K (.ref C) "__getattr__" = some none
 cl:findIn K (.ref C) "__class__" = some (some (.builtin "object.__class__"))
 gg:specialIn K (.builtin "object.__class__") "__get__" = some (some (.builtin "getset_descriptor.__get__"))
 tk:takesIn K (.builtin "object.__class__")=some true
 mo:mroIn K C (.type "object")=some true
 mb:mroIn K C (.type "BaseException")=some true
 cd:(clsIn K C).isSome=true
theorem xc_get{R:Result->Shared->Prop}(T:XCls K C)(X:K.In h)(hx:h.get? a=some o)(hc:o.cls=.ref C)(hq:R (.ok (.ret (.ref C))) ⟨h,g,d,t,os⟩):
  codeAny (model prog w) A (.call (.builtin "getset_descriptor.__get__") ⟨[.builtin "object.__class__",.ref a,.ref C],[]⟩) R ⟨h,g,d,t,os⟩:=by
 have L0:Looks (model prog w) h (typeOf (.ref a)) (.ref C):=hc ▸ (Looks.ld hx).andThen .now;have L1:=looks_mroIn (M:=model prog w) X T.mo;refine codeAny_call_builtin KF.slot_gs.plain KF.entry_gs (KF.slot_gs.check _ _ _ _ _ _ _ _ KF.type_class (KF.args_gs _ _ _) ?_);unfold Builtin.«getset_descriptor.__get__» Builtin.Getset_descriptor.descrGet; rw[dga_obj];refine wpAny_bind (wpAny_pure ?_); unfold Builtin.Getset_descriptor.descrGetter Builtin.Getset_descriptor.descrCheckInstance Builtin.Getset_descriptor.descrNameAndClass isInstance;simp only[KF.owner_class]
 repeat lk
 refine⟨Code.quiet_builtin _ (by decide +kernel),codeAny_builtin KF.entry_class ?_⟩;unfold Builtin.«object.__class__» shownTypeOf; repeat lk
 exact hq
theorem znp{tk:Tok}{Q:Fin->Shared->Prop}(T:XCls K C)(X:K.In h)(hx:h.get? a=some o)(hc:o.cls=.ref C)(hq:Q (.done (.ret (.ref C))) ⟨h,g,d,t,os⟩):
  wpAny (model prog w) A (Builtin.«object.__getattribute__» ⟨[.ref a,.str "__class__" tk],[]⟩) Q E ⟨h,g,d,t,os⟩:=by
 have L1:=looks_findIn (M:=model prog w) X T.cl;have L2:=looks_specialIn (M:=model prog w) X T.gg;have L3:=looks_takesIn (M:=model prog w) X T.tk
 repeat (any_goals (first | assumption | (with_reducible refine wpAny_loadPart_at hx ?_; rw[hc]) | with_reducible refine L1.at ?_ | with_reducible refine L2.at ?_ | with_reducible refine L3.at ?_ | wp_step))
 refine xc_get T X hx hc ?_
 repeat (any_goals (first | assumption | wp_step))
theorem zj4{nameV:Value}{Q:Unit->Shared->Prop}(T:XCls K C)(X:K.In h)(hx:h.get? a=some o)(hc:o.cls=.ref C)(hq:Q () ⟨h,g,d,t,os⟩):wpAny (model prog w) A (checkBuiltinCall "BaseException.__getattribute__" ⟨[.ref a,nameV],[]⟩) Q E ⟨h,g,d,t,os⟩:=by
 have kd:builtinKind "BaseException.__getattribute__" = some .slot:=by decide +kernel
 have sp:splitId "BaseException.__getattribute__" = some ("BaseException","__getattribute__"):=by decide +kernel
 have L1:=looks_mroIn (M:=model prog w) X T.mb;have ar:=PySem.F.args_bexc_ga (.ref a) nameV;simp only[checkBuiltinCall,kd,sp];refine wpAny_bind ?_; unfold isInstance
 repeat (first | (with_reducible refine wpAny_loadPart_at hx ?_; rw[hc]) | with_reducible refine L1.at ?_ | wp_step)
 exact hq
theorem zqy{tk:Tok}{R:Result->Shared->Prop}(T:XCls K C)(X:K.In h)(hx:h.get? a=some o)(hc:o.cls=.ref C)(hq:R (.ok (.ret (.ref C))) ⟨h,g,d,t,os⟩):
  codeAny (model prog w) A (.call (.builtin "BaseException.__getattribute__") ⟨[.ref a,.str "__class__" tk],[]⟩) R ⟨h,g,d,t,os⟩ :=
 codeAny_call_builtin PySem.F.excAttr_ValueError.ga.plain PySem.F.entry_bexc_ga (zj4 T X hx hc (znp T X hx hc hq))
theorem xc_by{tk:Tok}{fill expr:Bool}{Q:Value->Shared->Prop}(T:XCls K C)(X:K.In h)(hx:h.get? a=some o)(hc:o.cls=.ref C)(hq:Q (.ref C) ⟨h,g,d,t,os⟩):
  wpAny (model prog w) A (getAttrBy (.ref a) (.str "__class__" tk) fill expr) Q E ⟨h,g,d,t,os⟩:=by
 have f3:=PySem.F.excAttr_ValueError.ga.bind (.ref a);have y0:(expr && onTheHeap (Value.builtin "BaseException.__getattribute__"))=false:=by cases expr <;> rfl
 have y2:(Value.builtin "BaseException.__getattribute__" == Value.builtin "object.__getattribute__")=false:=by decide +kernel
 have y1:(onTheHeap (Value.ref C) && Value.builtin "BaseException.__getattribute__" == Value.builtin "object.__getattribute__")=false:=by rw[y2]; rfl
 have L1:=looks_findIn (M:=model prog w) X T.ga;have L2:=looks_findIn (M:=model prog w) X T.gt
 repeat (any_goals (first | assumption | (with_reducible refine wpAny_loadPart_at hx ?_; rw[hc]) | with_reducible refine L1.at ?_ | with_reducible refine L2.at ?_ | wp_step))
 refine zqy T X hx hc ?_
 repeat (any_goals (first | assumption | wp_step))
theorem zqz{Q:Option Value->Shared->Prop}(T:XCls K C)(X:K.In h)(hx:h.get? a=some o)(hc:o.cls=.ref C)(hq:Q (some (.ref C)) ⟨h,g,d,t+1,os⟩):
  wpAny (model prog w) A (getAttr? (.ref a) "__class__") Q E ⟨h,g,d,t,os⟩:=by
 unfold getAttr? getAttrBy?;refine wpAny_bind (wpAny_mkText (wpAny_bind (wpAny_attempt (xc_by T X hx hc (wpAny_pure hq)))))
theorem zpc(T:XCls K C):KitX K (.ref a) (.ref C) (fun h=>∃o,h.get? a=some o/\o.cls=.ref C) where
 ty:=fun M h _ ⟨o,h1,h2⟩=>h2 ▸ (Looks.ld h1).andThen .now
 it:=fun _ _ X _=>by
  obtain⟨cdD,hcD⟩:=Option.isSome_iff_exists.mp T.cd;unfold clsIn at hcD;split at hcD
  ·rename_i c' d' cd' sl' ho
   intro A' Q' E' s' k q;unfold isType loadHead;exact wpAny_bind (wpAny_loadPart (k _ _ (X _ _ ho)) (wpAny_pure q))
  ·cases hcD
 ne:=fun h tp dd its n sl X htp=>by
  obtain⟨cdD,hcD⟩:=Option.isSome_iff_exists.mp T.cd;refine Bool.eq_false_iff.mpr fun q=>?_
  obtain rfl:C=tp:=Value.ref.inj (beq_iff_eq.mp q);unfold clsIn at hcD;split at hcD
  ·rename_i c' d' cd' sl' ho
   cases (X _ _ ho).symm.trans htp
  ·cases hcD
 ca:=fun {_ _ _ _ _ s} X p k=>by
  obtain⟨hh,g,d,t,os⟩:=s;obtain⟨o,h1,h2⟩:=p;exact zqz T X h1 h2 k
end
section
variable {X:Cx}
def rIsiE(K:PySem.W.Frag)(c:V)(cv:Value):List V->Hp->VK->Prop:=fun xs H Q=>∃(a C:Addr) (od:Option Addr) (b:Bool),xs=[.ref a,c]/\H a=some (excO a (.ref C) od)/\XCls K C/\PySem.W.kitOne K (.ref C) cv=some b/\Q (.bl b) H
theorem zct{c:V}{cv:Value}(hc:∀u,RelV c u->u=cv):CallR X (.builtin "isinstance") (rIsiE X.K c cv):=by
 intro pins s σ H xs us Q I r h;obtain⟨a,C,od,b,rfl,ha,T,e,q⟩:=h;obtain⟨u,w',rfl,r1,r2⟩:=vals2 r;cases hc w' r2;cases r1;obtain⟨⟨o,ho,hcl,_⟩,_,_⟩:=I.hok a _ ha;exact PySem.W.kia_one (zpc T) I.kIn ⟨o,ho,hcl⟩ e (fun z=>nomatch z) fun tk=>⟨.bl b,H,I.tok _,rfl,q⟩
end
section
variable {prog:Program} {w:World} {A:Around} {E:Value->Shared->Prop} {K:Frag} {h:Heap} {g:Array GenState} {d:Drawn} {t:Nat} {os:OsState} {a C dx:Addr} {o:Obj} {f:Str} {v:Value} {vs:Array Value} {m:Str->Option Value}
structure XGet(K:Frag)(C:Addr)(f:Str):Prop where
 c:XCls K C
 no:findIn K (.ref C) f=some none
 di:((clsIn K C).any fun cd=>cd.hasDict)=true
theorem zqw{Q:Builtin.ObjectAttr.Found->Shared->Prop}(T:XGet K C f)(X:K.In h)(hx:h.get? a=some o)(hc:o.cls=.ref C)(hf:o.data=.fields vs)(hd:o.dict=some dx)(hN:h.Ns dx m)(hm:m f=some v)(hq:Q (.value v) ⟨h,g,d,t,os⟩):
  wpAny (model prog w) A (Builtin.ObjectAttr.find (.ref a) (.ref C) f) Q E ⟨h,g,d,t,os⟩:=by
 obtain⟨cd,hcd,hhd⟩:=any_some T.di;unfold Builtin.ObjectAttr.find;refine wpAny_bind ((looks_findIn X T.no).at (wpAny_bind (wpAny_pure (wpAny_bind (wpAny_pure ?_)))));unfold Builtin.ObjectAttr.ownThenClass Builtin.ObjectAttr.inOwnDict Builtin.ObjectAttr.ownDict Builtin.ObjectAttr.inDict;refine wpAny_bind (wpAny_bind (wpAny_bind ?_));unfold loadHead;refine wpAny_loadPart hx ?_;rw[hf];dsimp only;unfold instanceDict;refine wpAny_bind (wpAny_loadPart hx ?_);rw[hc,hd];dsimp only;refine wpAny_bind ((looks_clsIn X hcd).at ?_);rw[hhd];simp only[Bool.not_true,Bool.false_eq_true,if_false];refine wpAny_bind (wpAny_pure (wpAny_pure ?_));dsimp only;refine wpAny_nsGet hN ?_;rw[hm];exact wpAny_bind (wpAny_rule (wpAny_pure hq))
theorem zno{tk:Tok}{Q:Fin->Shared->Prop}(T:XGet K C f)(X:K.In h)(hx:h.get? a=some o)(hc:o.cls=.ref C)(hf:o.data=.fields vs)(hd:o.dict=some dx)(hN:h.Ns dx m)(hm:m f=some v)(hq:Q (.done (.ret v)) ⟨h,g,d,t,os⟩):
  wpAny (model prog w) A (Builtin.«object.__getattribute__» ⟨[.ref a,.str f tk],[]⟩) Q E ⟨h,g,d,t,os⟩:=by
 have L0:Looks (model prog w) h (typeOf (.ref a)) (.ref C):=hc ▸ (Looks.ld hx).andThen .now;unfold Builtin.«object.__getattribute__»;refine wpAny_bind (wpAny_pure ?_);dsimp only;refine wpAny_bind (wpAny_pure (wpAny_bind (L0.at (wpAny_bind (zqw T X hx hc hf hd hN hm ?_)))));exact wpAny_pure hq
theorem zqx{tk:Tok}{R:Result->Shared->Prop}(T:XGet K C f)(X:K.In h)(hx:h.get? a=some o)(hc:o.cls=.ref C)(hf:o.data=.fields vs)(hd:o.dict=some dx)(hN:h.Ns dx m)(hm:m f=some v)(hq:R (.ok (.ret v)) ⟨h,g,d,t,os⟩):
  codeAny (model prog w) A (.call (.builtin "BaseException.__getattribute__") ⟨[.ref a,.str f tk],[]⟩) R ⟨h,g,d,t,os⟩ :=
 codeAny_call_builtin PySem.F.excAttr_ValueError.ga.plain PySem.F.entry_bexc_ga (zj4 T.c X hx hc (zno T X hx hc hf hd hN hm hq))
theorem xf_by{tk:Tok}{fill expr:Bool}{Q:Value->Shared->Prop}(T:XGet K C f)(X:K.In h)(hx:h.get? a=some o)(hc:o.cls=.ref C)(hf:o.data=.fields vs)(hd:o.dict=some dx)(hN:h.Ns dx m)(hm:m f=some v)(hh:handedIn v=true)(hq:Q v ⟨h,g,d,t,os⟩):
  wpAny (model prog w) A (getAttrBy (.ref a) (.str f tk) fill expr) Q E ⟨h,g,d,t,os⟩:=by
 have f3:=PySem.F.excAttr_ValueError.ga.bind (.ref a);have y0:(expr && onTheHeap (Value.builtin "BaseException.__getattribute__"))=false:=by cases expr <;> rfl
 have y2:(Value.builtin "BaseException.__getattribute__" == Value.builtin "object.__getattribute__")=false:=by decide +kernel
 have y1:(onTheHeap (Value.ref C) && Value.builtin "BaseException.__getattribute__" == Value.builtin "object.__getattribute__")=false:=by rw[y2]; rfl
 have L1:=looks_findIn (M:=model prog w) X T.c.ga;have L2:=looks_findIn (M:=model prog w) X T.c.gt
 repeat (any_goals (first | assumption | (with_reducible refine wpAny_loadPart_at hx ?_; rw[hc]) | with_reducible refine L1.at ?_ | with_reducible refine L2.at ?_ | wp_step))
 refine zqx T X hx hc hf hd hN hm ?_
 repeat (any_goals (first | assumption | wp_step))
 have e:=handedOut_of hh;unfold handedOut at e;rw[e];exact wpAny_pure hq
end
section
variable {X:Cx} {e:PySem.Expr} {f:Str} {pos:Pos} {ta:TE}
def tFldX(K:PySem.W.Frag)(ta:TE)(f:Str):TE:=fun σ H Q=>ta σ H fun x H1=>∃a C dx fs v,x=.ref a/\H1 a=some (excO a (.ref C) (some dx))/\H1 dx=some (.xd fs)/\XGet K C f/\fs.lookup f=some v/\Q v H1
theorem zdk(he:PE X e ta)(hb:attributeBase e f X.env (eval e X.env)=eval e X.env):PE X (.Attribute e f pos) (tFldX X.K ta f):=by
 intro pins s σ H Q I h;refine zsw hb (thn (he pins s σ H _ I h) fun u s1 ⟨x,H1,I1,rx,a,C,dx,fs,v,ex,ea,ed,T,l,q⟩=>?_);subst ex;obtain rfl:u=Value.ref a:=rx;obtain⟨⟨o,ho,hcl,hd,vs,hf⟩,_,_⟩:=I1.hok a _ ea;obtain⟨m,hN,hm⟩:=I1.hok dx _ ed;obtain⟨u',hu,ru⟩:=RelO.some_of (v:=v) (o:=m f) (by rw[<-l]; exact hm f);obtain⟨hp,g,d,tk,os⟩:=s1;unfold getAttr;refine wpAny_bind (wpAny_mkText ?_);exact xf_by T I1.kIn ho hcl hf hd hN.ns hu (zmu ru) ⟨v,H1,I1.tok _,ru,q⟩
end
end L2
namespace My
open PySem L2
def del(H:Hp)(a:Addr):Hp:=fun b=>if b=a then none else H b
theorem zcg(H:Hp)(a:Addr):del H a a=none:=if_pos rfl
theorem zdh{H:Hp}{a b:Addr}(h:b≠a):del H a b=H b:=if_neg h
theorem zeb(H:Hp)(a:Addr):Same (del H a) H:=fun b o e=>by
 by_cases h:b=a
 ·subst h; rw[zcg] at e; cases e
 ·rw[zdh h] at e; exact e
theorem zeu{H H':Hp}(a:Addr)(s:Same H H'):Same (del H a) (del H' a):=fun b o e=>by
 by_cases h:b=a
 ·subst h; rw[zcg] at e; cases e
 ·rw[zdh h] at e ⊢; exact s _ _ e
theorem zn4(H:Hp)(a:Addr)(o:HO):del (upd H a o) a=del H a:=by
 funext b
 by_cases h:b=a
 ·subst h; rw[zcg,zcg]
 ·rw[zdh h,zdh h,upd_ne h]
theorem zsr{H:Hp}{a:Addr}(h:H a=none):del H a=H:=by
 funext b
 by_cases z:b=a
 ·subst z; rw[zcg,h]
 ·exact zdh z
theorem zd6{H:Hp}{a b:Addr}{o:HO}(e:H b=some o)(h:b≠a):del H a b=some o:=by rw[zdh h]; exact e
section
variable {α:Type} {R:Hp->Addr->α->Prop}
def At(R:Hp->Addr->α->Prop)(H:Hp)(bs:List Addr)(xs:List α):Prop:=bs.length=xs.length/\∀(i:Nat) (b:Addr) (x:α),bs[i]?=some b->xs[i]?=some x->R H b x
def Mo(R:Hp->Addr->α->Prop):Prop:=∀{H H':Hp} {b:Addr} {x:α},Same H H'->R H b x->R H' b x
theorem At.nil{H:Hp}:At R H [] []:=⟨rfl,fun i b x e=>by simp at e⟩
theorem At.keep{H H':Hp}{bs:List Addr}{xs:List α}(h:At R H bs xs)(m:Mo R)(s:Same H H'):At R H' bs xs:=⟨h.1,fun i b x e1 e2=>m s (h.2 i b x e1 e2)⟩
theorem At.snoc{H:Hp}{bs:List Addr}{xs:List α}{b:Addr}{x:α}(h:At R H bs xs)(r:R H b x):At R H (bs++[b]) (xs++[x]):=by
 refine⟨by simp[h.1],fun i c y e1 e2=>?_⟩;have hl:=h.1;rcases Nat.lt_or_ge i bs.length with z | z
 ·rw[List.getElem?_append_left z] at e1;rw[List.getElem?_append_left (by omega)] at e2;exact h.2 i c y e1 e2
 ·rw[List.getElem?_append_right z] at e1;rw[List.getElem?_append_right (by omega)] at e2;rw[hl] at e1;cases hi:i-xs.length with
  | zero=>rw[hi] at e1 e2; cases e1; cases e2; exact r
  | succ k=>rw[hi] at e1; simp at e1
theorem At.app{H:Hp}{bs cs:List Addr}{xs ys:List α}(h:At R H bs xs)(g:At R H cs ys):At R H (bs++cs) (xs++ys):=by
 refine⟨by simp[h.1,g.1],fun i c y e1 e2=>?_⟩;have hl:=h.1;rcases Nat.lt_or_ge i bs.length with z | z
 ·rw[List.getElem?_append_left z] at e1;rw[List.getElem?_append_left (by omega)] at e2;exact h.2 i c y e1 e2
 ·rw[List.getElem?_append_right z] at e1;rw[List.getElem?_append_right (by omega)] at e2;rw[hl] at e1;exact g.2 _ c y e1 e2
theorem At.take{H:Hp}{bs:List Addr}{xs:List α}(h:At R H bs xs)(k:Nat):At R H (bs.take k) (xs.take k):=by
 refine⟨by simp[h.1],fun i c y e1 e2=>?_⟩;rw[List.getElem?_take] at e1 e2;split at e1
 ·rename_i hk; rw[if_pos hk] at e2; exact h.2 i c y e1 e2
 ·cases e1
theorem At.drop{H:Hp}{bs:List Addr}{xs:List α}(h:At R H bs xs)(k:Nat):At R H (bs.drop k) (xs.drop k):=by
 refine⟨by simp[h.1],fun i c y e1 e2=>?_⟩;rw[List.getElem?_drop] at e1 e2;exact h.2 _ c y e1 e2
theorem At.set{H:Hp}{bs:List Addr}{xs:List α}{b:Addr}{x:α}(h:At R H bs xs)(k:Nat)(r:R H b x):At R H (bs.set k b) (xs.set k x):=by
 refine⟨by simp[h.1],fun i c y e1 e2=>?_⟩;rw[List.getElem?_set] at e1 e2;by_cases hk:k=i
 ·subst hk;have hl:=h.1;by_cases hb:k<bs.length
  ·rw[if_pos rfl,if_pos hb] at e1;rw[if_pos rfl,if_pos (by omega)] at e2;cases e1; cases e2; exact r
  ·rw[if_pos rfl,if_neg hb] at e1; cases e1
 ·rw[if_neg hk] at e1 e2;exact h.2 _ c y e1 e2
theorem At.get{H:Hp}{bs:List Addr}{xs:List α}{i:Nat}{x:α}(h:At R H bs xs)(e:xs[i]?=some x):∃b,bs[i]?=some b/\R H b x:=by
 have hi:i<bs.length:=by rw[h.1]; exact(List.getElem?_eq_some_iff.mp e).1
 exact⟨bs[i],List.getElem?_eq_getElem hi,h.2 i _ x (List.getElem?_eq_getElem hi) e⟩
theorem At.ref{H:Hp}{bs:List Addr}{xs:List α}{i:Nat}{v:V}(h:At R H bs xs)(e:(bs.map V.ref)[i]?=some v):∃b x,v=.ref b/\bs[i]?=some b/\xs[i]?=some x/\R H b x:=by
 rw[List.getElem?_map] at e;cases q:bs[i]? with
 | none=>rw[q] at e; cases e
 | some b =>
  rw[q] at e;have hi:i<xs.length:=by rw[<-h.1]; exact(List.getElem?_eq_some_iff.mp q).1
  exact⟨b,xs[i],(Option.some.inj e).symm,rfl,List.getElem?_eq_getElem hi,h.2 i b _ q (List.getElem?_eq_getElem hi)⟩
theorem zd4{bs:List Addr}{i:Nat}{b:Addr}(h:bs[i]?=some b):(bs.map V.ref)[i]?=some (.ref b):=by rw[List.getElem?_map,h]; rfl
def TupR(R:Hp->Addr->α->Prop)(H:Hp)(b:Addr)(xs:List α):Prop:=∃bs:List Addr,H b=some (.tup (bs.map V.ref))/\At R H bs xs
theorem zhn(m:Mo R):Mo (TupR R):=fun s ⟨bs,e,h⟩=>⟨bs,s _ _ e,h.keep m s⟩
end
def FrR(H:Hp)(b:Addr)(q:Rat):Prop:=H b=some (.tup [.int q.num,.int q.den])
def IntsL(H:Hp)(b:Addr)(ns:List Int):Prop:=H b=some (.lst (ns.map V.int))
theorem mo_fr:Mo FrR:=fun s h=>s _ _ h
theorem ziq:Mo IntsL:=fun s h=>s _ _ h
theorem FrR.del{H:Hp}{a b:Addr}{q:Rat}{ys:List V}(h:FrR H b q)(e:H a=some (.lst ys)):FrR (del H a) b q:=zd6 h fun z=>by rw[z] at h; unfold FrR at h; rw[e] at h; cases h
structure Run(J:It)(H1:Hp)(n:Nat)(f:Nat->Hp->V->Hp->Prop):Prop where
 go:∀i H2,i<n->Same H1 H2->J.go i H2
 yl:∀i H2 x H3,i<n->Same H1 H2->J.yld i H2 x H3->f i H2 x H3
 st:∀H2,Same H1 H2->J.stop n H2
section
variable {K:PySem.W.Frag}
theorem zgb{H:Hp}{a:Addr}{xs:List V}(h:H a=some (.tup xs)):Run (Itt K a) H xs.length (fun i H2 x H3=>H3=H2/\xs[i]?=some x) :=
 ⟨fun i H2 hi s=>⟨xs,xs[i],SqT.of (s _ _ h),List.getElem?_eq_getElem hi⟩,fun i H2 x H3 _ s y=>⟨y.1,y.2 _ (SqT.of (s _ _ h))⟩,fun H2 s=>⟨xs,SqT.of (s _ _ h),Nat.le_refl _⟩⟩
theorem zek{H:Hp}{a:Addr}{xs:List V}(h:H a=some (.lst xs)):Run (Itl K a) H xs.length (fun i H2 x H3=>H3=H2/\xs[i]?=some x) :=
 ⟨fun i H2 hi s=>⟨xs,xs[i],SqL.of (s _ _ h),List.getElem?_eq_getElem hi⟩,fun i H2 x H3 _ s y=>⟨y.1,y.2 _ (SqL.of (s _ _ h))⟩,fun H2 s=>⟨xs,SqL.of (s _ _ h),Nat.le_refl _⟩⟩
theorem zli{H:Hp}{lo:Int}{n:Nat}:Run (Itr lo n) H n (fun i H2 x H3=>H3=H2/\x=.int (lo+i)):=⟨fun _ _ hi _=>hi,fun _ _ _ _ _ _ y=>y,fun _ _=>Nat.le_refl _⟩
theorem zc1 {J:It} {n:Nat} {H1:Hp} {f:Nat->Hp->V->Hp->Prop} {acc:Addr} {σ0:St} {g:TG} {te:TE} {G:Hp->Prop} (r:Run J H1 n f) (hn:n<=1000) (hacc:H1 acc=none) (Iv:Nat->List V->St->Hp->Prop) (h0:Iv 0 [] σ0 H1)
  (hs:∀(i:Nat) (ys:List V) (σ:St) (H2:Hp) (x:V) (H3:Hp),i<n->Same H1 H2->H2 acc=some (.lst ys)->Iv i ys σ (del H2 acc)->f i H2 x H3->∀C:St->VK,(∀(σ4:St) (v:V) (H5:Hp),Same H2 H5->Iv (i+1) (ys++[v]) σ4 (del H5 acc)->C σ4 v H5) →
   g x σ H3 fun σ4 H4=>te σ4 H4 (C σ4))
  (fin:∀(ys:List V) (σ:St) (H2:Hp),Same H1 H2->H2 acc=some (.lst ys)->ys.length=n->Iv n ys σ (del H2 acc)->G H2) :
  ∃W:Nat->Nat->List V->St->Hp->Prop,(∃m,W 0 m [] σ0 (upd H1 acc (.lst [])))/\∀i m ys σc H2,W i m ys σc H2 →
   (J.stop i H2/\G H2)\/(J.go i H2/\∀x H3,J.yld i H2 x H3->g x σc H3 fun σ4 H4=>te σ4 H4 fun v H5=>H5 acc=some (.lst ys)/\ys.length<sizeLine/\∃m',m' < m/\W (i+1) m' (ys++[v]) σ4 (upd H5 acc (.lst (ys++[v])))):=by
 refine⟨fun i m ys σ H2=>m=n-i/\i<=n/\Same H1 H2/\H2 acc=some (.lst ys)/\ys.length=i/\Iv i ys σ (del H2 acc),⟨n,rfl,Nat.zero_le _,?_,za1,rfl,?_⟩,?_⟩
 ·intro b o e; rw[upd_ne (ne_of_none e hacc)]; exact e
 ·rw[zn4,zsr hacc]; exact h0
 ·rintro i m ys σc H2 ⟨rfl,hi,sm,ha,hl,iv⟩;rcases Nat.lt_or_ge i n with hlt | hge
  ·refine .inr ⟨r.go i H2 hlt sm,fun x H3 yl=>?_⟩;refine hs i ys σc H2 x H3 hlt sm ha iv (r.yl i H2 x H3 hlt sm yl) (fun σ4 v H5=>H5 acc=some (.lst ys)/\ys.length<sizeLine/\∃m',m' < n-i/\(m'=n-(i+1)/\i+1<=n/\Same H1 (upd H5 acc (.lst (ys++[v])))/\(upd H5 acc (.lst (ys++[v]))) acc=some (.lst (ys++[v]))/\(ys++[v]).length=i+1/\Iv (i+1) (ys++[v]) σ4 (del (upd H5 acc (.lst (ys++[v]))) acc))) ?_;intro σ4 v H5 s5 iv5;refine⟨s5 _ _ ha,by rw[sizeLine_eq]; omega,n-(i+1),by omega,rfl,hlt,?_,za1,by simp[hl],?_⟩
   ·intro b o e; rw[upd_ne (ne_of_none e hacc)]; exact s5 _ _ (sm _ _ e)
   ·rw[zn4]; exact iv5
  ·obtain rfl:i=n:=by omega
   exact .inl ⟨r.st H2 sm,fin ys σc H2 sm ha hl iv⟩
end
end My
namespace L2
open PySem PySem.Spec PyProof.Rows
section
variable {X:Cx}
def rJoin:V->List V->Hp->VK->Prop:=fun x vs H Q=>∃(sep:Str) (l:Addr) (ts:List Str),x=.str sep/\vs=[.ref l]/\H l=some (.lst (ts.map V.str))/\(ts.map (·.length)).sum+ts.length*sep.length<=16777216/\Q (.str (Str.join sep ts)) H
theorem zgq:MtM X "str.join" rJoin:=by
 intro pins s σ H x vs v us Q I rx rv h;obtain⟨sep,l,ts,rfl,rfl,hl,hz,q⟩:=h;obtain⟨t,rfl⟩:=rx;obtain⟨u,rfl,ru⟩:=rv.one;cases ru;obtain⟨its,n,rts,e,hz1⟩:=I.lst hl;obtain⟨ys,rfl,ey⟩:=zj5 rts;refine SC.join (texts:=ts) ⟨_,e,rfl,n,rfl⟩ ey (joinOk_of hz) fun t' k=>⟨.str _,H,I.tok _,⟨t',rfl⟩,?_⟩
 show Q (.str (Builtin.Str.glued sep ts)) H;rw[StrLaws.glued_eq_join];exact q
theorem zh4:∀l:List (Str×Tok),Vals ((l.map (·.1)).map V.str) (strValues l)
 | []=>.nil
 | (x,t) :: l=>.cons ⟨t,rfl⟩ (zh4 l)
theorem zqg(x y:Str):(Builtin.Str.partsBetween x (Builtin.Str.occurrences x y 0 x.length (x.length+1)) y.length).length<=x.length+2:=by
 have:=StrLaws.occ_length_le x y 0 x.length (x.length+1)
 simp only[Builtin.Str.partsBetween,List.length_map,List.length_zip,List.length_cons,List.length_append,List.length_nil];omega
def rSplit:V->List V->Hp->VK->Prop:=fun x vs H Q=>∃(z y:Str),x=.str z/\vs=[.str y]/\(y.length == 0)=false/\z.length<=100000/\∀l,H l=none->Q (.ref l) (upd H l (.lst ((Txt.split z y).map V.str)))
theorem zdg:MtM X "str.split" rSplit:=by
 intro pins s σ H x vs v us Q I rx rv h;obtain⟨z,y,rfl,rfl,hy,hz,q⟩:=h;obtain⟨t,rfl⟩:=rx;obtain⟨u,rfl,k,rfl⟩:=rv.one;have hol:=zqg z y;have zl:z.length<=sizeLine:=by rw[sizeLine_eq]; omega
 have fin:∀(l:List (Str×Tok)) (tk:Nat),l.map (·.1)=Txt.split z y->l.length<=200000->EP X pins σ Q (.ref s.heap.objs.size) { s with toks:=tk,heap:=s.heap.push { cls:=.type "list",data:=.seq (strValues l).toArray } }:=fun l tk e hl =>
  ⟨.ref s.heap.objs.size,_,I.laid (t':=tk) (fun b o q=>Heap.get?_push_of_some _ q) (Nat.le_refl _) (show ObjOk X.prog X.w _ _ _ (.lst ((Txt.split z y).map V.str)) from ⟨by rw[<-e,List.length_map,List.length_map,sizeLine_eq]; omega,strValues l,_,by rw[<-e]; exact zh4 l,Heap.get?_push_size _ rfl⟩),rfl,q _ (I.hok.fresh (Nat.le_refl _))⟩
 by_cases h1:(decide (z.length<y.length) || decide (Builtin.Str.strKind z<Builtin.Str.strKind y))=true
 ·exact call_meets F.slot_str_split (typeIs_str _ _ _) F.entry_str_split (F.args_str_split_2 _ _) (meets_str_split_cannot_occur z y t k h1) (fin [(z,t)] s.toks (by unfold Txt.split; rw[if_pos h1]; rfl) (by show 1<=200000; decide))
 ·have h1':=eq_false_of_ne_true h1;by_cases hf:(Builtin.Str.occurrences z y 0 z.length (z.length+1)).isEmpty=true
  ·exact call_meets F.slot_str_split (typeIs_str _ _ _) F.entry_str_split (F.args_str_split_2 _ _) (meets_str_split_not_found z y t k h1' hy hf) (fin [(z,t)] s.toks (by unfold Txt.split; rw[if_neg h1,if_pos hf]; rfl) (by show 1<=200000; decide))
  ·refine call_meets F.slot_str_split (typeIs_str _ _ _) F.entry_str_split (F.args_str_split_2 _ _) (meets_str_split_sep z y t k h1' hy (eq_false_of_ne_true hf) zl (by rw[sizeLine_eq]; omega)) ?_
   have:=fin (numbered s.toks (Builtin.Str.partsBetween z (Builtin.Str.occurrences z y 0 z.length (z.length+1)) y.length)) (s.toks+(Builtin.Str.partsBetween z (Builtin.Str.occurrences z y 0 z.length (z.length+1)) y.length).length) (by unfold Txt.split; rw[if_neg h1,if_neg hf]; exact numbered_texts _ _) (by have e:=congrArg List.length (numbered_texts s.toks (Builtin.Str.partsBetween z (Builtin.Str.occurrences z y 0 z.length (z.length+1)) y.length)); rw[List.length_map] at e; omega)
   rw[<-strsFrom_eq] at this;exact this
theorem zi3:CallR X (.type "int") (fun xs H Q=>∃(z:Str) (n:Int),xs=[.str z]/\PySem.intText? z=some n/\z.length<=640/\Q (.int n) H):=by
 intro pins s σ H xs us Q I r h;obtain⟨z,n,rfl,hn,hl,q⟩:=h;obtain⟨u,rfl,t,rfl⟩:=vals1 r;exact PySem.W.KIN.call_text hn hl ⟨.int n,H,I.tok _,⟨_,rfl⟩,q⟩
def ItT(x:Str):It:=⟨fun i _=>i<x.cps.size,fun i H v H'=>H'=H/\∃c,x.cps[i]?=some c/\v=.str ⟨#[c]⟩,fun i _=>x.cps.size<=i⟩
theorem znt{P:Program}{w:World}{K:PySem.W.Frag}{tg:PySem.Expr}(it:Addr)(x:Str)(t:Tok):Turn P w K tg (ItT x) [it] it (fun i h=>h.IsStrIter it "str_ascii_iterator" x t i) where
 mem:=by simp
 obj:=fun i h st b hb=>by
  obtain rfl:b=it:=by simpa using hb
  obtain⟨o,e,c,d⟩:=st;exact⟨o,e,fun v z=>by rw[d] at z; cases z⟩
 keep:=fun i h h' ⟨o,ho,r⟩ k=>⟨o,k it (by simp) o ho,r⟩
 item:=by
  intro X hP hw hK hc i pins s σ H E I hf st hg;subst hP hw hK;obtain⟨f0,f1,f2,f3,f4,f5⟩:=hf it (by simp);have hg':i<x.cps.size:=hg;have hx:x.cps[i]?=some x.cps[i]:=by simp[hg']
  refine wpAny_pyNext_ascii_item st hx fun h' st' sb=>?_
  have I1:Inv X pins σ H { s with heap:=h',toks:=s.toks+1 }:=I.turned (t':=s.toks+1) (fun b o hb e=>(sb.2 b hb).trans e) f0 f1 f3 f4 f5;obtain⟨o,e,c,d⟩:=id st';exact⟨_,rfl,zpi (s:={ s with heap:=h',toks:=s.toks+1 }) e c d (by decide) ⟨.str ⟨#[x.cps[i]]⟩,H,I1,⟨_,rfl⟩,⟨rfl,_,hx,rfl⟩,st',fun b hb=>(hf b hb).1⟩⟩
 done:=by
  intro X hP hw hK hc i pins s σ H E I hf st hg;subst hP hw hK;obtain⟨f0,f1,f2,f3,f4,f5⟩:=hf it (by simp);have hg':x.cps.size<=i:=hg;exact wpAny_pyNext_ascii_end (I.ok.hd hc) st (by simp[hg']) fun h' eb=>⟨rfl,I.turned (t':=s.toks) (fun b o hb e=>eb b o hb e) f0 f1 f3 f4 f5⟩
 self:=fun _ _ _ _ _ st h=>wpAny_pyIter_striter_ascii st h
def iStr(tl:TE):TI:=fun σ H R=>tl σ H fun v H1=>∃z:Str,v=.str z/\z.cps.all (· < 128)=true/\R (ItT z) H1
theorem pi_str{tg l:PySem.Expr}{tl:TE}(hl:PE X l tl):PI X tg l (iStr tl):=by
 intro pins s σ H R I h;refine thn (hl pins s σ H _ I h) fun v s1 ⟨x,H1,I1,r1,z,ez,ha,q⟩=>?_
 subst ez;obtain⟨t,rfl⟩:=r1;refine wpAny_pyIter_ascii ha ⟨s1.heap.objs.size,[s1.heap.objs.size],_,_,H1,rfl,I1.kept (t':=s1.toks) (fun b o e=>Heap.get?_push_of_some _ e),znt _ z t,⟨_,Heap.get?_push_size _ rfl,rfl,rfl⟩,fun b hb=>?_,q⟩;obtain rfl:b=s1.heap.objs.size:=by simpa using hb
 exact I1.fpOk (Nat.le_refl _) (I1.hok.fresh (Nat.le_refl _))
theorem zsh {z:Str} {g:TG} {tb:TS} {D:Ends} {σ:St} {H:Hp} (Pv:Nat->St->Hp->Prop) (h0:Pv 0 σ H)
  (hs:∀i c σ H,z.cps[i]?=some c->Pv i σ H->g (.str ⟨#[c]⟩) σ H fun σ2 H2=>tb { D with nx:=Pv (i+1),ct:=Pv (i+1),bk:=D.nx } σ2 H2) (hd:∀σ H,Pv z.cps.size σ H->D.nx σ H) :
  ∃W:Nat->Nat->St->Hp->Prop,(∃m,W 0 m σ H)/\∀i m σ H,W i m σ H →
   ((ItT z).stop i H/\D.nx σ H)\/((ItT z).go i H/\∃N:St->Hp->Prop,(∀σ' H',N σ' H'->∃m',m' < m/\W (i+1) m' σ' H')/\∀x H',(ItT z).yld i H x H'->g x σ H' fun σ2 H2=>tb { D with nx:=N,ct:=N,bk:=D.nx } σ2 H2):=by
 refine⟨fun i m σ H=>m=z.cps.size-i/\i<=z.cps.size/\Pv i σ H,⟨z.cps.size,rfl,Nat.zero_le _,h0⟩,?_⟩;rintro i m σ H ⟨rfl,hi,p⟩;rcases Nat.lt_or_ge i z.cps.size with hlt | hge
 ·refine .inr ⟨hlt,Pv (i+1),fun σ' H' p'=>⟨z.cps.size-(i+1),by omega,rfl,hlt,p'⟩,fun v H' yl=>?_⟩;obtain⟨rfl,c,hx,rfl⟩:=yl;exact hs i c σ H' hx p
 ·obtain rfl:i=z.cps.size:=by omega
  exact .inl ⟨Nat.le_refl _,hd σ H p⟩
end
section
variable {X:Cx}
def repS(x:Str)(n:Nat):Str:=⟨(List.replicate n x.cps).foldl (·++·) #[]⟩
def rMulS:R2:=fun x y H Q=>∃(z:Str) (n:Int),x=.str z/\y=.int n/\z.length=1/\1<n/\n<=1000/\(repS z n.toNat).length<=sizeLine/\Q (.str (repS z n.toNat)) H
theorem zm0:OpR X (binaryOp .Mult) rMulS:=by
 intro pins s σ H x y v u Q I rx ry h;obtain⟨z,n,rfl,rfl,hz,n1,n2,hl,q⟩:=h;obtain⟨t,rfl⟩:=rx;obtain⟨t',rfl⟩:=ry;have n3:¬n<1:=by omega
 have b:(n == 1 || z.length == 0)=false:=by
  rw[hz]
  have:(n == 1)=false:=beq_eq_false_iff_ne.mpr (by omega)
  rw[this];rfl
 refine P.mul_str ?_ (fun _ _=>?_) (fun _ _=>?_) ?_
 ·rw[Bool.or_eq_false_iff,decide_eq_false_iff_not,decide_eq_false_iff_not];omega
 ·rw[hz]
  have:(1:Int)<=(2 ^ 63-1) / n:=by
   rw[Int.le_ediv_iff_mul_le (by omega)];omega
  omega
 ·unfold Builtin.Str.tooLong;rw[hz,sizeLine_eq];exact decide_eq_false (by omega)
 ·rw[if_neg n3,b,if_neg (by decide)];exact⟨hl,⟨.str _,H,I.tok _,⟨_,rfl⟩,q⟩⟩
def PEk(X:Cx)(e:PySem.Expr)(te:TE):Prop:=∀(pins:List (Addr×Obj)) (s:Shared) (σ:St) (H:Hp) (Q:VK),Inv X pins σ H s->te σ H Q->1<=s.toks->wpAny (model X.prog X.w) X.A (eval e X.env) (fun v s'=>EP X pins σ Q v s'/\1<=s'.toks) X.xe s
def PEt(X:Cx)(e:PySem.Expr)(te:TE):Prop:=∀(pins:List (Addr×Obj)) (s:Shared) (σ:St) (H:Hp) (Q:VK),Inv X pins σ H s->te σ H Q->wpAny (model X.prog X.w) X.A (eval e X.env) (fun v s'=>EP X pins σ Q v s'/\1<=s'.toks) X.xe s
theorem PEt.k{e:PySem.Expr}{te:TE}(h:PEt X e te):PEk X e te:=fun pins s σ H Q I q _=>h pins s σ H Q I q
def PAk(X:Cx)(es:List PySem.Expr)(t:TA):Prop:=∀(pos:Pos) (pins:List (Addr×Obj)) (s:Shared) (σ:St) (H:Hp) (Q:List V->Hp->Prop),Inv X pins σ H s->t σ H Q->1<=s.toks->wpAny (model X.prog X.w) X.A (spliced (backTo pos (starEach es X.env))) (AP X pins σ Q) X.xe s
variable {e:PySem.Expr} {es:List PySem.Expr} {te:TE} {t:TA}
theorem PA.k(h:PA X es t):PAk X es t:=fun pos pins s σ H Q I q _=>h pos pins s σ H Q I q
theorem pa_tok(he:PEt X e te)(ha:PAk X es t)(hs:starEach (e :: es) X.env=(false,eval e X.env) :: starEach es X.env:=by rfl):PA X (e :: es) (tCons te t):=by
 intro pos pins s σ H Q I h;rw[hs];show wpAny _ _ (spliced ((false,eval e X.env) :: backTo pos (starEach es X.env))) _ _ s;refine Calls.spliced_cons (thn (he pins s σ H _ I h) fun u s1 ⟨⟨x,H1,I1,r1,q1⟩,k1⟩=>?_);exact thn (ha pos pins s1 σ H1 _ I1 q1 k1) fun us s2 ⟨xs,H2,I2,r2,q2⟩=>⟨x :: xs,H2,I2,.cons r1 r2,q2⟩
theorem zgm(he:PEk X e te)(ha:PAk X es t)(hs:starEach (e :: es) X.env=(false,eval e X.env) :: starEach es X.env:=by rfl):PAk X (e :: es) (tCons te t):=by
 intro pos pins s σ H Q I h k;rw[hs];show wpAny _ _ (spliced ((false,eval e X.env) :: backTo pos (starEach es X.env))) _ _ s;refine Calls.spliced_cons (thn (he pins s σ H _ I h k) fun u s1 ⟨⟨x,H1,I1,r1,q1⟩,k1⟩=>?_);exact thn (ha pos pins s1 σ H1 _ I1 q1 k1) fun us s2 ⟨xs,H2,I2,r2,q2⟩=>⟨x :: xs,H2,I2,.cons r1 r2,q2⟩
theorem zii{i:Nat}{x:Str}{pos:Pos}(hN:X.N[i]?=some x)(hv:Vis X.env.scope x)(hd:(x == ("__debug__":Str))=false:=by decide)(hcd:(x == ("__classdict__":Str))=false:=by decide):PEk X (.Name x pos) (tVar i):=by
 intro pins s σ H Q I h k;obtain⟨v,e,h⟩:=h;obtain⟨m,hn,hl⟩:=I.loc;obtain⟨u,r,l⟩:=hl i x v hN e hv;have fin:EP X pins σ Q u s/\1<=s.toks:=⟨⟨v,H,I,r,h⟩,k⟩;rcases l with ⟨hk,hm⟩ | ⟨hk,c,hc,hcell⟩
 ·exact wpAny_Name (wpAny_loadName_local I.ok.kind hk hn hm fin) hd
 ·rcases hk with hk | hk
  ·exact wpAny_Name (wpAny_loadName_cell I.ok.kind hk hc hcell fin) hd
  ·exact wpAny_Name (wpAny_loadName_free I.ok.kind hk hc hcell fin hcd) hd
abbrev rAddS:R2:=fun x y H Q=>∃i j,x=.str i/\y=.str j/\i.length+j.length<=sizeLine/\Q (.str (i++j)) H
theorem zpz(x y:Str)(h:(x.length == 0)=true):x++y=y:=by
 apply PyProof.Rows.ext_toList;have e:x.cps.size=0:=eq_of_beq h;show(x.cps++y.cps).toList=_;rw[Array.eq_empty_of_size_eq_zero e];simp
theorem zq0(x y:Str)(h:(y.length == 0)=true):x++y=x:=by
 apply PyProof.Rows.ext_toList;have e:y.cps.size=0:=eq_of_beq h;show(x.cps++y.cps).toList=_;rw[Array.eq_empty_of_size_eq_zero e];simp
theorem znm{pins:List (Addr×Obj)}{s:Shared}{σ:St}{H:Hp}{Q:VK}{i j:Str}{t u:Tok}(I:Inv X pins σ H s)(k:1<=s.toks)(hz:i.length+j.length<=sizeLine)(q:Q (.str (i++j)) H):
  wpAny (model X.prog X.w) X.A (binaryOp .Add (.str i t) (.str j u)) (fun v s'=>EP X pins σ Q v s'/\1<=s'.toks) X.xe s:=by
 refine PySem.P.add_str ?_;split
 ·rename_i h
  rw[zpz i j h] at q;exact⟨⟨.str j,H,I,⟨_,rfl⟩,q⟩,k⟩
 ·split
  ·rename_i _ h
   rw[zq0 i j h] at q;exact⟨⟨.str i,H,I,⟨_,rfl⟩,q⟩,k⟩
  ·refine⟨?_,⟨.str (i++j),H,I.tok _,⟨_,rfl⟩,q⟩,by show 1<=s.toks+1; omega⟩;show(i.cps++j.cps).size<=sizeLine;rw[Array.size_append];exact hz
theorem zoq{a:PySem.Expr}{ta:TE}{c:Str}{j:Nat}{p pos:Pos}(ha:PE X a ta):PEt X (.BinOp a .Add (.Constant (.str c) j p) pos) (tOp rAddS ta (tC (.str c))):=by
 intro pins s σ H Q I h;refine wpAny_BinOp (thn (ha pins s σ H _ I h) fun v s1 ⟨x,H1,I1,r1,q1⟩=>Calls.Constant_str ?_);obtain⟨y,z,rfl,e,hz,q⟩:=q1;cases e;obtain⟨t,rfl⟩:=r1;exact znm (I1.tok _) (by show 1<=s1.toks+1; omega) hz q
theorem zor{a:PySem.Expr}{ta:TE}{c:Str}{j:Nat}{p pos:Pos}(ha:PEk X a ta):PEt X (.BinOp (.Constant (.str c) j p) .Add a pos) (tOp rAddS (tC (.str c)) ta):=by
 intro pins s σ H Q I h;refine wpAny_BinOp (Calls.Constant_str (thn (ha pins _ σ H _ (I.tok _) h (by show 1<=s.toks+1; omega)) fun v s1 ⟨⟨x,H1,I1,r1,q1⟩,k1⟩=>?_));obtain⟨y,z,e,rfl,hz,q⟩:=q1;cases e;obtain⟨t,rfl⟩:=r1;exact znm I1 k1 hz q
def tRep(y z:Str)(to:TE):TE:=fun σ H Q=>to σ H fun x H1=>∃i:Str,x=.str i/\i.length<=100000/\Q (.str (Txt.replace i y z)) H1
theorem zlt {o:PySem.Expr} {to:TE} {y z:Str} {j1 j2:Nat} {p1 p2 apos cpos:Pos} (ho:PEk X o to) (yz:(y == z)=false) (hz:z.length<=100)
  (hbase:attributeBase o "replace" X.env (eval o X.env)=eval o X.env:=by rfl)
  (hfew:((backTo cpos (starEach [.Constant (.str y) j1 p1,.Constant (.str z) j2 p2] X.env)).all (fun x=>!x.1) && (backToKw cpos (keywordEach [] X.env)).all (fun x=>x.1.isSome) && decide (([.Constant (.str y) j1 p1,.Constant (.str z) j2 p2]:List PySem.Expr).length+([]:List Keyword).length+(if ([]:List Keyword).isEmpty then 0 else 1)<30))=true:=by rfl)
  (hline:(apos.endLine == cpos.line)=true:=by rfl) (hs:starEach [.Constant (.str y) j1 p1,.Constant (.str z) j2 p2] X.env=[(false,eval (.Constant (.str y) j1 p1) X.env),(false,eval (.Constant (.str z) j2 p2) X.env)]:=by rfl) :
  PEk X (.Call (.Attribute o "replace" apos) [.Constant (.str y) j1 p1,.Constant (.str z) j2 p2] [] cpos) (tRep y z to):=by
 intro pins s σ H Q I h k;refine wpAny_Call_method_late hbase hfew hline rfl (thn (ho pins s σ H _ I h k) fun v s1 ⟨⟨x,H1,I1,r1,i,e,hi,q⟩,k1⟩=>?_);subst e;obtain⟨t,rfl⟩:=r1;refine⟨"str","str.replace",F.plainAttrs_str,F.slot_str_replace,F.type_str_replace,typeIs_str _ _ _,?_,?_⟩
 ·intro a e; cases e
 rw[hs];refine Calls.callWith_builtin (by rfl) (Calls.evalArgs_plain (Calls.spliced_cons (Calls.Constant_str (k:=j1) (pos:=p1) (Calls.spliced_cons (Calls.Constant_str (k:=j2) (pos:=p2) (Calls.spliced_nil ?_))))));have I3:Inv X pins σ H1 { s1 with toks:=s1.toks+1+1 }:=I1.tok _;have z1:=Nat.mul_le_mul_left (i.length+1) hz;have hb:i.length+(i.length+1)*z.length<=16777216:=by omega
 have hl:Builtin.Str.tooLong (i.length+(Builtin.Str.occurrences i y 0 i.length (i.length+1)).length*z.length)=false:=by
  have h1:=StrLaws.occ_length_le i y 0 i.length (i.length+1);have h2:=Nat.mul_le_mul_right z.length h1;unfold Builtin.Str.tooLong;rw[sizeLine_eq];exact decide_eq_false (by omega)
 refine call_gives F.slot_str_replace (typeIs_str _ _ _) F.entry_str_replace (F.args_str_replace_3 _ _ _) (gives_str_replace i y z t s1.toks (s1.toks+1) fun _=>⟨by rw[Bool.or_eq_false_iff,beq_eq_false_iff_ne,beq_eq_false_iff_ne]; exact⟨Nat.ne_of_gt k1,Nat.succ_ne_zero _⟩,by rw[beq_eq_false_iff_ne]; exact Nat.ne_of_lt (Nat.lt_succ_self _),yz,hl⟩) ?_;unfold Txt.replace at q;split
 ·rename_i h
  rw[if_pos h] at q;exact⟨⟨.str i,H1,I3,⟨_,rfl⟩,q⟩,by show 1<=s1.toks+1+1; omega⟩
 ·rename_i h
  rw[if_neg h] at q;exact⟨fits_replaced y hb,⟨.str _,H1,I3.tok _,⟨_,rfl⟩,q⟩,by show 1<=s1.toks+1+1+1; omega⟩
end
def XcG(F:Heap->Addr->Value->Addr->Option Addr->Heap->Prop)(P:Program)(w:World)(fs fp:List Addr)(H:Hp)(s:Shared)(E:XK)(e:Value)(s':Shared):Prop :=
 ∃(a t:Addr) (cls:Value) (od:Option Addr) (B:Heap) (H':Hp),e=.ref a/\s'.os=s.os/\AllBare s'.gens/\Un fs fp H H' s.heap s'.heap /\
  (∀b o,s.heap.get? b=some o->H b=none->b∉fs->b∉fp->B.get? b=some o)/\(∀b o,s.heap.get? b=some o->b∉fs->b∉fp->∃o',B.get? b=some o') /\
  HOk P w H' B/\F B a cls t od s'.heap/\(a∈fp\/s.heap.get? a=none)/\H' a=none/\E cls od H'
def AtD(fl:Value)(l:List Env)(B:Heap)(a:Addr)(cls:Value)(t:Addr)(od:Option Addr)(h:Heap):Prop :=
 B.StaysIn h/\B.get? a=none/\h.FunFrames B l/\h.TracedAtW B a cls (.ref t) fl/\∃o,h.get? a=some o/\o.dict=od
def cxCompX(X:Cx)(E:XK)(scope:Scope)(cl:List (Str×Addr))(C:Addr)(Nc:List Str)(fp:List Addr)(pins:List (Addr×Obj))(s₀:Shared)(H₀:Hp):Cx :=
 (cxComp X scope cl C Nc fp pins s₀ H₀).wish (XcG (fun B a cls t od h=>FlyD B X.stack a cls t od h/\∃m,B.Ns C m) X.prog X.w (frs X.stack) fp H₀ s₀ fun cls od H'=>E cls od H'/\H' C=none)
section
variable {X:Cx} {E:XK} {scope:Scope} {cl:List (Str×Addr)} {C:Addr} {Nc:List Str} {fp:List Addr} {pins:List (Addr×Obj)} {s₀:Shared} {H₀:Hp}
theorem zr3{fs:List Addr}{H H1 H2:Hp}{h h1 h2:Heap}(a:Un fs fp H H1 h h1)(b:Un fs [] H1 H2 h1 h2):Un fs fp H H2 h h2 :=
 a.trans ⟨fun c o q n hf _=>b.keep c o q n hf (by simp),fun c o q n hf _=>b.slot c o q n hf (by simp),fun c o q n _=>b.free c o q n (by simp),fun c o q _=>b.there c o q (by simp),b.tups,b.frzs,b.tbls⟩
theorem zey:Passes (CXr X.prog X.w) (cxCompX X E scope cl C Nc fp pins s₀ H₀) E:=by
 intro pins' σ H s e s' I h;obtain⟨a,t,cls,od,B,H',rfl,os,bare,u,kB,tB,hok,fl,na,nH,hE⟩:=h;have J:Inv (cxComp X scope cl C Nc fp pins s₀ H₀) pins' σ H s:=I.unwish;have bs:Un (frs X.stack) fp H₀ H s₀.heap s.heap:=J.base;refine⟨a,t,cls,od,B,H',rfl,os.trans J.os,bare,zr3 bs u,fun b o q n hb hx=>kB b o (bs.keep b o q n hb hx) (bs.free b o q n hx) hb,fun b o q hb hx=>?_,hok,⟨fl,?_⟩,?_,nH,hE,?_⟩
 ·obtain⟨o1,q1⟩:=bs.there b o q hx;exact tB b o1 q1 hb
 ·obtain⟨m,⟨o,es,ep,ho,r⟩,_⟩:=J.loc;exact⟨m,o,es,ep,kB _ o ho J.free (fun z=>by
   obtain⟨_,o2,q2,_⟩:=J.ok.funs.mem z;exact absurd (Heap.lt_size q2) (Nat.not_lt.mpr J.ok.above)),r⟩
 ·by_cases hx:a∈fp
  ·exact .inl hx
  ·refine .inr ?_;cases q:s₀.heap.get? a with
   | none=>rfl
   | some o =>
    obtain⟨o1,q1⟩:=bs.there a o q hx;rw[na] at q1;cases q1
 ·obtain⟨m,⟨o,es,ep,ho,r⟩,_⟩:=J.loc;exact u.free _ o ho J.free (by simp)
end
section
variable {M:Model} {A:Around} {E:Value->Shared->Prop} {s:Shared} {B:Heap} {env:Env} {outer l:List Env} {L a t C:Addr} {cls a0 fl:Value} {od:Option Addr} {Q:Unit->Shared->Prop}
theorem zko (hfr:A.frames=some (env :: outer)) (hl:s.heap.FunFrames B (env :: outer)) (hf:env.frame=some L) (ht:s.heap.TracedAtW B a cls a0 fl) (nf:(fl == rawInt L)=false) (hkb:B.StaysIn s.heap) (hen:B.get? a=none)
  (h:∀h',Heap.NotedW B (env :: outer) a cls a0 (rawInt L) s.heap h'->Q () { s with heap:=h' }):wpAny M A (noteFrame (.ref a) env) Q E s:=by
 obtain⟨oe,vs,T,oT,ts,he,⟨rfl,h0⟩,hd,h1,hnT,hTe,hT,hdT,h3⟩:=ht;have noT:∀b o,s.heap.get? b=some o->(∀v,o.data≠.fields v)->b≠T:=fun b o hb hn z=>by
  rw[z,hT] at hb;cases hb;exact hn ts hdT
 have oth:∀b,b≠T->(s.heap.update T (Obj.mapFields (·.setIfInBounds 3 Value.none))).get? b=s.heap.get? b:=fun b z=>Heap.get?_update_other _ _ (Ne.symm z)
 unfold noteFrame;simp only[hf];refine wpAny_bind (wpAny_field he hd h1 ?_);rw[if_pos (by simp)];refine wpAny_bind (wpAny_field hT hdT h3 ?_);rw[nf,if_neg (by decide)];refine wpAny_bind (wpAny_setField hT hdT (Array.getElem?_eq_some_iff.mp h3).1 ?_);refine wpAny_entryW hfr ?_ hf ?_ ?_ hen hd (Array.getElem?_eq_some_iff.mp h1).1 h0 ?_
 ·exact hl.of_keeps fun b o hb hn=>⟨o,by rw[oth b (noT b o hb hn)]; exact hb,rfl⟩
 ·rw[oth a (Ne.symm hTe)];exact he
 ·intro b o hb;rw[oth b fun z=>by rw[z,hnT] at hb; cases hb];exact hkb b o hb
 ·rintro h' ⟨x1,x2,x3,x4⟩;refine h h' ⟨x1,x2,x3,fun b o hb hn=>x4 b o ?_ hn⟩;rw[oth b (noT b o hb hn)];exact hb
theorem zmg (hfr:A.frames=some (env :: outer)) (hl:s.heap.FunFrames B (env :: outer)) (hf:env.frame=some L) (ht:s.heap.TracedAtW B a cls a0 fl) (hkb:B.StaysIn s.heap) (hen:B.get? a=none)
  (h:∀h',Heap.FlyingW B outer a cls a0 h'->s.heap.UpToSlots h'->Q () { s with heap:=h' }):wpAny M A (leaving env (.ref a)) Q E s:=by
 unfold leaving;cases q:fl == rawInt L with
 | true =>
  obtain rfl:=eq_of_beq q;refine wpAny_bind (wpAny_noteFrame_againW hf ht ?_);exact wpAny_setFlight_noneW hkb hl ht fun h' k1 k2 k3 k4=>h h' ⟨k1,hen,k2.2.2,k3⟩ fun b o hb hn=>⟨o.slots,k4 b o hb hn⟩
 | false =>
  refine wpAny_bind (zko hfr hl hf ht q hkb hen fun h1 hN=>?_);obtain⟨x1,x2,x3,x4⟩:=hN;refine wpAny_setFlight_noneW x1 x2 x3 fun h' k1 k2 k3 k4=>h h' ⟨k1,hen,k2.2.2,k3⟩ fun b o hb hn=>?_
  obtain⟨sl,z⟩:=x4 b o hb hn;exact⟨sl,k4 b _ z hn⟩
theorem zky{fr:Option Addr}(h:AtD fl l B a cls t od s.heap)(q:∀h',AtD (fr.elim .none fun f=>rawInt f) l B a cls t od h'->s.heap.UpToSlots h'->(∀b o,B.get? b=some o->h'.get? b=some o)->Q () { s with heap:=h' }):wpAny M A (setFlight (.ref a) fr) Q E s:=by
 obtain⟨hkb,hen,hl,⟨oe,vs,T,oT,ts,he,hc,hd,h1,hnT,hTe,hT,hdT,h3⟩,o,ho,hod⟩:=h;have sz:3<ts.size:=(Array.getElem?_eq_some_iff.mp h3).1;unfold setFlight;refine wpAny_bind (wpAny_field he hd h1 ?_);rw[if_pos (by simp)];refine wpAny_setField hT hdT sz ?_;have oth:∀b,b≠T->(s.heap.update T (Obj.mapFields (·.setIfInBounds 3 (fr.elim Value.none fun f=>rawInt f)))).get? b=s.heap.get? b:=fun b z=>Heap.get?_update_other _ _ (Ne.symm z)
 have noT:∀b o,s.heap.get? b=some o->(∀v,o.data≠.fields v)->b≠T:=fun b o hb hn z=>by
  rw[z,hT] at hb;cases hb;exact hn ts hdT
 have kB:B.StaysIn (s.heap.update T (Obj.mapFields (·.setIfInBounds 3 (fr.elim Value.none fun f=>rawInt f)))):=fun b o hb=>by
  rw[oth b fun z=>by rw[z,hnT] at hb; cases hb];exact hkb b o hb
 have dT:=Obj.data_mapFields hdT (·.setIfInBounds 3 (fr.elim Value.none fun f=>rawInt f));refine q _ ⟨kB,hen,hl.of_keeps fun b o hb hn=>⟨o,by rw[oth b (noT b o hb hn)]; exact hb,rfl⟩,⟨oe,vs,T,_,_,by rw[oth a (Ne.symm hTe)]; exact he,hc,hd,h1,hnT,hTe,Heap.get?_update_self _ hT (Obj.isFreed_of_fields dT),dT,by simp[sz]⟩,o,by rw[oth a (Ne.symm hTe)]; exact ho,hod⟩ (fun b o hb hn=>⟨o.slots,by rw[oth b (noT b o hb hn)]; exact hb⟩) kB
theorem zfz{h h':Heap}(hs:Heap.SameBut C h h'):∀{l:List Env},(∀b∈frs l,b≠C)->h.FunFrames B l->h'.FunFrames (PySem.W.hideAll B [C]) l
 | [],_,_=>trivial
 | env :: l,hn,⟨hk,⟨L,o,hf,hb,ho,hd⟩,hr⟩=>by
  have hL:L≠C:=hn L (by unfold frs; rw[List.filterMap_cons,hf]; exact List.mem_cons_self);refine⟨hk,⟨L,o,hf,?_,(hs.2 L hL).trans ho,hd⟩,zfz hs (fun b z=>hn b (by unfold frs; rw[List.filterMap_cons,hf]; exact List.mem_cons_of_mem _ z)) hr⟩;cases q:(PySem.W.hideAll B [C]).get? L with
  | none=>rfl
  | some o' =>
   have:=PySem.W.of_hideAll _ q
   rw[hb] at this;cases this
theorem at_but{h h':Heap}{oC:Obj}(hs:Heap.SameBut C h h')(hC:B.get? C=some oC)(hn:∀b∈frs l,b≠C)(x:AtD fl l B a cls t od h):AtD fl l (PySem.W.hideAll B [C]) a cls t od h':=by
 obtain⟨hkb,hen,hl,⟨oe,vs,T,oT,ts,he,hc,hd,h1,hnT,hTe,hT,hdT,h3⟩,o,ho,hod⟩:=x;have aC:a≠C:=fun z=>by rw[z,hC] at hen; cases hen
 have TC:T≠C:=fun z=>by rw[z,hC] at hnT; cases hnT
 have hid:∀b,B.get? b=none->(PySem.W.hideAll B [C]).get? b=none:=fun b z=>by
  cases q:(PySem.W.hideAll B [C]).get? b with
  | none=>rfl
  | some o' =>
   have:=PySem.W.of_hideAll _ q
   rw[z] at this;cases this
 refine⟨fun b o hb=>?_,hid a hen,zfz hs hn hl,⟨oe,vs,T,oT,ts,(hs.2 a aC).trans he,hc,hd,h1,hid T hnT,hTe,(hs.2 T TC).trans hT,hdT,h3⟩,o,(hs.2 a aC).trans ho,hod⟩;have bC:b≠C:=fun z=>by
  rw[z,PySem.W.hideAll_none _ (List.mem_singleton.mpr rfl)] at hb;cases hb
 exact(hs.2 b bC).trans (hkb b o (PySem.W.of_hideAll _ hb))
end
section
variable {P:Program} {w:World} {K:PySem.W.Frag} {mg:Str->Option Value} {base:Heap} {N:List Str} {qual:Str} {sc:Scope} {f:Addr} {cd:Value} {A:Around} {outer:List Env} {s₀:Shared} {H₀:Hp} {E:XK}
theorem zpg {pins:List (Addr×Obj)} {σ:St} {H:Hp} {s s':Shared} {e fl:Value} {fp:List Addr} (I:Inv (cxOf (CXr P w) P w K mg base N qual sc f cd A outer s₀ H₀ E) pins σ H s) (hfp:∀b∈fp,s₀.heap.objs.size<=b)
  (h:XcG (AtD fl (envOfC qual sc s₀.heap.objs.size f cd :: outer)) P w (frs (envOfC qual sc s₀.heap.objs.size f cd :: outer)) fp H s E e s'):(cxOf (CXr P w) P w K mg base N qual sc f cd A outer s₀ H₀ E).xe e s':=by
 obtain⟨a,t,cls,od,B,H',rfl,os,bare,u,kB,tB,hok,⟨hkb,hen,hl,htr,hdc⟩,na,nH,hE⟩:=h;have sub:∀b,b∈frs outer->b∈frs (envOfC qual sc s₀.heap.objs.size f cd :: outer):=fun b hb=>by
  show b∈List.filterMap _ (_ :: outer);rw[List.filterMap_cons];exact List.mem_cons_of_mem _ hb
 have noL:∀b o,s₀.heap.get? b=some o->b∉frs outer->b∉frs (envOfC qual sc s₀.heap.objs.size f cd :: outer):=fun b o q hb z=>by
  rcases List.mem_cons.mp (I.stkSub b z) with z | z
  ·exact absurd (Heap.lt_size q) (by rw[z]; exact Nat.lt_irrefl _)
  ·exact hb z
 have nfp:∀b o,s₀.heap.get? b=some o->b∉fp:=fun b o q z=>absurd (Heap.lt_size q) (Nat.not_lt.mpr (hfp b z))
 have nex:∀b:Addr,b∉([]:List Addr):=fun b z=>by simp at z
 have kB':∀b o,s₀.heap.get? b=some o->H₀ b=none->b∉frs outer->B.get? b=some o:=fun b o q n hb =>
  kB b o (I.base.keep b o q n hb (nex b)) (I.base.free b o q n (nex b)) (noL b o q hb) (nfp b o q)
 have tB':∀b o,s₀.heap.get? b=some o->b∉frs outer->∃o',B.get? b=some o':=fun b o q hb=>by
  obtain⟨o1,q1⟩:=I.base.there b o q (nex b);exact tB b o1 q1 (noL b o q hb) (nfp b o q)
 have na':s₀.heap.get? a=none:=by
  cases q:s₀.heap.get? a with
  | none=>rfl
  | some o =>
   rcases na with z | z
   ·exact absurd z (nfp a o q)
   ·obtain⟨o1,q1⟩:=I.base.there a o q (nex a);rw[z] at q1;cases q1
 refine zff (zcz _ _) (Q':=fun _ s2=>∃h',s2={ s' with heap:=h' }/\Heap.FlyingW B outer a cls (.ref t) h'/\s'.heap.UpToSlots h') (zmg I.ok.frames hl rfl htr hkb hen fun h' fl' up=>⟨h',rfl,fl',up⟩) ?_;rintro _ s2 ⟨h',rfl,fl',up⟩ dk;refine⟨a,t,cls,od,B,H',rfl,os.trans I.os,bare,?_,kB',tB',hok,⟨fl',dk.dict hdc⟩,na',nH,hE⟩;have slot':∀b o,s₀.heap.get? b=some o->H₀ b=none->b∈frs outer->∃sl,h'.get? b=some { o with slots:=sl }:=fun b o q n hb=>by
  obtain⟨sl,q1⟩:=I.base.slot b o q n hb (nex b);obtain⟨sl1,q2⟩:=u.slot b _ q1 (I.base.free b o q n (nex b)) (sub b hb) (nfp b o q);obtain⟨_,o2,q3,nf⟩:=I.funs.mem hb;rw[q1] at q3;cases q3;obtain⟨sl2,q4⟩:=up b _ q2 nf;exact⟨sl2,q4⟩
 refine⟨fun b o q n hb _=>fl'.1 b o (kB' b o q n hb),fun b o q n hb _=>slot' b o q n hb,fun b o q n _=>?_,fun b o q _=>?_,fun b xs q=>u.tups b xs (I.base.tups b xs q),fun b o v q=>u.frzs b o v (I.base.frzs b o v q),fun b ps q=>?_⟩
 ·obtain⟨o1,q1⟩:=I.base.there b o q (nex b);exact u.free b o1 q1 (I.base.free b o q n (nex b)) (nfp b o q)
 ·by_cases hb:b∈frs outer
  ·obtain⟨sl,q1⟩:=slot' b o q (I.ok.frf b hb) hb;exact⟨_,q1⟩
  ·obtain⟨o1,q1⟩:=tB' b o q hb;exact⟨o1,fl'.1 b o1 q1⟩
 ·obtain⟨m1,q1⟩:=I.base.tbls b ps q;obtain⟨m2,q2⟩:=u.tbls b _ q1;exact⟨m1++m2,by rw[q2,Array.append_assoc]⟩
end
section
variable {prog:Program} {w:World} {A:Around} {s:Shared}
theorem zh0 {elt iter tg:PySem.Expr} {scope:Scope} {pos:Pos} {it acc:Value} {env:Env} {R:Result->Shared->Prop} (Xn:Value->Shared->Prop) (hN:∀e s,Xn e s->notedBy (model prog w) A env (fun e s'=>R (.error e) s') e s) (I:Nat->Shared->Prop)
  (turn:∀n s,I n s->wpAny (model prog w) A (pyNext it) (fun r s₁=>match r with
   | none=>R (.ok .next) s₁
   | some v=>wpAny (model prog w) A (letOwnedTupleGo tg it v) (fun _ s₁'=>wpAny (model prog w) A (assign tg env v) (fun _ s₂ =>
     wpAny (model prog w) A (eval elt env) (fun x s₄ =>
       wpAny (model prog w) A (call (.builtin "list.append") [acc,x]) (fun _ s₅=>∃m,m<n/\I m s₅) (fun _ _=>False) s₄) Xn s₂)
     (fun _ _=>False) s₁') (fun _ _=>False) s₁) (fun _ _=>False) s)
  (n:Nat) (h:I n s):codeAny (model prog w) A (.compLoop (.ListComp elt [⟨tg,iter,[],0⟩] scope pos) 0 it acc env) R s:=by
 refine codeAny_loop rfl I (fun n s hI=>?_) n h;show wpAny _ A ((compTurn (.ListComp elt [⟨tg,iter,[],0⟩] scope pos) 0 it acc env).onRaise (fun x=>do noteFrame x env; theTreesLotGoes x)) _ _ s;refine wpAny_noted ?_;rw[compTurn_list];refine wpAny_bind (wpAny_standAt (wpAny_bind (wpAny_mono (turn n s hI) (fun r s₁ h₁=>?_) fun _ _ z=>False.elim z)));cases r with
 | none=>exact wpAny_pure h₁
 | some v =>
  refine wpAny_bind (wpAny_mono h₁ (fun _ s₁' h₁'=>?_) fun _ _ z=>False.elim z);refine wpAny_bind (wpAny_mono h₁' (fun _ s₂ h₂=>wpAny_bind (wpAny_tests_nil ?_)) fun _ _ z=>False.elim z);exact wpAny_bind (wpAny_bind (wpAny_mono h₂ (fun x s₄ h₄=>wpAny_bind (wpAny_mono h₄ (fun _ s₅ h₅=>wpAny_pure (wpAny_pure ⟨rfl,h₅⟩)) fun _ _ z=>False.elim z)) hN))
end
structure Outs(X:Cx)(E:XK):Prop where
 st:X.stack=X.env :: X.outer
 fr:X.env.frame=some X.env.locals
 out:∀(pins:List (Addr×Obj)) (σ:St) (H:Hp) (s s':Shared) (e fl:Value) (fp:List Addr),Inv X pins σ H s->(∀b∈fp,FpOk X pins H b)->XcG (AtD fl X.stack) X.prog X.w (frs X.stack) fp H s E e s'->X.xe e s'
theorem zij{P:Program}{w:World}{K:PySem.W.Frag}{mg:Str->Option Value}{base:Heap}{N:List Str}{qual:Str}{sc:Scope}{f:Addr}{cd:Value}{A:Around}{outer:List Env}{s₀:Shared}{H₀:Hp}{E:XK}:Outs (cxOf (CXr P w) P w K mg base N qual sc f cd A outer s₀ H₀ E) E :=
 ⟨rfl,rfl,fun pins σ H s s' e fl fp I hfp h=>zpg I (fun b hb=>by
  rcases(hfp b hb).2.2.2.1 with z | z
  ·exact absurd (show b∈([]:List Addr) from z) (by simp)
  ·exact z) h⟩
section
variable {X:Cx} {E:XK} {elt iter tg:PySem.Expr} {pos:Pos} {scope:Scope} {cl:List (Str×Addr)} {Nc:List Str} {cap:List (Nat×Nat)} {wi:TI} {g:TG} {te:TE}
theorem znc {pins:List (Addr×Obj)} {σ:St} {H3:Hp} {s3 s5:Shared} {C acc:Addr} {fp:List Addr} {Q:Value->Shared->Prop} {e:Value} (hO:Outs X E) (I3:Inv X pins σ H3 s3) (hC:s3.heap.objs.size<=C) (f3:∀b∈fp,FpOk X pins H3 b)
  (h:XcG (fun B a cls t od h=>FlyD B X.stack a cls t od h/\∃m,B.Ns C m) X.prog X.w (frs X.stack) fp H3 s3 (fun cls od H'=>E cls od H'/\H' C=none) e s5) :
  notedBy (model X.prog X.w) X.A (compEnvC scope cl C X.env) (fun e s'=>compPost (model X.prog X.w) X.A X.xe none Q (.ref acc) C (.error e) s') e s5:=by
 obtain⟨a,t,cls,od,B,H',rfl,os,bare,u,kB,tB,hok,⟨fl,m,oC,es,ep,hoC,rC⟩,na,nH,hE,H'C⟩:=h;have hfr:X.A.frames=some (X.env :: X.outer):=by rw[<-hO.st]; exact I3.ok.frames
 have nC:∀b o,s3.heap.get? b=some o->b≠C:=fun b o q=>Nat.ne_of_lt (Nat.lt_of_lt_of_le (Heap.lt_size q) hC)
 have nfC:∀b∈frs X.stack,b≠C:=fun b hb=>by
  obtain⟨_,o,q,_⟩:=I3.stack.mem hb;exact nC b o q
 have fl':=fl;rw[hO.st] at fl';show wpAny (model X.prog X.w) X.A (noteFrame (.ref a) X.env) _ _ s5;refine zho hfr hO.fr fl' fun h1 held dct up=>?_
 have aD:AtD (rawInt X.env.locals) X.stack B a cls t od h1:=by
  rw[hO.st];exact⟨held.1,held.2.1,held.2.2.1,held.2.2.2,dct⟩
 refine⟨m,⟨oC,es,ep,aD.1 C oC hoC,rC⟩,fun h2 hs cenv _=>?_⟩;have aD2:=at_but hs hoC nfC aD;obtain⟨oe,vs,T,oT,ts,he,hc,hd,h1',hnT,hTe,hT,hdT,h3'⟩:=aD2.2.2.2.1;unfold PySem.passOn;refine wpAny_bind (wpAny_field he hd h1' ?_);rw[if_neg (by simp)];refine wpAny_bind (zky aD2 fun h4 aD4 up4 kB4=>wpAny_throw ?_);have hid:∀b o,B.get? b=some o->b≠C->(PySem.W.hideAll B [C]).get? b=some o:=fun b o q z=>PySem.W.hideAll_get _ q fun y=>z (List.mem_singleton.mp y)
 refine hO.out pins σ H3 s3 _ _ _ fp I3 f3 ⟨a,t,cls,od,PySem.W.hideAll B [C],H',rfl,os,bare,?_,fun b o q n hb hx=>hid b o (kB b o q n hb hx) (nC b o q),fun b o q hb hx=>?_,?_,aD4,na,nH,hE⟩
 ·have slot4:∀b o,s3.heap.get? b=some o->b∈frs X.stack->(∃sl,s5.heap.get? b=some { o with slots:=sl })->∃sl,h4.get? b=some { o with slots:=sl }:=fun b o q hb ⟨sl,q1⟩=>by
   obtain⟨_,o2,q2,nf⟩:=I3.stack.mem hb;rw[q] at q2;cases q2;obtain⟨sl1,q3⟩:=up b _ q1 nf;have q4:=(hs.2 b (nC b o q)).trans q3;obtain⟨sl2,q5⟩:=up4 b _ q4 nf;exact⟨sl2,q5⟩
  refine⟨fun b o q n hb hx=>kB4 b o (hid b o (kB b o q n hb hx) (nC b o q)),fun b o q n hb hx=>slot4 b o q hb (u.slot b o q n hb hx),u.free,fun b o q hx=>?_,u.tups,u.frzs,u.tbls⟩;by_cases hb:b∈frs X.stack
  ·obtain⟨sl,z⟩:=slot4 b o q hb (u.slot b o q (I3.stkFree b hb) hb hx);exact⟨_,z⟩
  ·obtain⟨o1,q1⟩:=tB b o q hb hx;exact⟨o1,kB4 b o1 (hid b o1 q1 (nC b o q))⟩
 ·obtain⟨o1,q1⟩:=tB b o q hb hx;exact⟨o1,hid b o1 q1 (nC b o q)⟩
 ·refine fun b o q=>(hok b o q).stay (fun c v hc q'=>hid c v q' fun z=>?_) (fun _ z=>z) fun _ _ z=>z
  subst z;rcases hc with hc | hc
  ·rw[hc] at H'C; rw[H'C] at q; cases q
  ·rw[H'C] at hc; cases hc
theorem zgi (hO:Outs X E) (hc:X.calm=true) (hi:PI X tg iter wi) (S:CompScope X scope cl Nc cap)
  (hg:∀C fp pins s H,PG (cxComp X scope cl C Nc fp pins s H) tg g) (he:∀C fp pins s H,PE (cxCompX X E scope cl C Nc fp pins s H) elt te)
  (hs:∀y,foldedSetIterable iter X.env y=pure y:=by intro _; rfl):PE X (.ListComp elt [⟨tg,iter,[],0⟩] scope pos) (tComp Nc.length cap wi g te):=by
 intro pins s σ H Q I h;rw[eval_ListComp];refine wpAny_comprehension_free (use:=none) (cl:=cl) rfl hs S.clos S.kind S.names ?_;refine thn (hi pins s σ H _ I h) fun v s1 h1=>thn h1 fun itv s2 h2=>?_
 obtain⟨it,fp,tn,J,H2,e,I2,T,st2,f2,rd⟩:=h2;subst e;refine wpAny_newObj_type ?_;have hacc:H2 s2.heap.objs.size=none:=I2.hok.fresh (Nat.le_refl _);obtain⟨W,⟨m0,w0⟩,turn⟩:=rd s2.heap.objs.size hacc;have I3:Inv X pins σ (upd H2 s2.heap.objs.size (.lst [])) { s2 with heap:=s2.heap.push { cls:=.type "list",dict:=none,data:=.seq ([]:List Value).toArray } } :=
  I2.laid (t':=s2.toks) (fun b u e=>Heap.get?_push_of_some _ e) (Nat.le_refl _) ⟨Nat.zero_le _,[],0,.nil,Heap.get?_push_size _ rfl⟩
 have st3:tn 0 (s2.heap.push { cls:=.type "list",dict:=none,data:=.seq ([]:List Value).toArray }):=T.keep _ _ _ st2 fun b _ o e=>Heap.get?_push_of_some _ e
 have f3:∀b∈fp,FpOk X pins (upd H2 s2.heap.objs.size (.lst [])) b:=fun b hb=>by
  obtain⟨o,e,_⟩:=T.obj _ _ st2 b hb;refine⟨?_,(f2 b hb).2⟩;rw[upd_ne (Nat.ne_of_lt (Heap.lt_size e))];exact(f2 b hb).1
 generalize hh3:s2.heap.push { cls:=.type "list",dict:=none,data:=.seq ([]:List Value).toArray }=h3 at I3 st3 ⊢;generalize hH3:upd H2 s2.heap.objs.size (.lst [])=H3 at I3 f3 w0;generalize s2.heap.objs.size=acc at *;refine wpAny_newFunctionEnv S.nocell (by intro y hy; simp at hy) (fun h4 hns hsb=>?_) S.kind;dsimp only at hns hsb ⊢;have keep:∀b o,h3.get? b=some o->h4.get? b=some o:=fun b o e=>hsb.extBut b o (Nat.ne_of_lt (Heap.lt_size e)) (Heap.get?_push_of_some _ e)
 have f0:∀b∈fp,∃o,h3.get? b=some o:=fun b hb=>by
  obtain⟨o,e,_⟩:=T.obj _ _ st3 b hb;exact⟨o,e⟩
 have I4:=zjx (tk:=s2.toks+([]:List (Str×Value)).length) I3 hc S f3 f0 (C:=h3.objs.size) (Nat.le_refl _) hns keep;have st4:tn 0 h4:=T.keep _ _ _ st3 fun b _ o e=>keep b o e
 have stat:∀{H':Hp},(∀b∈fp,H' b=none)->∀b∈fp,FpOk (cxComp X scope cl h3.objs.size Nc fp pins { s2 with heap:=h3 } H3) [] H' b:=fun hn b hb=>by
  obtain⟨o,e⟩:=f0 b hb;refine⟨hn b hb,Nat.ne_of_lt (Heap.lt_size e),I4.ok.exfs b hb,.inl hb,fun x c q=>(f3 b hb).2.2.2.2.1 x c (S.sub x c q).1,fun p hp=>?_⟩;have z:p∈(X.pn++pins)++[]:=hp;rw[List.append_nil] at z;exact(f3 b hb).2.2.2.2.2 p z
 have loop:codeAny (model X.prog X.w) X.A (.compLoop (.ListComp elt [⟨tg,iter,[],0⟩] scope pos) 0 (.ref it) (.ref acc) (compEnvC scope cl h3.objs.size X.env)) (compPost (model X.prog X.w) X.A X.xe none (EP X pins σ Q) (.ref acc) h3.objs.size)
   { s2 with heap:=h4,toks:=s2.toks+([]:List (Str×Value)).length }:=by
  refine zh0 _ (fun e s5 hx=>znc (scope:=scope) (cl:=cl) (C:=h3.objs.size) hO I3 (Nat.le_refl _) f3 hx) (fun n s'=>∃i ys σ' H',Inv (cxComp X scope cl h3.objs.size Nc fp pins { s2 with heap:=h3 } H3) [] σ' H' s'/\tn i s'.heap/\(∀b∈fp,H' b=none)/\W i n ys σ' H') ?_ m0 ⟨0,[],_,H3,I4,st4,fun b hb=>(f3 b hb).1,w0⟩;rintro n s5 ⟨i,ys,σ5,H5,I5,st5,fr5,w5⟩;rcases turn i n ys σ5 H5 w5 with ⟨stop,qn⟩ | ⟨go,step⟩
  ·refine thn (T.done (cxComp X scope cl h3.objs.size Nc fp pins { s2 with heap:=h3 } H3) rfl rfl rfl rfl i [] s5 σ5 H5 _ I5 (stat fr5) st5 stop) fun r s6 ⟨hr,I6⟩=>?_
   subst hr;obtain⟨m6,hn6,_⟩:=id I6.loc;have back:=zhz (h':=s6.heap) I3 f3 I6 ⟨rfl,fun _ _=>rfl⟩;have fpC:FpOk X pins H5 h3.objs.size:=I3.fpOk (Nat.le_refl _) I6.free;exact⟨m6,hn6,fun h7 hs7=>⟨.ref acc,H5,back.turned (t':=s6.toks) (fun b o hb q=>(hs7.2 b hb).trans q) fpC.1 fpC.2.1 fpC.2.2.2.1 fpC.2.2.2.2.1 fpC.2.2.2.2.2,rfl,qn⟩⟩
  ·refine wpAny_mono (T.item (cxComp X scope cl h3.objs.size Nc fp pins { s2 with heap:=h3 } H3) rfl rfl rfl rfl i [] s5 σ5 H5 (fun _ _=>False) I5 (stat fr5) st5 go) (fun r s6 ⟨u,hr,h6⟩=>?_) fun _ _ z=>False.elim z
   subst hr;refine thn h6 fun _ s7 ⟨y,H7,I7,r7,y7,st7,fr7⟩=>?_
   have I7':=I7.pinned (stat fr7) (T.obj _ _ st7);have kp:∀{σ8:St} {H8:Hp} {s8:Shared},Inv (cxComp X scope cl h3.objs.size Nc fp pins { s2 with heap:=h3 } H3) ([]++pinsAt fp s7.heap) σ8 H8 s8->tn (i+1) s8.heap/\∀b∈fp,H8 b=none:=fun {σ8 H8 s8} I8 =>
    ⟨T.keep _ _ _ st7 fun b hb o e=>(I8.pin (b,o) (List.mem_append_right _ (List.mem_append_right _ (zc6 hb e)))).1,fun b hb=>by
     obtain⟨o,e,d⟩:=T.obj _ _ st7 b hb;exact(I8.pin (b,o) (List.mem_append_right _ (List.mem_append_right _ (zc6 hb e)))).2.1⟩
   refine thn (hg _ _ _ _ _ _ s7 σ5 H7 y u _ I7' r7 (step y H7 y7)) fun _ s8 ⟨σ8,H8,I8,q8⟩=>?_
   refine thn (he _ _ _ _ _ _ s8 σ8 H8 _ (I8.wish _) q8) fun w10 s10 ⟨v10,H10,I10',r10,e10,l10,m',hm,q10⟩=>?_
   have I10:=I10'.unwish;refine thn (zal _ s10 σ8 H10 (.ref acc) [v10] (.ref acc) [w10] (fun _ H11=>W (i+1) m' (ys++[v10]) σ8 H11) I10 rfl (.cons r10 .nil) ⟨acc,ys,v10,rfl,rfl,e10,l10,q10⟩) fun _ s11 ⟨_,H11,I11,_,q11⟩=>?_
   obtain⟨st11,fr11⟩:=kp I11;exact⟨m',hm,i+1,ys++[v10],σ8,H11,I11.unpinned,st11,fr11,q11⟩
 exact codeAny_compStart_list loop (T.self _ 0 _ _ _ st4 loop)
end
end L2
namespace L2
open PySem PySem.Spec PyProof.Rows PySem.W
section
variable {X:Cx} {pins:List (Addr×Obj)} {σ:St} {H:Hp} {s:Shared} {h':Heap}
theorem Inv.put{a:Addr}{o:HO}{t':Nat}(I:Inv X pins σ H s)(k:∀b u,s.heap.get? b=some u->h'.get? b=some u)(hn:s.heap.get? a=none)(new:ObjOk X.prog X.w (upd H a o) h' a o):Inv X pins σ (upd H a o) { s with heap:=h',toks:=t' }:=by
 have na:H a=none:=zce I.hok hn;have ne:∀{b:Addr} {u:Obj},s.heap.get? b=some u->b≠a:=fun e z=>by rw[z,hn] at e; cases e
 refine I.un ⟨fun b u q _ _ _=>k b u q,fun b u q _ _ _=>⟨u.slots,k b u q⟩,fun b u q n _=>by rw[upd_ne (ne q)]; exact n,fun b u q _=>⟨u,k b u q⟩,fun b xs q=>by rw[upd_ne (ne_of_none q na)]; exact q,fun b u xs q=>by rw[upd_ne (ne_of_none q na)]; exact q,fun b ps q=>⟨#[],by rw[upd_ne (ne_of_none q na),q]; simp⟩⟩ fun b u e=>?_
 by_cases hb:b=a
 ·subst hb; rw[za1] at e; cases e; exact new
 ·rw[upd_ne hb] at e;exact(I.hok b u e).stay (fun c v _ q=>k c v q) (fun c q=>by rw[upd_ne (ne_of_none q na)]; exact q) fun c xs q=>by rw[upd_ne (ne_of_none q na)]; exact q
theorem Inv.put2 {a d:Addr} {φ:Heap->Prop} {o1 o2:HO} {t':Nat} (I:Inv X pins σ H s) (ha:H a=some (.ext φ)) (k:∀b u,b≠a->s.heap.get? b=some u->h'.get? b=some u) (hex:∃u,h'.get? a=some u) (hn:s.heap.get? d=none)
  (new1:ObjOk X.prog X.w (upd (upd H a o1) d o2) h' a o1) (new2:ObjOk X.prog X.w (upd (upd H a o1) d o2) h' d o2):Inv X pins σ (upd (upd H a o1) d o2) { s with heap:=h',toks:=t' }:=by
 have nd:H d=none:=zce I.hok hn;have ad:a≠d:=ne_of_none ha nd;have ne:∀{b:Addr} {u:Obj},s.heap.get? b=some u->b≠d:=fun e z=>by rw[z,hn] at e; cases e
 have nh:∀{b:Addr},H b=none->b≠a:=fun e z=>by rw[z,ha] at e; cases e
 have old:∀{b:Addr} {o:HO},b≠a->H b=some o->upd (upd H a o1) d o2 b=some o:=fun n e=>by rw[upd_ne (ne_of_none e nd),upd_ne n]; exact e
 have na:∀{b:Addr} {o:HO},H b=some o->(∀ψ,o≠.ext ψ)->b≠a:=fun e n z=>by rw[z,ha] at e; exact n φ (Option.some.inj e).symm
 refine I.un ⟨fun b u q n _ _=>k b u (nh n) q,fun b u q n _ _=>⟨u.slots,k b u (nh n) q⟩,fun b u q n _=>by rw[upd_ne (ne q),upd_ne (nh n)]; exact n,fun b u q _=>?_,fun b xs q=>old (na q fun _ z=>by cases z) q,fun b u xs q=>old (na q fun _ z=>by cases z) q,fun b ps q=>⟨#[],by rw[old (na q fun _ z=>by cases z) q]; simp⟩⟩ fun b u e=>?_
 ·by_cases z:b=a
  ·rw[z]; exact hex
  ·exact⟨u,k b u z q⟩
 ·by_cases z1:b=d
  ·subst z1; rw[za1] at e; cases e; exact new2
  rw[upd_ne z1] at e;by_cases z2:b=a
  ·subst z2; rw[za1] at e; cases e; exact new1
  rw[upd_ne z2] at e;refine(I.hok b u e).stay (fun c v hc q=>k c v ?_ q) (fun c q=>old (na q fun _ z=>by cases z) q) fun c xs q=>old (na q fun _ z=>by cases z) q
  rcases hc with rfl | hc
  ·exact z2
  ·exact na hc fun _ z=>by cases z
end
def excN(a C t:Addr):HO:=.ext fun h=>h.get? a=some (excD C t none)
def excF(a C t d:Addr):HO:=.ext fun h=>h.get? a=some (excD C t (some d))
section
variable {P:Program} {w:World} {H:Hp} {h:Heap} {a C t d:Addr}
theorem zsn(e:h.get? a=some (excD C t none)):ObjOk P w H h a (excN a C t):=⟨e,⟨_,e⟩,fun _ _ p k=>k _ p⟩
theorem zso(e:h.get? a=some (excD C t (some d))):ObjOk P w H h a (excF a C t d):=⟨e,⟨_,e⟩,fun _ _ p k=>k _ p⟩
theorem zpn(ok:HOk P w H h)(e:H a=some (excN a C t)):h.get? a=some (excD C t none):=(show ObjOk P w H h a (excN a C t) from ok _ _ e).1
theorem zgy(ok:HOk P w H h)(e:H a=some (excF a C t d)):h.get? a=some (excD C t (some d)):=(show ObjOk P w H h a (excF a C t d) from ok _ _ e).1
theorem xd_ok{f:Str}{y:V}{u:Value}(r:RelV y u)(n:h.Ns1 d (fun z=>if z=f then some u else none)):ObjOk P w H h d (.xd [(f,y)]):=by
 refine⟨_,n,fun g=>?_⟩;by_cases z:g=f
 ·subst z;simp only[List.lookup_cons,beq_self_eq_true,if_true];exact r
 ·have zb:(g == f)=false:=by simp[z]
  simp only[List.lookup_cons,zb,List.lookup_nil,if_neg z]
  first | exact trivial | rfl
end
def XStore(K:Frag)(C:Addr)(f:Str):Prop:=findIn K (.ref C) "__setattr__" = some (some (.builtin "object.__setattr__"))/\exIn K C=true/\findIn K (.ref C) f=some none
def sFldX(K:Frag)(ta tv:TE)(f:Str):TS:=fun D σ H=>tv σ H fun y H1=>ta σ H1 fun x H2=>∃a C t,x=.ref a/\H2 a=some (excN a C t)/\XStore K C f/\∀d,H2 d=none->D.nx σ (upd (upd H2 a (excF a C t d)) d (.xd [(f,y)]))
theorem ze2{X:Cx}{o value:PySem.Expr}{f:Str}{pos pos':Pos}{ta tv:TE}(ha:PE X o ta)(hv:PE X value tv)(hs:swapsWith value (some (.Attribute o f pos')) pos.line X.env=pure false):PS X (.Assign [.Attribute o f pos'] value pos) (sFldX X.K ta tv f):=by
 intro pins s σ H D I h;refine plainObj_wpAny_Assign_Attribute (thn (hv pins s σ H _ I h) fun u s1 ⟨y,H1,I1,ry,q⟩=>thn (ha pins s1 σ H1 _ I1 q) fun ov s2 ⟨x,H2,I2,rx,a,C,t,ex,ea,⟨x1,x2,x3⟩,q2⟩=>?_) hs;subst ex;obtain rfl:ov=Value.ref a:=rx;have ga:=zpn I2.hok ea;refine xset I2.kIn ga rfl rfl rfl x1 x2 x3 fun h' d tk hd hx hn hk=>⟨σ,_,?_,q2 d (zce I2.hok hd)⟩
 exact I2.put2 (t':=tk) ea hk ⟨_,hx⟩ hd (zso hx) (xd_ok ry hn)
section
variable {P:Program} {w:World} {K:PySem.W.Frag} {mg:Str->Option Value} {base:Heap} {N:List Str} {qual:Str} {scope:Scope} {f:Addr} {cd:Value} {A:Around} {outer:List Env} {s₀:Shared} {H₀:Hp} {E:XK}
def RaiseOutI(X:Cx)(E:XK):Prop:=∀(pins:List (Addr×Obj)) (σ:St) (H:Hp) (s:Shared) (e C t d:Addr),Inv X pins σ H s->H e=some (excF e C t d)->X.s₀.heap.get? e=none->E (.ref C) (some d) (My.del H e)->X.xe (.ref e) s
theorem zao:RaiseOutI (cxOf (CXr P w) P w K mg base N qual scope f cd A outer s₀ H₀ E) E:=by
 intro pins σ H s e C t d I hH n0 hE;have ge:=zgy I.hok hH;have nex:∀b:Addr,b∉([]:List Addr):=fun b z=>by simp at z
 have n0':s₀.heap.get? e=none:=n0;have ne0:∀{b:Addr} {o:Obj},s₀.heap.get? b=some o->b≠e:=fun q z=>by rw[z,n0'] at q; cases q
 have nfr:∀b o,H b=some o->b∉frs (envOfC qual scope s₀.heap.objs.size f cd :: outer):=fun b o q z=>by
  have:=I.stkFree b z
  rw[q] at this;cases this
 have noL:∀b o,s₀.heap.get? b=some o->b∉frs outer->b∉frs (envOfC qual scope s₀.heap.objs.size f cd :: outer):=fun b o q hb z=>by
  rcases List.mem_cons.mp (I.stkSub b z) with z | z
  ·exact absurd (Heap.lt_size q) (by rw[z]; exact Nat.lt_irrefl _)
  ·exact hb z
 obtain⟨Bh,eB⟩:∃Bh,Bh=PySem.W.hideAll s.heap (e :: frs (envOfC qual scope s₀.heap.objs.size f cd :: outer)):=⟨_,rfl⟩;have gB:∀b o,s.heap.get? b=some o->b≠e->b∉frs (envOfC qual scope s₀.heap.objs.size f cd :: outer)->Bh.get? b=some o:=fun b o q n1 n2=>by
  rw[eB];exact PySem.W.hideAll_get _ q fun z=>(List.mem_cons.mp z).elim n1 n2
 have eN:Bh.get? e=none:=by rw[eB]; exact PySem.W.hideAll_none _ (.head _)
 have stB:Bh.StaysIn s.heap:=fun b o q=>by rw[eB] at q; exact PySem.W.of_hideAll _ q
 have flB:s.heap.FunFrames Bh (envOfC qual scope s₀.heap.objs.size f cd :: outer):=by
  rw[eB];exact PySem.W.funFrames_hide I.stack fun env he b hb=>List.mem_cons_of_mem _ (List.mem_filterMap.mpr ⟨env,he,hb⟩)
 clear eB;have nx:∀{b:Addr} {o:HO},H b=some o->(∀ψ,o≠.ext ψ)->b≠e:=fun q n z=>by rw[z,hH] at q; exact n _ (Option.some.inj q).symm
 have hokB:HOk P w (My.del H e) Bh:=fun b o q=>by
  have nb:b≠e:=fun z=>by rw[z,My.zcg] at q; cases q
  rw[My.zdh nb] at q;refine(I.hok b o q).stay (fun c v hc z=>gB c v z ?_ ?_) (fun c z=>My.zd6 z (nx z fun _ y=>by cases y)) fun c xs z=>My.zd6 z (nx z fun _ y=>by cases y)
  ·rcases hc with hc | hc
   ·rw[hc]; exact nb
   ·exact nx hc fun _ y=>by cases y
  ·rcases hc with hc | hc
   ·rw[hc]; exact nfr b o q
   ·exact nfr c _ hc
 have kB:∀b o,s₀.heap.get? b=some o->H₀ b=none->b∉frs outer->Bh.get? b=some o:=fun b o q n hb=>gB b o (I.base.keep b o q n hb (nex b)) (ne0 q) (noL b o q hb)
 have tB:∀b o,s₀.heap.get? b=some o->b∉frs outer->∃o',Bh.get? b=some o':=fun b o q hb=>by
  obtain⟨o1,q1⟩:=I.base.there b o q (nex b);exact⟨o1,gB b o1 q1 (ne0 q) (noL b o q hb)⟩
 refine zff (zcz _ _) (Q':=fun _ s2=>∃h'',s2={ s with heap:=h'' }/\Heap.LeftW Bh (envOfC qual scope s₀.heap.objs.size f cd :: outer) e (.ref C) (.ref t) s.heap h'') (wpAny_leaving_firstW (a0:=.ref t) I.ok.frames flB rfl ge stB eN rfl rfl rfl fun h'' hL=>⟨h'',rfl,hL⟩) ?_;rintro _ s2 ⟨h'',rfl,hL⟩ dk;obtain⟨j1,⟨_,_,j2⟩,j3,j4⟩:=hL;have fl:Heap.FlyingW Bh outer e (.ref C) (.ref t) h'':=⟨j1,eN,j2,j3⟩;refine⟨e,t,.ref C,some d,Bh,My.del H e,rfl,I.os,I.bare,?_,kB,tB,hokB,⟨fl,dk.dict ⟨_,ge,rfl⟩⟩,n0',My.zcg _ _,hE⟩;have slot':∀b o,s₀.heap.get? b=some o->H₀ b=none->b∈frs outer->∃sl,h''.get? b=some { o with slots:=sl }:=fun b o q n hb=>by
  obtain⟨sl,q1⟩:=I.base.slot b o q n hb (nex b);obtain⟨_,o2,q3,nf⟩:=I.funs.mem hb;rw[q1] at q3;cases q3;obtain⟨sl2,q4⟩:=j4 b _ q1 nf;exact⟨sl2,q4⟩
 refine⟨fun b o q n hb _=>fl.1 b o (kB b o q n hb),fun b o q n hb _=>slot' b o q n hb,fun b o q n _=>by rw[My.zdh (ne0 q)]; exact I.base.free b o q n (nex b),fun b o q _=>?_,fun b xs q=>?_,fun b o u q=>?_,fun b ps q=>?_⟩
 ·by_cases hb:b∈frs outer
  ·obtain⟨sl,q1⟩:=slot' b o q (I.ok.frf b hb) hb;exact⟨_,q1⟩
  ·obtain⟨o1,q1⟩:=tB b o q hb;exact⟨o1,fl.1 b o1 q1⟩
 ·have:=I.base.tups b xs q
  exact My.zd6 this (nx this fun _ y=>by cases y)
 ·have:=I.base.frzs b o u q
  exact My.zd6 this (nx this fun _ y=>by cases y)
 ·obtain⟨more,this⟩:=I.base.tbls b ps q;exact⟨more,My.zd6 this (nx this fun _ y=>by cases y)⟩
end
def excI(K:Frag)(C:Addr)(bmB:List Value)(newId:String)(fI:Addr):Bool:=match K.lookup C with
 | some ⟨.type "type",_,.cls cd,sl⟩=>(match cd.mro,sl.toList with
  | .ref D :: tl,[_,_,_,_,some (.builtin n),_]=>D == C && n == newId && !cd.hasDel && tailIn K bmB tl && nsOkIn K cd.ns && nsIn K cd.ns "__init__" == some (some (.ref fI))
  | _,_=>false)
 | _=>false
theorem zkn{K:Frag}{h:Heap}{N:Addr}{m:Str->Option Value}{n:Str}{v:Value}(X:K.In h)(G:h.Ns N m)(e:nsIn K N n=some (some v)):m n=some v:=by
 obtain⟨o,es,ep,ho,hd,_,hf⟩:=G;unfold nsIn at e;split at e
 ·rename_i _ _ _ _ _ q
  have hq:=X _ _ q;rw[ho] at hq;cases hq;cases hd;split at e
  ·rename_i _ he
   cases e;rw[<-hf];show(nsFind _ _)=_;unfold nsFind findBy;rw[<-Array.find?_toList,he] <;> rfl
  ·split at e <;> cases e
 ·cases e
theorem zpm{K:Frag}{h:Heap}{C fI:Addr}{bm:List Value}{newId:String}(X:K.In h)(q:excI K C bm newId fI=true):
  ∃tl N nm qn bs hdct sn sub ab col dd k0 k1 k2 k3 k5 mN,h.get? C=some (ClsE nm qn C N bs tl hdct sn sub ab col dd k0 k1 k2 k3 k5 newId)/\h.Ns N mN/\mN "__init__" = some (.ref fI)/\OwnTail h bm tl:=by
 unfold excI at q;split at q
 case h_2=>cases q
 case h_1 dd cd sl ho =>
  split at q
  case h_2=>cases q
  case h_1 D tl k0 k1 k2 k3 n k5 hm hs =>
   simp only[Bool.and_eq_true,beq_iff_eq,Bool.not_eq_true'] at q;obtain⟨⟨⟨⟨⟨e1,e2⟩,hdel⟩,ht⟩,hok⟩,hni⟩:=q;subst e1;subst e2;obtain⟨nm,bs,mro,ns,qn,hd,sn,sub,ab,col,del⟩:=cd;obtain⟨sl⟩:=sl;dsimp only at hm hdel hok hni hs;subst hm;subst hdel;subst hs;have hN:=Heap.Ns.of_isNs (PySem.W.isNs_of_in X hok);exact⟨tl,ns,nm,qn,bs,hd,sn,sub,ab,col,dd,k0,k1,k2,k3,k5,_,X _ _ ho,hN,zkn X hN hni,PySem.W.tail_of_in X ht⟩
def tRaiseI(C:Addr)(sp:Sp)(E:XK)(ta:TA):TS:=fun _ σ H=>ta σ H fun vs H1=>vs.length<=sizeLine/\∀e t,H1 e=none->sp (.ref e :: vs) (upd H1 e (excN e C t)) (fun v H2=>v=.non/\∃d,H2 e=some (excF e C t d)/\E (.ref C) (some d) (My.del H2 e)) E0
theorem zb0 {X:Cx} {x:Str} {C fI:Addr} {fd:FuncData} {ps:List Str} {sp:Sp} {k:Nat} {e0:PySem.Expr} {rest:List PySem.Expr} {ta:TA} {B newId initId:String} {bm:List Value} {E:XK} {np cpos pos:Pos} (hg:Gl X x) (hm:X.mg x=some (.ref C)) (q:excI X.K C bm newId fI=true)
  (FB:ExcBaseFacts B newId initId bm) (hc:X.calm=true) (ho:RaiseOutI X E) (F:FnOk X.prog X.w X.K X.mg X.base CX0 k fI fd ps sp) (hr:Room (k+1) X.A) (hb:Binds X.K fd ps []) (hfn:isFn X.K (.ref fI)=true) (ha:PA X (e0 :: rest) ta) (hdb:(x == ("__debug__":Str))=false:=by decide)
  (he:starEach (e0 :: rest) X.env=(false,eval e0 X.env) :: starEach rest X.env:=by rfl) (hpl:(backTo cpos (starEach rest X.env)).any (·.1)=false:=by rfl) (hex:X.ex=[]:=by rfl) :
  PS X (.Raise (some (.Call (.Name x np) (e0 :: rest) [] cpos)) none pos) (tRaiseI C sp E ta):=by
 intro pins s σ H D I h;obtain⟨tl,N,nm,qn,bs,hdct,sn,sub,ab,col,dd,k0,k1,k2,k3,k5,mN,hC,hN,hni,TL⟩:=zpm I.ok.mod.kin q;obtain⟨oI,hoI,hcI⟩:∃oI,X.base.get? fI=some oI/\oI.cls=.type "function":=by
  obtain⟨o,ho,hc⟩:=Option.map_eq_some_iff.mp (show(X.K.lookup fI).map (·.cls)=some (.type "function") from beq_iff_eq.mp hfn);exact⟨o,I.ok.mod.kin _ _ ho,hc⟩
 refine zif (C:=C) (nm:=nm) (qn:=qn) (N:=N) (bs:=bs) (tl:=tl) (hdct:=hdct) (sn:=sn) (sub:=sub) (ab:=ab) (col:=col) (dd:=dd) (k0:=k0) (k1:=k1) (k2:=k2) (k3:=k3) (k5:=k5) (oI:=oI)
  FB (mN:=mN) (TL.hasType FB.hasBase) (I.ok.hd hc) ?_ hni hcI (zfb I hg hm ⟨rfl,?_⟩ hdb)
 ·rw[he];show(false || (backTo cpos (starEach rest X.env)).any (·.1))=false;rw[hpl];rfl
 ·have hargs:=ha cpos pins s σ H _ I h;rw[he] at hargs ⊢;refine Calls.evalArgs_plain (thn hargs fun us s1 ⟨vs,H1,I1,r,z,q1⟩=>⟨rfl,?_,I1.bk _ _ hC,hN.keeps I1.bk,TL.keeps I1.bk,I1.bk _ _ hoI,fun h' e t hx ht=>?_⟩)
  ·rw[<-r.length];exact z
  have n1:H1 e=none:=zce I1.hok hx.new;have I2:Inv X pins σ (upd H1 e (excN e C t)) { s1 with heap:=h' }:=I1.put (t':=s1.toks) hx.keeps hx.new (zsn ht);have n0:X.s₀.heap.get? e=none:=by
   cases y:X.s₀.heap.get? e with
   | none=>rfl
   | some o =>
    obtain⟨o1,y1⟩:=I1.base.there e o y (by rw[hex]; simp);rw[hx.new] at y1;cases y1
  have q2:=q1 e t n1;have rv:Vals (.ref e :: vs) (.ref e :: us):=.cons rfl r;have hl:(Value.ref e :: us).length=ps.length:=by rw[<-rv.length]; exact F.len _ _ _ _ q2
  refine wpAny_call (codeAny_mono (F.run _ X.stack _ _ ⟨.ref e :: us,[]⟩ (.ref e :: us) (.ref e :: vs) _ E0 (hr.make C us []) (I2.env0.make C us []) (by have:=hb { s1 with heap:=h' } (.ref e :: us) I2.kIn (by simpa using hl); simpa using this) rv q2) fun r' s' hq=>?_);cases r' with
  | error e=>exact False.elim hq
  | ok fl =>
   cases fl with
   | next=>exact False.elim hq
   | brk=>exact False.elim hq
   | cont=>exact False.elim hq
   | ret u =>
    obtain⟨v,H3,I3,rv3,e3,d,hd3,hE3⟩:=I2.after hq;subst e3;obtain rfl:u=Value.none:=rv3;exact⟨rfl,⟨some d,zgy I3.hok hd3⟩,I3.bk _ _ hC,ho pins σ H3 s' e C t d I3 hd3 n0 hE3⟩
section
variable {prog:Program} {w:World} {A:Around} {E:Value->Shared->Prop} {s:Shared} {K:Frag} {x C d:Addr} {ox:Obj} {name:Str} {v:Value} {m:Str->Option Value} {ns:List Str}
theorem xset2 {Q:Unit->Shared->Prop} (X:K.In s.heap) (hx:s.heap.get? x=some ox) (hcl:ox.cls=.ref C) (hdn:ox.dict=some d) (hno:notCls ox=true) (hN:s.heap.Ns1 d m) (hw:Within m ns) (hz:ns.length<=100)
  (hs:findIn K (.ref C) "__setattr__" = some (some (.builtin "object.__setattr__"))) (hm:exIn K C=true) (hn:findIn K (.ref C) name=some none)
  (h:∀h' tk,h'.Ns1 d (fun y=>if y=name then some v else m y)->(∀b o,b≠d->s.heap.get? b=some o->h'.get? b=some o)->Q () { s with heap:=h',toks:=tk }) :
  wpAny (model prog w) A (setAttr (.ref x) name v) Q E s:=by
 obtain⟨od,es,ep,ho,hdd,_⟩:=id hN;have I:InstAt s.heap x ox C (some od):=⟨hx,hcl,hno,by rw[hdn]; exact ho⟩;obtain⟨cd,hc,hcd⟩:=any_some hm;rw[Bool.and_eq_true] at hcd;obtain⟨hhd,hmro⟩:=hcd;obtain⟨m1,m2,m3⟩:=zea hmro;have SF:=PySem.F.store_object;refine set_plain X I hs ?_;obtain⟨hp,g,dr,tk,os⟩:=s;dsimp only at X hx I h hN ho ⊢;have sub:Looks (model prog w) hp (isInstance (.ref x) (.type "object")) true:=I.type.andThen (looks_mroIn X (by unfold mroIn; rw[hc,Option.bind_some,if_neg (by rw[m3]; decide),m2]));refine codeAny_call_builtin SF.slot.plain SF.entry (@check_slot (model prog w) _ _ ⟨hp,g,dr,tk+1,os⟩ "object.__setattr__" "object" "__setattr__" (.ref x) [.str name tk,v] [] _ SF.kind SF.split sub (SF.args (.ref x) (.str name tk) v) ?_);have hmo:Looks (model prog w) hp (mroOf (.ref C)) cd.mro:=(looks_clsIn X hc).andThen .now;rw[osa_eq,refuse_eq];refine wpAny_bind (wpAny_bind (I.type.at (wpAny_bind (hmo.at ?_))));rw[m1];refine wpAny_pure (wpAny_bind (I.type.at (wpAny_bind ((looks_findIn X hn).at (wpAny_bind (Looks.now.at ?_))))));show wpAny _ _ (Builtin.ObjectAttr.storeInOwnDict (.ref x) (.ref C) (.str name tk) name v false) _ _ _;obtain⟨oc,odi,oda,osl⟩:=ox;dsimp only at hcl hdn;subst hcl;subst hdn;refine wpAny_bind (wpAny_pure (wpAny_bind (wpAny_bind (wpAny_loadPart hx (wpAny_bind ((looks_clsIn X hc).at ?_))))));rw[hhd];refine wpAny_pure ?_;show wpAny _ _ (Builtin.ObjectAttr.storeInDict d (.str name tk) name v) _ _ _;unfold Builtin.ObjectAttr.storeInDict Builtin.ObjectAttr.newKeyGuard;refine wpAny_bind (wpAny_pure (wpAny_bind (wpAny_nsSet1 hN fun h' hn' hs=>?_)));obtain⟨oD,esD,epD,hoD,hdD,hcD⟩:=hn'.count (Within.cons name v hw);refine wpAny_bind (wpAny_lookBehind hoD (by rw[hdD]; exact pastItsLine_dict (Nat.le_trans hcD (by rw[List.length_cons,sizeLine_eq]; omega))) ?_);refine wpAny_pure ?_;exact h h' _ hn' fun b o n e=>(hs.2 b n).trans e
end
section
variable {X:Cx} {pins:List (Addr×Obj)} {σ:St} {H:Hp} {s:Shared} {h':Heap}
theorem Inv.putX{d:Addr}{fs gs:List (Str×V)}{t':Nat}(I:Inv X pins σ H s)(ha:H d=some (.xd fs))(k:∀b u,b≠d->s.heap.get? b=some u->h'.get? b=some u)(hex:∃u,h'.get? d=some u)(new:ObjOk X.prog X.w (upd H d (.xd gs)) h' d (.xd gs)):Inv X pins σ (upd H d (.xd gs)) { s with heap:=h',toks:=t' }:=by
 have nh:∀{b:Addr},H b=none->b≠d:=fun e z=>by rw[z,ha] at e; cases e
 have old:∀{b:Addr} {o:HO},b≠d->H b=some o->upd H d (.xd gs) b=some o:=fun n e=>by rw[upd_ne n]; exact e
 have na:∀{b:Addr} {o:HO},H b=some o->(∀ys,o≠.xd ys)->b≠d:=fun e n z=>by rw[z,ha] at e; exact n fs (Option.some.inj e).symm
 refine I.un ⟨fun b u q n _ _=>k b u (nh n) q,fun b u q n _ _=>⟨u.slots,k b u (nh n) q⟩,fun b u q n _=>by rw[upd_ne (nh n)]; exact n,fun b u q _=>?_,fun b xs q=>old (na q fun _ z=>by cases z) q,fun b u xs q=>old (na q fun _ z=>by cases z) q,fun b ps q=>⟨#[],by rw[old (na q fun _ z=>by cases z) q]; simp⟩⟩ fun b u e=>?_
 ·by_cases z:b=d
  ·rw[z]; exact hex
  ·exact⟨u,k b u z q⟩
 ·by_cases z1:b=d
  ·subst z1; rw[za1] at e; cases e; exact new
  rw[upd_ne z1] at e;refine(I.hok b u e).stay (fun c v hc q=>k c v ?_ q) (fun c q=>old (na q fun _ z=>by cases z) q) fun c xs q=>old (na q fun _ z=>by cases z) q
  rcases hc with rfl | hc
  ·exact z1
  ·exact na hc fun _ z=>by cases z
end
def sFldX2(K:Frag)(ta tv:TE)(f g:Str):TS:=fun D σ H=>tv σ H fun y H1=>ta σ H1 fun x H2=>∃a C t d z,x=.ref a/\H2 a=some (excF a C t d)/\H2 d=some (.xd [(g,z)])/\XStore K C f/\D.nx σ (upd H2 d (.xd [(f,y),(g,z)]))
theorem zoj{X:Cx}{o value:PySem.Expr}{f g:Str}{pos pos':Pos}{ta tv:TE}(ha:PE X o ta)(hv:PE X value tv)(hs:swapsWith value (some (.Attribute o f pos')) pos.line X.env=pure false):PS X (.Assign [.Attribute o f pos'] value pos) (sFldX2 X.K ta tv f g):=by
 intro pins s σ H D I h;refine plainObj_wpAny_Assign_Attribute (thn (hv pins s σ H _ I h) fun u s1 ⟨y,H1,I1,ry,q⟩=>thn (ha pins s1 σ H1 _ I1 q) fun ov s2 ⟨x,H2,I2,rx,a,C,t,d,z,ex,ea,ed,⟨x1,x2,x3⟩,q2⟩=>?_) hs;subst ex;obtain rfl:ov=Value.ref a:=rx;have ga:=zgy I2.hok ea;obtain⟨m,hN,hm⟩:=I2.hok d _ ed;have hw:Within m [g]:=fun y hy=>by
  by_cases e:y=g
  ·exact List.mem_singleton.mpr e
  ·have:=hm y
   rw[List.lookup_cons,show(y == g)=false by simp[e],List.lookup_nil] at this;cases q:m y with
   | none=>exact absurd q hy
   | some v=>rw[q] at this; exact absurd this id
 refine xset2 I2.kIn ga rfl rfl rfl hN hw (by show 1<=100; decide) x1 x2 x3 fun h' tk hn hk=>⟨σ,_,?_,q2⟩
 obtain⟨o,es,ep,e1,_⟩:=id hn;refine I2.putX (t':=tk) ed hk ⟨_,e1⟩ ⟨_,hn,fun y=>?_⟩;rw[List.lookup_cons];by_cases e:y=f
 ·subst e;rw[beq_self_eq_true];simp only[if_true];exact ry
 ·rw[show(y == f)=false by simp[e],if_neg e];exact hm y
end L2
namespace My
open PySem L2 PySem.Spec PyProof.Rows
section
variable {X:Cx} {pins:List (Addr×Obj)} {σ:L2.St} {H:Hp} {s:Shared}
end
end My
namespace L2
open PySem PySem.Spec PyProof.Rows
section
variable {X:Cx}
def rIndex:V->List V->Hp->VK->Prop:=fun x vs H Q=>∃(l:Addr) (ns:List Int) (k:Int),x=.ref l/\vs=[.int k]/\H l=some (.lst (ns.map V.int))/\k∈ns/\ns.length<=1000000/\Q (.int ((ns.idxOf k:Nat):Int)) H
theorem zgr:MtM X "list.index" rIndex:=by
 intro pins s σ H x vs v us Q I rx rv h;obtain⟨l,ns,k,rfl,rfl,hH,hk,hz,q⟩:=h;cases rx;obtain⟨u,rfl,ru⟩:=rv.one;obtain⟨t,rfl⟩:=ru;obtain⟨z,its,n,r,hl,e⟩:=I.lstM hH;have hi:=zcr r;have hlen:=hi.length;have hj:ns.idxOf k<ns.length:=List.idxOf_lt_length_iff.mpr hk;refine call_meets PySem.F.slot_list_index ⟨_,e,rfl⟩ PySem.F.entry_list_index (PySem.F.args_list_index_2 _ _)
  (MeetsSeq.list_index l its.toArray n (.int k t) (isInt k) (fun y hy=>eq_isInt k t hi y (by simpa using hy)) (ns.idxOf k) (by simpa [hlen] using hj) (by omega) ?_ ?_) ⟨e,⟨.int ((ns.idxOf k:Nat):Int),H,I.tok _,⟨_,rfl⟩,q⟩⟩
 ·show isInt k its[ns.idxOf k]=true;rw[isInt_at k hi _ (by omega) hj];simpa using List.getElem_idxOf hj
 ·intro j hjs hlt;show isInt k its[j]=false;rw[isInt_at k hi j (by simpa using hjs) (by omega)];exact ne_of_lt_idxOf hlt _
end
section
variable {X:Cx} {K:PySem.W.Frag}
theorem ixT(h:X.K=K:=by rfl):IxR X (rIxT K):=h ▸ zqi
theorem ixL(h:X.K=K:=by rfl):IxR X (rIxL K):=h ▸ zse
theorem slT(h:X.K=K:=by rfl):SlR X (rSlT K):=h ▸ zq4
theorem slL(h:X.K=K:=by rfl):SlR X (rSlL K):=h ▸ zrd
theorem callLen(h:X.K=K:=by rfl):CallR X (.builtin "len") (LenR K):=h ▸ zi2
theorem callTup(h:X.K=K:=by rfl):CallR X (.type "tuple") (fun xs H Q=>∃p ys,xs=[.ref p]/\((SqL K H p ys/\∀l,H l=none->Q (.ref l) (upd H l (.tup ys)))\/(SqT K H p ys/\Q (.ref p) H))):=h ▸ zd1
theorem callLst(h:X.K=K:=by rfl):CallR X (.type "list") (fun xs H Q=>∃p ys,xs=[.ref p]/\(SqL K H p ys\/SqT K H p ys)/\∀l,H l=none->Q (.ref l) (upd H l (.lst ys))):=h ▸ zi1
theorem pgTup {es:List PySem.Expr} {k:Nat} {t:TGs} {n:Nat} {pos:Pos} (hc:X.calm=true) (g:PGs X es t) (h:X.K=K:=by rfl)
  (hn:(assignEach es X.env).length=n:=by rfl) (hst:(assignEach es X.env).findIdx? (·.1)=none:=by rfl):PG X (.Tuple es k pos) (gTup K n t):=h ▸ zqd hc g hn hst
theorem piTup{tg l:PySem.Expr}{tl:TE}(hl:PE X l tl)(h:X.K=K:=by rfl):PI X tg l (iTup K tl):=h ▸ zlr hl
theorem piLst{tg l:PySem.Expr}{tl:TE}(hl:PE X l tl)(h:X.K=K:=by rfl):PI X tg l (iList K tl):=h ▸ zrn hl
end
section
variable {prog:Program} {w:World} {A:Around} {E:Value->Shared->Prop} {s:Shared}
theorem zj1 {t:Addr} {vs:List Value} {Q:List Value->Shared->Prop} (ht:s.heap.IsTuple t vs.toArray) (hsz:vs.length<=sizeLine)
  (h:Q vs { s with heap:=(s.heap.push (seqObj "list" #[] 0)).update s.heap.objs.size (Obj.mapSeq (·++vs.toArray)) }):wpAny (model prog w) A (collect (.ref t)) Q E s:=by
 obtain⟨ot,e1,e2,n,e3⟩:=id ht;unfold collect; refine wpAny_bind (wpAny_runValue (codeAny_builtin entry_proto_collect' ?_)); show wpAny _ _ (do again (.builtin "list.__iadd__" ⟨[<-newList [],.ref t],[]⟩)) _ _ s;refine wpAny_bind (wpAny_newList (wpAny_pure ⟨Code.quiet_builtin _ (by decide +kernel),codeAny_builtin entry_list_iadd' ?_⟩)); show wpAny _ _ (Builtin.List.listExtendWith (.ref s.heap.objs.size) (.ref t) (.ref s.heap.objs.size)) _ _ { s with heap:=s.heap.push (seqObj "list" #[] 0) };unfold Builtin.List.listExtendWith; have e4:(s.heap.push (seqObj "list" #[] 0)).get? t=some ot:=Heap.get?_push_of_some _ e1;refine wpAny_bind (wpAny_typeOf (T:="tuple") ⟨ot,e4,e2⟩ ?_); have e5:(Value.type "tuple" == Value.type "tuple")=true:=by rfl
 rw[if_pos (by rw[e5]; simp)]; refine wpAny_bind (listItems_at e4 e3 (wpAny_bind (listItems_at (xs:=#[]) (n:=0) (Heap.get?_push_size _ rfl) rfl ?_)));rw[if_neg (by simp)]; refine wpAny_bind (listUpdate_at (xs:=#[]) (n:=0) (Heap.get?_push_size _ rfl) rfl (wpAny_pure ?_) (Nat.zero_le _) (by show(#[]++vs.toArray).size<=sizeLine+1; simp only[Array.size_append,List.size_toArray,List.length_nil]; omega));show wpAny (model prog w) A (do let o <-load s.heap.objs.size; match o.data with | .seq xs _=>pure xs.toList | _=>unsupported "internal:collect") Q E { s with heap:=(s.heap.push (seqObj "list" #[] 0)).update s.heap.objs.size (Obj.mapSeq (·++vs.toArray)) };refine wpAny_bind (wpAny_load (get?_update_seq (Heap.get?_push_size _ rfl) _) ?_); show wpAny _ _ (pure ((#[]:Array Value)++vs.toArray).toList) Q E _;rw[show((#[]:Array Value)++vs.toArray).toList=vs by simp]; exact wpAny_pure h
theorem zke {t:Addr} {vs:List Value} {ns:List Int} {Q:Value->Shared->Prop} (ht:s.heap.IsTuple t vs.toArray) (hI:IntsAre vs ns) (h64:vs.length<64)
  (h:∀(out:Array Value) (ns':List Int),IntsAre out.toList ns'->ns'.Perm ns->ns'.Pairwise (·<=·)->Q (.ref (s.heap.objs.size+1)) { s with heap:=sortedAll s.heap vs out }):wpAny (model prog w) A (call (.builtin "sorted") [.ref t]) Q E s:=by
 refine Calls.call_function_entry kind_sorted plain_sorted entry_sorted (args_sorted1 _) ?_; unfold Builtin.«sorted»;refine wpAny_bind (m:=checkCount "sorted" 1 1 _) (wpAny_pure (wpAny_bind (zj1 ht (by rw[sizeLine_eq]; omega) (wpAny_bind (wpAny_newList ?_)))));have sz:((s.heap.push (seqObj "list" #[] 0)).update s.heap.objs.size (Obj.mapSeq (·++vs.toArray))).objs.size=s.heap.objs.size+1:=by rw[Heap.size_update,size_push']
 have hL:(((s.heap.push (seqObj "list" #[] 0)).update s.heap.objs.size (Obj.mapSeq (·++vs.toArray))).push (seqObj "list" vs.toArray 0)).get? (s.heap.objs.size+1)=some (seqObj "list" vs.toArray 0):=by rw[<-sz]; exact Heap.get?_push_size _ rfl
 show wpAny _ _ _ _ _ { s with heap:=((s.heap.push (seqObj "list" #[] 0)).update s.heap.objs.size (Obj.mapSeq (·++vs.toArray))).push (seqObj "list" vs.toArray 0) }; rw[sz];refine wpAny_bind (wpAny_holding (wpAny_call_entry slot_list_sort ⟨_,hL,rfl⟩ entry_list_sort (list_sort_tree hL hI h64 fun out ns' a1 a2 a3=>⟨_,rfl,wpAny_pure ⟨_,rfl,h out ns' a1 a2 a3⟩⟩) (args_list_sort _)))
end
section
variable {X:Cx}
theorem zr2{ns:List Int}:∀{us:List Value},IntsAre us ns->Vals (ns.map V.int) us:=by
 induction ns with
 | nil=>intro us r; cases r; exact .nil
 | cons n ns ih =>
  intro us r;cases r with
  | cons=>exact .cons ⟨_,rfl⟩ (ih (by assumption))
theorem zl1:CallR X (.builtin "sorted") (fun xs H Q=>∃(p:Addr) (ns:List Int),xs=[.ref p]/\H p=some (.tup (ns.map V.int))/\ns.length<64/\∀(l:Addr) (ms:List Int),H l=none->ms.Perm ns->ms.Pairwise (·<=·)->Q (.ref l) (upd H l (.lst (ms.map V.int)))):=by
 intro pins s σ H xs us Q I r h;obtain⟨p,ns,rfl,hp,h64,q⟩:=h;obtain⟨u,rfl,r1⟩:=vals1 r;cases r1;obtain⟨its,rv,pa,_⟩:=I.tuple (SqT.of (K:=X.K) hp);have hlen:its.length=ns.length:=by rw[<-rv.length,List.length_map]
 refine zke pa (zcr rv) (by omega) fun out ms a1 a2 a3=>?_
 obtain⟨e,he⟩:=sortedAll_at s.heap its out;have hz:(ms.map V.int).length<=sizeLine:=by rw[List.length_map,a2.length_eq,sizeLine_eq]; omega
 have hn:H (s.heap.objs.size+1)=none:=I.hok.fresh (Nat.le_succ _);exact⟨.ref (s.heap.objs.size+1),_,I.laid (t':=s.toks) (fun _ _=>sortedAll_old) (Nat.le_succ _) (show ObjOk X.prog X.w _ _ _ (.lst (ms.map V.int)) from ⟨hz,out.toList,e,zr2 a1,he⟩),rfl,q _ ms hn a2 a3⟩
end
end L2
namespace L2
open PySem PySem.Spec PyProof.Rows PySem.SeqAt
section
variable {prog:Program} {w:World} {A:Around} {E:Value->Shared->Prop}
abbrev srch(items:Array Value)(x:Value):Nat->Option PySem.Fin×PUnit->Sem (ForInStep (Option PySem.Fin×PUnit)):=fun i _=>match items[i]? with
 | some y=>do let b <-eqBool y x; if b=true then (do let r <-retInt (i:Int); pure (ForInStep.done (some r,()))) else pure (ForInStep.yield (none,()))
 | _=>pure (ForInStep.yield (none,()))
theorem zpd(items:Array Value)(x:Value)(e:Value->Bool)(j:Nat)(hj:j<items.size)(hit:e items[j]=true)(hno:∀m (hm:m<items.size),m<j->e items[m]=false){Q:Option PySem.Fin×PUnit->Shared->Prop}:
  ∀(k i:Nat) (s:Shared),i+k=j->(∀y,y∈items->EqAt A s y x (e y))->Q (some (.done (.ret (.int j s.toks))),()) { s with toks:=s.toks+1 } →
   wpAny (model prog w) A (forIn (List.range' i (items.size-i) 1) ((none:Option PySem.Fin),()) (srch items x)) Q E s:=by
 intro k
 induction k with
 | zero =>
  intro i s hi he q;have e1:i=j:=by omega
  subst e1;rw[show items.size-i=(items.size-i-1)+1 by omega,List.range'_succ,List.forIn_cons];refine wpAny_bind ?_;show wpAny _ _ (match items[i]? with | some y=>_ | _=>_) _ _ s;rw[show items[i]?=some items[i] by simp[hj]];refine wpAny_bind (he _ (Array.getElem_mem hj) prog w _ _ ?_);rw[hit]
  wp_walk
  exact q
 | succ k ih =>
  intro i s hi he q;have hl:i<items.size:=by omega
  rw[show items.size-i=(items.size-(i+1))+1 by omega,List.range'_succ,List.forIn_cons];refine wpAny_bind ?_;show wpAny _ _ (match items[i]? with | some y=>_ | _=>_) _ _ s;rw[show items[i]?=some items[i] by simp[hl]];refine wpAny_bind (he _ (Array.getElem_mem hl) prog w _ _ ?_);rw[hno i hl (by omega)];exact wpAny_pure (ih (i+1) s (by omega) he q)
set_option maxHeartbeats 1000000 in
theorem zg6 (t:Addr) (items:Array Value) (n:Nat) (dd:Option Addr) (sl:Array (Option Value)) (x:Value) (e:Value->Bool) (j:Nat) (hj:j<items.size)
  (hit:e items[j]=true) (hno:∀m (hm:m<items.size),m<j->e items[m]=false) :
  Meets (Builtin.«tuple.index» ⟨[.ref t,x],[]⟩) (fun A R s=>s.heap.get? t=some { cls:=.type "tuple",dict:=dd,data:=.seq items n,slots:=sl }/\(∀y,y∈items->EqAt A.in1 s y x (e y))/\R (.ok (.ret (.int j s.toks))) { s with toks:=s.toks+1 }):=by
 intro prog w A R s h;obtain⟨hp,g,d,tk,os⟩:=s; obtain⟨ht,he,h⟩:=h
 wp_walk using AutoSeq1.wpAny_loadPart' ht
 show wpAny (model prog w) A.in1 (forIn [:min items.size items.size] ((none:Option PySem.Fin),()) (srch items x)) _ _ _;rw[Std.Legacy.Range.forIn_eq_forIn_range'];simp only[Std.Legacy.Range.size,Nat.min_self,Nat.sub_zero,Nat.add_sub_cancel,Nat.div_one];refine zpd (A:=A.in1) items x e j hj hit hno j 0 _ (by omega) he ?_
 wp_walk
 exact h
end
section
variable {X:Cx}
def rIndexT:V->List V->Hp->VK->Prop:=fun x vs H Q=>∃(l:Addr) (ns:List Int) (k:Int),x=.ref l/\vs=[.int k]/\H l=some (.tup (ns.map V.int))/\k∈ns/\Q (.int ((ns.idxOf k:Nat):Int)) H
theorem zmc:MtM X "tuple.index" rIndexT:=by
 intro pins s σ H x vs v us Q I rx rv h;obtain⟨l,ns,k,rfl,rfl,hH,hk,q⟩:=h;cases rx;obtain⟨u,rfl,ru⟩:=rv.one;obtain⟨t,rfl⟩:=ru;obtain⟨its,r,⟨⟨c,dct,dt,sl⟩,e,hc,n,hd⟩,_⟩:=I.tuple (SqT.of (K:=X.K) hH);obtain rfl:c=.type "tuple":=hc;obtain rfl:dt=.seq its.toArray n:=hd;have hi:=zcr r;have hlen:=hi.length;have hj:ns.idxOf k<ns.length:=List.idxOf_lt_length_iff.mpr hk;refine call_meets PySem.F.slot_tuple_index ⟨_,e,rfl⟩ PySem.F.entry_tuple_index (PySem.F.args_tuple_index_2 _ _)
  (zg6 l its.toArray n dct sl (.int k t) (isInt k) (ns.idxOf k) (by simpa [hlen] using hj) ?_ ?_) ⟨e,fun y hy=>(eq_isInt k t hi y (by simpa using hy)).at _ _,⟨.int ((ns.idxOf k:Nat):Int),H,I.tok _,⟨_,rfl⟩,q⟩⟩
 ·show isInt k its[ns.idxOf k]=true;rw[isInt_at k hi _ (by omega) hj];simpa using List.getElem_idxOf hj
 ·intro j hjs hlt;show isInt k its[j]=false;rw[isInt_at k hi j (by simpa using hjs) (by omega)];exact ne_of_lt_idxOf hlt _
end
end L2
namespace HT
open PySem PySem.Spec PyProof.Rows L2
section
variable {prog:Program} {w:World} {A:Around} {E:Value->Shared->Prop} {s:Shared}
theorem getItem_tuple_all {t sl:Addr} {items:Array Value} {vl vu:Value} {lo hi:Option Int} {Q:Value->Shared->Prop} (ht:IsTup s.heap t items) (hs:s.heap.IsSliceOf sl vl vu .none) (pl:IsPart vl lo) (pu:IsPart vu hi)
  (hw:sIx items.size 0 lo=0/\sIx items.size items.size hi=items.size) (h:Q (.ref t) s):wpAny (model prog w) A (getItem (.ref t) (.ref sl)) Q E s:=by
 obtain⟨os,hos,hcs,hds⟩:=id hs;have hTs:s.TypeIs (.ref sl) "slice":=⟨os,hos,hcs⟩; unfold getItem; try with_reducible refine wpAny_holding ?_
 first | refine wpAny_bind (wpAny_pure ?_) | skip
 refine wpAny_bind (wpAny_sequenceKey ht.typeIs (by decide) (wpAny_bind (wpAny_callSpecial?_slot (name:=Str.ofString "__getitem__") ht.typeIs PyProof.Rows.slot_tuple_getitem (wpAny_call_entry PyProof.Rows.slot_tuple_getitem ht.typeIs entry_tuple_getitem ?_ (args_tuple_getitem _ _)))));show wpAny _ _ (Builtin.Tuple.tupleItemsOf (.ref t) >>= _) _ _ s; refine wpAny_bind (tupleItemsOf_ ht (wpAny_bind (wpAny_typeOf hTs ?_)));rw[if_pos (by decide)]; refine wpAny_bind (zd3 hs pl pu ?_);have yes:((((sIx items.size 0 lo:Nat):Int) == 0 && (1:Int) == 1 && (sIx items.size items.size hi-sIx items.size 0 lo) == items.size)=true):=by rw[hw.1,hw.2]; simp
 show wpAny _ _ (if (((sIx items.size 0 lo:Nat):Int) == 0 && (1:Int) == 1 && (sIx items.size items.size hi-sIx items.size 0 lo) == items.size)=true then _ else _) _ _ s; rw[if_pos yes];unfold Builtin.Tuple.tupleIsExact; refine wpAny_bind ?_
 first | refine wpAny_bind (wpAny_typeOf ht.typeIs (wpAny_pure ?_)) | refine wpAny_typeOf ht.typeIs ?_
 first
  | (rw[if_pos (by decide)]; refine wpAny_bind (wpAny_rule (wpAny_pure ⟨_,rfl,wpAny_pure h⟩)))
  | (rw[if_pos (by rfl)]; exact wpAny_bind (wpAny_rule (wpAny_pure ⟨_,rfl,wpAny_pure h⟩)))
end
end HT
namespace L2
open PySem PySem.Spec PyProof.Rows
section
variable {X:Cx} {K:PySem.W.Frag}
def rSlTA(K:PySem.W.Frag):V->Option Int->Option Int->Hp->VK->Prop:=fun x lo hi H Q=>∃a xs,x=.ref a/\SqT K H a xs /\
 ((HT.sIx xs.length 0 lo=0/\HT.sIx xs.length xs.length hi=xs.length)->Q (.ref a) H)/\(¬(HT.sIx xs.length 0 lo=0/\HT.sIx xs.length xs.length hi=xs.length)->∀p,H p=none->Q (.ref p) (upd H p (.tup (cutV xs lo hi))))
theorem zrc:SlR X (rSlTA X.K):=by
 intro pins s σ H x v vl vu lo hi sl Q I rx hs pl pu h;obtain⟨a,xs,rfl,hx,q1,q2⟩:=h;by_cases hw:HT.sIx xs.length 0 lo=0/\HT.sIx xs.length xs.length hi=xs.length
 ·cases rx;obtain⟨its,r,ht,hz⟩:=I.tuple hx;have hlen:its.toArray.size=xs.length:=by rw[List.size_toArray]; exact r.length.symm
  exact⟨"tuple",_,PyProof.Rows.slot_tuple_getitem.lookup,ht.typeIs,HT.getItem_tuple_all ht hs pl pu (by rw[hlen]; exact hw) ⟨.ref a,H,I,rfl,q1 hw⟩⟩
 ·exact zq4 pins s σ H _ v vl vu lo hi sl Q I rx hs pl pu ⟨a,xs,rfl,hx,hw,q2 hw⟩
theorem slTA(h:X.K=K:=by rfl):SlR X (rSlTA K):=h ▸ zrc
end
section
variable {X:Cx}
theorem zhb(ns:List Int):SeqAt.shaped (.list (ns.map PyData.int))=true:=by
 simp[SeqAt.shaped,PyData.canLay0,PyData.depth,PySem.W.ke_canLayAll0,PySem.W.ke_depthAll]
end
section
variable {X:Cx}
theorem zr5{pins:List (Addr×Obj)}{σ:St}{H:Hp}{s:Shared}{p:Addr}{xs:List V}(I:Inv X pins σ H s)(ty:H p=some (.tup xs)):
  s.TypeIs (.ref p) "tuple"/\∀a,Value.ref p=.ref a->∃ob,s.heap.get? a=some ob/\ob.dict=none:=by
 obtain⟨_,its,r,⟨o,e,c⟩,o2,e2,c2⟩:=I.hok p _ ty;exact⟨⟨o,e,c.1⟩,fun a ea=>by cases ea; exact⟨o2,e2,c2⟩⟩
def tBT(r:V->List V->Hp->VK->Prop)(to:TE)(t:TA):TE:=fun σ H Q=>to σ H fun x H1=>(∃p xs,x=.ref p/\H1 p=some (.tup xs))/\t σ H1 fun xs H2=>r x xs H2 Q
variable {o e:Expr} {es:List Expr} {to:TE} {t:TA} {name:Str} {apos cpos:Pos} {id:String} {r:V->List V->Hp->VK->Prop}
theorem pe_bmT (pa:PlainAttrs "tuple") (slot:Slot "tuple" name id) (hty:typeOf (.builtin id)=pure (.type "method_descriptor")) (hm:MtM X id r) (ho:PE X o to) (ha:PA X (e :: es) t)
  (hbase:attributeBase o name X.env (eval o X.env)=eval o X.env:=by rfl)
  (hfew:((backTo cpos (starEach (e :: es) X.env)).all (fun x=>!x.1) && (backToKw cpos (keywordEach [] X.env)).all (fun x=>x.1.isSome)
   && decide ((e :: es).length+([]:List Keyword).length+(if ([]:List Keyword).isEmpty then 0 else 1)<30))=true:=by rfl)
  (hline:(apos.endLine == cpos.line)=true:=by rfl) (hs:starEach (e :: es) X.env=(false,eval e X.env) :: starEach es X.env:=by rfl) (hplain:(backTo cpos (starEach es X.env)).any (·.1)=false:=by rfl) :
  PE X (.Call (.Attribute o name apos) (e :: es) [] cpos) (tBT r to t):=by
 intro pins s σ H Q I h;refine wpAny_Call_method_late hbase hfew hline rfl (thn (ho pins s σ H _ I h) fun v s1 ⟨x,H1,I1,r1,⟨p,xs,ex,hp⟩,q1⟩=>?_);subst ex;cases r1;obtain⟨h1,h2⟩:=zr5 I1 hp;refine⟨"tuple",id,pa,slot,hty,h1,h2,?_⟩;have hA:=ha cpos pins s1 σ H1 _ I1 q1;rw[hs] at hA ⊢;refine Calls.callWith_builtin (by show(false || (backTo cpos (starEach es X.env)).any (·.1))=false; rw[hplain] <;> rfl) (Calls.evalArgs_plain ?_);exact thn hA fun us s2 ⟨vs,H2,I2,r2,q2⟩=>hm pins s2 σ H2 (.ref p) vs (.ref p) us Q I2 rfl r2 q2
end
inductive RdD(H:Hp):V->PyData->Prop
 | int (i:Int):RdD H (.int i) (.int i)
 | bl (b:Bool):RdD H (.bl b) (.bool b)
 | str (z:Str):RdD H (.str z) (.str z)
 | tup {p:Addr} {xs:List V} {ds:List PyData} (h:H p=some (.tup xs)) (hl:xs.length=ds.length) (hd:∀(i:Nat) (x:V) (d:PyData),xs[i]?=some x->ds[i]?=some d->RdD H x d):RdD H (.ref p) (.tuple ds)
theorem RdD.keep{H H':Hp}(s:Same H H'){v:V}{d:PyData}(h:RdD H v d):RdD H' v d:=by
 induction h with
 | int i=>exact .int i
 | bl b=>exact .bl b
 | str z=>exact .str z
 | tup h hl hd ih=>exact .tup (s _ _ h) hl ih
section
variable {X:Cx} {pins:List (Addr×Obj)} {σ:L2.St} {H:Hp} {s:Shared}
theorem zhg(h:Heap):∀{xs:List V} {its:List Value} {ds:List PyData},Vals xs its->xs.length=ds.length->(∀(i:Nat) (x:V) (d:PyData),xs[i]?=some x->ds[i]?=some d->∀u,RelV x u->Reads h u d [])->ReadsAll h its ds []
 | [],_,ds,.nil,hl,_=>by
  have:ds=[]:=List.length_eq_zero_iff.mp hl.symm
  subst this;exact .nil
 | x :: xs,_,[],_,hl,_=>by simp at hl
 | x :: xs,_,d :: ds,.cons r rs,hl,hd =>
  .cons (as:=[]) (bs:=[]) (hd 0 x d rfl rfl _ r) (zhg h rs (by simpa using hl) fun i x' d' e1 e2=>hd (i+1) x' d' (by simpa using e1) (by simpa using e2))
theorem zje(I:Inv X pins σ H s){v:V}{d:PyData}(h:RdD H v d):∀u,RelV v u->Reads s.heap u d []:=by
 induction h with
 | int i =>
  intro u r;obtain⟨t,rfl⟩:=r;exact .int _ _
 | bl b =>
  intro u r;cases r;exact .bool _
 | str z =>
  intro u r;obtain⟨t,rfl⟩:=r;exact .str _ _
 | tup h hl hd ih =>
  intro u r;cases r;obtain⟨its,rv,tp,_⟩:=I.tuple (SqT.of (K:=X.K) h);obtain⟨o,ho,hc,n,hd'⟩:=tp;exact .tuple ho hc hd' (by simpa using zhg s.heap rv hl ih)
inductive Shp:Nat->PyData->Prop
 | int {n:Nat} (i:Int):Shp n (.int i)
 | bl {n:Nat} (b:Bool):Shp n (.bool b)
 | tup {n:Nat} {ds:List PyData} (h:∀d∈ds,Shp n d):Shp (n+1) (.tuple ds)
theorem zfc:∀{ds:List PyData},(∀d∈ds,d.canLay0=true)->PyData.canLayAll0 ds=true
 | [],_=>rfl
 | d :: ds,h=>by
  simp only[PyData.canLayAll0,Bool.and_eq_true];exact⟨h d (by simp),zfc fun x hx=>h x (by simp[hx])⟩
theorem zdz{n:Nat}:∀{ds:List PyData},(∀d∈ds,d.depth<=n)->PyData.depthAll ds<=n
 | [],_=>Nat.zero_le _
 | d :: ds,h=>by
  have:=zdz (ds:=ds) fun x hx=>h x (by simp[hx])
  have:=h d (by simp)
  simp only[PyData.depthAll];omega
theorem Shp.ok{n:Nat}{d:PyData}(h:Shp n d):d.canLay0=true/\d.depth<=n+1:=by
 induction h with
 | int i=>exact⟨rfl,by simp[PyData.depth]⟩
 | bl b=>exact⟨rfl,by simp[PyData.depth]⟩
 | @tup n ds h ih =>
  refine⟨by simp only[PyData.canLay0]; exact zfc fun d hd=>(ih d hd).1,?_⟩
  have:=zdz fun d hd=>(ih d hd).2
  simp only[PyData.depth];omega
theorem Shp.shaped{n:Nat}{d:PyData}(h:Shp n d)(hn:n<=60):SeqAt.shaped d=true:=by
 unfold SeqAt.shaped;rw[Bool.and_eq_true];exact⟨h.ok.1,decide_eq_true (by have:=h.ok.2; omega)⟩
end
section
variable {X:Cx}
def rEqG:R2:=fun x y H Q=>∃(d e:PyData),RdD H x d/\RdD H y e/\(d.canLay0=true/\d.depth<=64)/\(e.canLay0=true/\e.depth<=64)/\Q (.bl (PyData.eqv d e)) H
def rNeG:R2:=fun x y H Q=>∃(d e:PyData),RdD H x d/\RdD H y e/\(d.canLay0=true/\d.depth<=64)/\(e.canLay0=true/\e.depth<=64)/\Q (.bl (!PyData.eqv d e)) H
theorem shp{d:PyData}(h:d.canLay0=true/\d.depth<=64):SeqAt.shaped d=true:=by
 unfold SeqAt.shaped;rw[Bool.and_eq_true];exact⟨h.1,decide_eq_true h.2⟩
theorem op_eqG(hu:X.A.units+64<cLine):OpR X (compareOp .Eq) rEqG:=by
 intro pins s σ H x y v u Q I rx ry h;obtain⟨d,e,hx,hy,sd,se,k⟩:=h;exact eq_dataH (zje I hx v rx) (zje I hy u ry) (shp sd) (shp se) hu ⟨.bl _,H,I,rfl,k⟩
theorem op_neG(hu:X.A.units+64<cLine):OpR X (compareOp .NotEq) rNeG:=by
 intro pins s σ H x y v u Q I rx ry h;obtain⟨d,e,hx,hy,sd,se,k⟩:=h;exact ne_dataH (zje I hx v rx) (zje I hy u ry) (shp sd) (shp se) hu ⟨.bl _,H,I,rfl,k⟩
end
section
variable {X:Cx}
theorem zng(hc:X.calm=true):CallR X (.builtin "min") (fun xs H Q=>∃(p:Addr) (ns:List Int),xs=[.ref p]/\H p=some (.lst (ns.map V.int))/\0<ns.length/\∀m,m∈ns->(∀a∈ns,m<=a)->Q (.int m) H):=by
 intro pins s σ H xs us Q I r h;obtain⟨p,ns,rfl,hp,hne,q⟩:=h;obtain⟨u,rfl,r1⟩:=vals1 r;cases r1;obtain⟨_,its,n,rv,_,e⟩:=I.lstM hp;have pa:s.heap.IsList p its.toArray:=⟨_,e,rfl,n,rfl⟩;have hlen:its.length=ns.length:=by rw[<-rv.length,List.length_map]
 have hlt:p<s.heap.objs.size:=Heap.lt_size e;have num:∀i v,its.toArray[i]?=some v->∃t,v=.int (ns.getD i 0) t/\i<ns.length:=fun i v hv=>by
  rw[List.getElem?_toArray] at hv;have hi:i<its.length:=(List.getElem?_eq_some_iff.mp hv).1;have hi2:i<ns.length:=by omega
  have hx:(ns.map V.int)[i]?=some (.int ns[i]):=by rw[List.getElem?_map,List.getElem?_eq_getElem hi2]; rfl
  obtain⟨u,hu,ru⟩:=rv.get hx;rw[hu] at hv;obtain rfl:u=v:=Option.some.inj hv;obtain⟨t,rfl⟩:=ru;exact⟨t,by rw[List.getD_eq_getElem?_getD,List.getElem?_eq_getElem hi2]; rfl,hi2⟩
 refine call_min_walk (wpAny_pyIter_list pa ?_);refine⟨s.heap.objs.size,_,_,_,_,_,fun i j=>decide (ns.getD i 0<ns.getD j 0),rfl,Walks.list (show X.A.in1.handled=none from I.ok.hd hc) _ p (Nat.ne_of_lt hlt) its.toArray,⟨⟨_,Heap.get?_push_size _ rfl,rfl,rfl⟩,pa.push _⟩,fun b hb=>?_,by rw[List.size_toArray]; omega,fun i j vi vj s' Q' E' hi hj hQ'=>?_,fun v h' tk hv k=>?_⟩
 ·simp only[List.mem_cons,List.not_mem_nil,or_false] at hb;rw[Heap.size_push];rcases hb with rfl | rfl
  ·exact Nat.lt_succ_self _
  ·exact Nat.lt_succ_of_lt hlt
 ·obtain⟨t1,rfl,_⟩:=num i vi hi;obtain⟨t2,rfl,_⟩:=num j vj hj;exact lt_int hQ'
 ·obtain⟨t,rfl,hb⟩:=num _ v hv;obtain⟨h1,h2⟩:=argBest_lt (fun i=>ns.getD i 0) (its.toArray.size-1);refine⟨.int _,H,I.kept fun b o eb=>?_,⟨t,rfl⟩,q _ (getD_mem hb) fun a ha=>?_⟩
  ·exact k b o (fun z=>by
    have:b=s.heap.objs.size:=by simpa using z
    exact absurd (Heap.lt_size eb) (by rw[this]; exact Nat.lt_irrefl _)) (Heap.get?_push_of_some _ eb)
  ·obtain⟨j,hj,rfl⟩:=mem_getD ha;exact h2 j (by rw[List.size_toArray]; omega)
end
section
variable {prog:Program} {w:World} {A:Around} {E:Value->Shared->Prop} {s:Shared}
end
section
variable {X:Cx}
end
theorem zst:bootBuiltins "list" = some (.type "list"):=by decide +kernel
section
variable {X:Cx}
end
section
variable {X:Cx}
end
section
variable {X:Cx}
def rCatA(K:PySem.W.Frag):R2:=fun x y H Q=>∃a b xs ys,x=.ref a/\y=.ref b/\SqT K H a xs/\SqT K H b ys/\ys≠[]/\xs.length+ys.length<=sizeLine /\
 (xs=[]->Q (.ref b) H)/\(xs≠[]->∀p,H p=none->Q (.ref p) (upd H p (.tup (xs++ys))))
theorem zrr:OpR X (binaryOp .Add) (rCatA X.K):=by
 intro pins s σ H x y v u Q I rx ry h;obtain⟨a,b,xs,ys,rfl,rfl,ha,hb,hy,hz,q1,q2⟩:=h;by_cases hx:xs=[]
 ·cases rx;cases ry;obtain⟨its,r1,p1,_⟩:=I.tuple ha;obtain⟨its2,r2,p2,_⟩:=I.tuple hb;have e0:its=[]:=r1.nil_iff.mpr hx;obtain⟨⟨cls,dd,data,sl⟩,ho,hc,n,hd⟩:=id p1;obtain⟨⟨cls2,dd2,data2,sl2⟩,ho2,hc2,n2,hd2⟩:=id p2;simp only at hc hd hc2 hd2;subst hc hd hc2 hd2;exact concat_meets ⟨_,ho,rfl⟩ ⟨_,ho2,rfl⟩ noFill_tuple_add seq_tuple_add PySem.F.slot_tuple_add PySem.F.entry_tuple_add (PySem.F.args_tuple_add_2 _ _)
   (tuple_addW0 a b its.toArray its2.toArray n n2 dd dd2 sl sl2 (by simp[e0])) ⟨ho,ho2,⟨.ref b,H,I,rfl,q1 hx⟩⟩
 ·exact zin pins s σ H _ _ v u Q I rx ry ⟨a,b,xs,ys,rfl,rfl,ha,hb,hx,hz,fun z=>absurd z hy,fun _=>q2 hx⟩
end
end L2
namespace L2
open PySem PySem.Spec PyProof.Rows PySem.W
def BMain(mg:Str->Option Value)(base:Heap):Prop:=∃(bm:Addr) (o:Obj),mg "__builtins__" = some (.ref bm)/\bm≠builtinsNs/\bm≠mainGlobals/\base.get? bm=some o/\o.cls=.type "module"/\o.dict=some builtinsNs/\o.data=.plain
def LamC(q:Str)(c:Addr):HO:=.ext fun h=>h.CodeRec (.ref c) q
def ButT(T:Addr)(H H':Hp):Prop:=∀b o,b≠T->H b=some o->H' b=some o
section
variable {P:Program} {w:World} {H:Hp} {h:Heap} {q:Str} {c:Addr}
theorem zsc(r:h.CodeRec (.ref c) q):ObjOk P w H h c (LamC q c):=by
 have r':=r;obtain⟨c',o,vs,t,e,ho,hd,hv⟩:=r;cases e;refine⟨r',⟨o,ho⟩,fun h1 h2 x k=>?_⟩;obtain⟨c',o,vs,t,e,ho,hd,hv⟩:=x;cases e;exact⟨_,o,vs,t,rfl,k _ ho,hd,hv⟩
theorem zp9(ok:HOk P w H h)(e:H c=some (LamC q c)):h.CodeRec (.ref c) q:=(show ObjOk P w H h c (LamC q c) from ok _ _ e).1
end
def LamG(q:Str)(params:Arguments)(body:PySem.Expr)(scope:Scope)(cl:List (Str×Addr))(pm:Value)(f c:Addr):HO:=.ext fun h=>∃ctv,h.get? f=some (kla_obj "<lambda>" q params body scope cl pm c ctv)
def tabL(L:List (Pos×Addr)):List Value:=L.flatMap fun e=>[rawInt e.1.line,rawInt e.1.col,.ref e.2]
def TabM(H:Hp)(T:Addr)(q:Str):Prop:=∃L:List (Pos×Addr),H T=some (.tbl (tabL L).toArray)/\∀e∈L,H e.2=some (LamC q e.2)
theorem zia:∀L:List (Pos×Addr),TriplesOk (tabL L)
 | []=>trivial
 | _ :: L=>zia L
theorem zfj{pos:Pos}{v:Value}:∀{L:List (Pos×Addr)},codeAmong pos (tabL L)=some v->∃e∈L,v=.ref e.2
 | [],h=>by cases h
 | e :: L,h=>by
  have h':(if (((e.1.line:Nat):Int) == ((pos.line:Nat):Int) && ((e.1.col:Nat):Int) == ((pos.col:Nat):Int))=true then some (Value.ref e.2) else codeAmong pos (tabL L))=some v:=h;split at h'
  ·exact⟨e,List.mem_cons_self ..,(Option.some.inj h').symm⟩
  ·obtain⟨e',h1,h2⟩:=zfj h';exact⟨e',List.mem_cons_of_mem _ h1,h2⟩
section
variable {P:Program} {w:World} {H:Hp} {h:Heap} {q:Str} {params:Arguments} {body:PySem.Expr} {scope:Scope} {cl:List (Str×Addr)} {pm:Value} {f c:Addr}
theorem zmm{ctv:Value}(r:h.get? f=some (kla_obj "<lambda>" q params body scope cl pm c ctv)):ObjOk P w H h f (LamG q params body scope cl pm f c) :=
 ⟨⟨ctv,r⟩,⟨_,r⟩,fun _ _ ⟨v,x⟩ k=>⟨v,k _ x⟩⟩
theorem zjt(ok:HOk P w H h)(e:H f=some (LamG q params body scope cl pm f c)):∃ctv,h.get? f=some (kla_obj "<lambda>" q params body scope cl pm c ctv):=(show ObjOk P w H h f (LamG q params body scope cl pm f c) from ok _ _ e).1
end
section
variable {X:Cx} {pins:List (Addr×Obj)} {σ:St} {H:Hp} {s:Shared} {params:Arguments} {body:PySem.Expr} {scope:Scope} {cl:List (Str×Addr)} {pos:Pos} {c T:Addr}
theorem zml {Q:Value->Shared->Prop} (I:Inv X pins σ H s) (hcode:X.env.code=.ref c) (hC:CodeHd X.base c T) (hB:BMain X.mg X.base) (hcl:closureFor scope X.env=pure cl) (hdef:defaultsOf params X.env=([],[])) (hT:TabM H T (X.env.qual++"<lambda>"))
  (q:∀(f c':Addr) (H':Hp) (s':Shared),Inv X pins σ H' s'->ButT T H H'->H f=none->TabM H' T (X.env.qual++"<lambda>")->H' c'=some (LamC (X.env.qual++"<lambda>") c')->H' f=some (LamG (X.env.qual++"<lambda>") params body scope cl ((X.mg "__name__").getD .none) f c')->Q (.ref f) s') :
  wpAny (model X.prog X.w) X.A (eval (.Lambda params body scope pos) X.env) Q X.xe s:=by
 have bk:=I.bk;obtain⟨bm,ob,b1,b2,b3,b4,b5,b6⟩:=hB;refine kla_eval hdef ?_;obtain⟨L,hT,hL⟩:=hT;have gT:s.heap.get? T=some (tabObj (tabL L).toArray):=I.hok _ _ hT;have nT:∀{b:Addr},H b=none->b≠T:=fun {b} e z=>by rw[z,hT] at e; cases e
 cases hf:codeAmong pos (tabL L).toArray.toList with
 | none =>
  have hgT:mainGlobals≠T:=by
   obtain⟨o,es,ep,e,_⟩:=I.mod.glob;exact nT (I.bs _ _ e).2
  refine kla_makeFunction (mg:=X.mg) hcl I.ok.glob (I.mod.glob.keeps bk) hcode (hC.keeps bk) gT (by simpa using zia L) hf hgT ⟨bm,ob,b1,b2,b3,nT (I.bs _ _ b4).2,bk _ _ b4,b5,b6⟩ fun c' ctv h' tk hx hge hlt hrec htb=>?_
  have hsz:s.heap.objs.size<=h'.objs.size:=Nat.le_of_lt (Nat.lt_of_le_of_lt hge hlt);have nc:H c'=none:=I.hok.fresh hge;have nf:H h'.objs.size=none:=I.hok.fresh hsz;have nfc:h'.objs.size≠c':=Nat.ne_of_gt hlt;have lT:T<s.heap.objs.size:=Heap.lt_size gT;have nfT:h'.objs.size≠T:=Nat.ne_of_gt (Nat.lt_of_lt_of_le lT hsz);have ncT:c'≠T:=Nat.ne_of_gt (Nat.lt_of_lt_of_le lT hge);generalize hpm:(X.mg "__name__").getD .none=pm at q ⊢;generalize X.env.qual++"<lambda>" = qn at q hrec hL ⊢;have gf:(h'.push (kla_obj "<lambda>" qn params body scope cl pm c' ctv)).get? h'.objs.size=some (kla_obj "<lambda>" qn params body scope cl pm c' ctv):=Heap.get?_push_size _ rfl;have kp:∀b o,h'.get? b=some o->(h'.push (kla_obj "<lambda>" qn params body scope cl pm c' ctv)).get? b=some o:=fun b o e=>Heap.get?_push_of_some _ e
  generalize h'.push (kla_obj "<lambda>" qn params body scope cl pm c' ctv)=h2 at gf kp ⊢;generalize h'.objs.size=f at nf nfc nfT gf hsz ⊢;have et:(tabL L).toArray++#[rawInt pos.line,rawInt pos.col,.ref c']=(tabL (L++[(pos,c')])).toArray:=by
   unfold tabL;rw[List.flatMap_append];simp
  rw[et] at htb;obtain⟨H',eH⟩:∃H',H'=upd (upd (upd H T (.tbl (tabL (L++[(pos,c')])).toArray)) c' (LamC qn c')) f (LamG qn params body scope cl pm f c'):=⟨_,rfl⟩;have atf:H' f=some (LamG qn params body scope cl pm f c'):=by rw[eH,za1]
  have atc:H' c'=some (LamC qn c'):=by rw[eH,upd_ne (Ne.symm nfc),za1]
  have atT:H' T=some (.tbl (tabL (L++[(pos,c')])).toArray):=by rw[eH,upd_ne (Ne.symm nfT),upd_ne (Ne.symm ncT),za1]
  have atO:∀b,b≠f->b≠c'->b≠T->H' b=H b:=fun b h1 h2 h3=>by rw[eH,upd_ne h1,upd_ne h2,upd_ne h3]
  clear eH;have old:ButT T H H':=fun b o h1 e=>by rw[atO b (ne_of_none e nf) (ne_of_none e nc) h1]; exact e
  have gk:∀b o,b≠T->s.heap.get? b=some o->h2.get? b=some o:=fun b o n e=>kp _ _ (hx b o n e)
  have nTo:∀{b:Addr} {o:HO},H b=some o->o≠.tbl (tabL L).toArray->b≠T:=fun e n=>ne_of e hT n
  have un:Un X.fs [] H H' s.heap h2:=by
   refine⟨fun b o e n _ _=>gk b o (nT n) e,fun b o e n _ _=>⟨o.slots,gk b o (nT n) e⟩,fun b o e n _=>?_,fun b o e _=>?_,fun b xs e=>old b _ (nTo e fun z=>by cases z) e,fun b o u e=>old b _ (nTo e fun z=>by cases z) e,fun b ps e=>?_⟩
   ·have lb:=Heap.lt_size e;rw[atO b (Nat.ne_of_lt (Nat.lt_of_lt_of_le lb hsz)) (Nat.ne_of_lt (Nat.lt_of_lt_of_le lb hge)) (nT n)];exact n
   ·by_cases z:b=T
    ·subst z; exact⟨_,kp _ _ htb⟩
    ·exact⟨o,gk b o z e⟩
   ·by_cases z:b=T
    ·subst z;rw[hT] at e;cases e;exact⟨_,by rw[atT,et]⟩
    ·exact⟨#[],by rw[old b _ z e]; simp⟩
  have hok:HOk X.prog X.w H' h2:=fun b u e=>by
   by_cases z1:b=f
   ·subst z1; rw[atf] at e; cases e; exact zmm gf
   by_cases z2:b=c'
   ·subst z2;rw[atc] at e;cases e;obtain⟨c9,o,vs,t,e9,ho,hd,hv⟩:=hrec;cases e9;exact zsc ⟨_,o,vs,t,rfl,kp _ _ ho,hd,hv⟩
   by_cases z3:b=T
   ·subst z3; rw[atT] at e; cases e; exact kp _ _ htb
   rw[atO b z1 z2 z3] at e;refine(I.hok b u e).stay (fun c v hc r=>gk c v ?_ r) (fun c r=>old c _ (nTo r fun z=>by cases z) r) fun c xs r=>old c _ (nTo r fun z=>by cases z) r
   rcases hc with rfl | hc
   ·exact z3
   ·exact nTo hc fun z=>by cases z
  refine q f c' H' _ (I.un un hok) old nf ⟨L++[(pos,c')],atT,fun e he=>?_⟩ atc atf;rcases List.mem_append.mp he with he | he
  ·have:=hL e he
   exact old _ _ (nTo this fun z=>by unfold LamC at z; cases z) this
  ·rw[List.mem_singleton.mp he];exact atc
 | some cv =>
  obtain⟨e,he,rfl⟩:=zfj (L:=L) (by simpa using hf);have hc':=hL e he;generalize e.2=c' at hf hc';refine kla_makeFunctionHit (mg:=X.mg) hcl I.ok.glob (I.mod.glob.keeps bk) hcode (hC.keeps bk) gT (by simpa using zia L) hf ⟨bm,ob,b1,b2,b3,nT (I.bs _ _ b4).2,bk _ _ b4,b5,b6⟩ fun ctv h' tk hk hsz=>?_
  have nf:H h'.objs.size=none:=I.hok.fresh hsz;have I1:=(I.kept (h':=h') (t':=tk) hk).laid (a:=h'.objs.size) (o:=LamG (X.env.qual++"<lambda>") params body scope cl ((X.mg "__name__").getD .none) h'.objs.size c') (t':=tk) (h':=h'.push (kla_obj "<lambda>" (X.env.qual++"<lambda>") params body scope cl ((X.mg "__name__").getD .none) c' ctv)) (fun b o e=>Heap.get?_push_of_some _ e) (Nat.le_refl _) (zmm (ctv:=ctv) (Heap.get?_push_size _ rfl));have sm:∀b o,H b=some o->upd H h'.objs.size (LamG (X.env.qual++"<lambda>") params body scope cl ((X.mg "__name__").getD .none) h'.objs.size c') b=some o:=fun b o e=>by rw[upd_ne (ne_of_none e nf)]; exact e
  exact q _ c' _ _ I1 (fun b o _ e=>sm b o e) nf ⟨L,sm _ _ hT,fun e he=>sm _ _ (hL e he)⟩ (sm _ _ hc') za1
end
section
variable {M:Model} {A:Around} {E:Value->Shared->Prop} {s:Shared}
theorem zl0{names:List (Str×NameKind)}(h:∀y∈names,y.2≠.cell)(n:Nat)(cl:List (Str×Addr)):cellsFrom n names cl=cl:=by
 induction names with
 | nil=>rfl
 | cons y r ih =>
  obtain⟨x,k⟩:=y
  have:=h (x,k) (List.mem_cons_self ..)
  unfold cellsFrom;rw[if_neg (by simpa using this)];exact ih fun y hy=>h y (List.mem_cons_of_mem _ hy)
theorem zlo{names:List (Str×NameKind)}(h:∀y∈names,y.2≠.cell)(hp:Heap):pushCells hp names=hp:=by
 induction names with
 | nil=>rfl
 | cons y r ih =>
  obtain⟨x,k⟩:=y
  have:=h (x,k) (List.mem_cons_self ..)
  unfold pushCells;rw[if_neg (by simpa using this)];exact ih fun y hy=>h y (List.mem_cons_of_mem _ hy)
theorem zl5 {scope:Scope} {globals:Addr} {cl:List (Str×Addr)} {qual:Str} {func:Option Addr} {code:Value} {builtins:Addr} {Q:Env->Shared->Prop} (hn:∀y∈scope.names,y.2≠.cell)
  (hQ:Q (newEnv scope s.heap.objs.size globals cl qual func code none builtins) { s with heap:=s.heap.push { cls:=.type "frame",data:=.dict #[] } }) :
  wpAny M A (newFunctionEnv scope globals cl [] qual func code none builtins) Q E s:=by
 simp only[newFunctionEnv,Option.isSome_none,Bool.false_eq_true,if_false];refine wpAny_bind (wpAny_alloc ?_);refine wpAny_bind (wpAny_layCells _ (fun name kind cells=>by cases hkc:kind == NameKind.cell <;> simp[hkc]) _ _ _ _ ?_);rw[zl0 hn,zlo hn,List.forIn_nil];exact wpAny_bind (wpAny_pure (wpAny_pure hQ))
end
def lamEnv(qual:Str)(scope:Scope)(cl:List (Str×Addr))(L f:Addr)(cd:Value):Env:={ scope:=scope,locals:=L,globals:=mainGlobals,cells:=cl,qual:=qual++".<locals>.",func:=some f,code:=cd,frame:=some L,builtins:=builtinsNs }
def cxLam(CX:CXT)(P:Program)(w:World)(K:PySem.W.Frag)(mg:Str->Option Value)(base:Heap)(N:List Str)(qual:Str)(scope:Scope)(cl:List (Str×Addr))(f:Addr)(cd:Value)(A:Around)(outer:List Env)(s:Shared)(H:Hp)(E:XK):Cx where
 prog:=P
 w:=w
 K:=K
 mg:=mg
 base:=base
 A:=A.deeper (lamEnv qual scope cl s.heap.objs.size f cd)
 N:=N
 s₀:=s
 H₀:=H
 env:=lamEnv qual scope cl s.heap.objs.size f cd
 outer:=outer
 stack:=lamEnv qual scope cl s.heap.objs.size f cd :: outer
 ex:=[]
 calm:=true
 fn:=fun _=>false
 pn:=[]
 xe:=fun e s'=>wpAny (model P w) (A.deeper (lamEnv qual scope cl s.heap.objs.size f cd)) (leaving (lamEnv qual scope cl s.heap.objs.size f cd) e) (fun _ s''=>CX outer H s E e s'') (fun e' s''=>CX outer H s E e' s'') s'
structure LamCl(scope:Scope)(cl:List (Str×Addr))(N:List Str)(vs:List V)(s:Shared)(H:Hp):Prop where
 nm:∀(i:Nat) (x:Str),N[i]?=some x->∃c u v,scope.names.lookup x=some .free/\cl.lookup x=some c/\s.heap.IsCell c (some u)/\vs[i]?=some v/\RelV v u
 fr:∀x c,cl.lookup x=some c->H c=none/\∃v,s.heap.IsCell c v
 inj:∀x y c,cl.lookup x=some c->cl.lookup y=some c->x=y
 has:∀x,(scope.names.lookup x=some .cell\/scope.names.lookup x=some .free)->∃c,cl.lookup x=some c
 len:vs.length=N.length
section
variable {P:Program} {w:World} {K:Frag} {mg:Str->Option Value} {base:Heap}
theorem zp8 {CX:CXT} {k:Nat} {f c:Addr} {qual:Str} {params:Arguments} {body:PySem.Expr} {scope:Scope} {cl:List (Str×Addr)} {pm:Value} {N:List Str} {A:Around} {outer:List Env} {s:Shared} {H:Hp} {vs:List V} {Q:VK} {E:XK} (hk:scope.kind=.function) (hco:scope.isCoroutine=false) (hgen:scope.isGenerator=false) (hnc:∀y∈scope.names,y.2≠.cell)
  (hr:Room (k+1) A) (e0:Env0 P w K mg base A outer s H) (C:LamCl scope cl N vs s H)
  (hf:H f=some (LamG qual params body scope cl pm f c)) (hc:H c=some (LamC qual c)) (hb:∀ctv,bindArgs (kla_fn "<lambda>" qual params body scope cl pm (.ref c) ctv) ⟨[],[]⟩=pure [])
  (hbody:∃t,PE (cxLam CX P w K mg base N qual scope cl f (.ref c) A outer s H E) body t/\t (vs.map some) H Q):codeAny (model P w) A (.call (.ref f) ⟨[],[]⟩) (CR CX outer P w H s Q E) s:=by
 have lim:s.heap.NoLimit:=e0.mod.nolimit.keeps fun b o e=>(e0.bs b o e).1
 obtain⟨ctv,gf⟩:=zjt e0.hok hf;refine kla_callFunE hr.depth gf rfl hco hgen rfl (zp9 e0.hok hc) (wpAny_of_eq (hb ctv) ?_);refine zl5 hnc ?_;have kp:∀b o,s.heap.get? b=some o->(s.heap.push { cls:=.type "frame",data:=.dict #[] }).get? b=some o:=fun b o e=>Heap.get?_push_of_some _ e
 refine⟨lim.keeps kp,kla_codeExpr ?_⟩;obtain⟨t,ht,hq⟩:=hbody;have noA:∀b:Addr,b∉(cxLam CX P w K mg base N qual scope cl f (.ref c) A outer s H E).ex:=fun b z=>absurd (show b∈([]:List Addr) from z) (by simp)
 have I:Inv (cxLam CX P w K mg base N qual scope cl f (.ref c) A outer s H E) [] (vs.map some) H { s with heap:=s.heap.push { cls:=.type "frame",data:=.dict #[] } }:=by
  refine⟨⟨e0.mod,hk,rfl,rfl,Nat.le_refl _,C.inj,C.has,fun y c z _=>?_,fun _=>hr.hd,Around.frames_deeper e0.frames,.inr ⟨rfl,rfl⟩,fun b z=>absurd z (noA b),e0.bs,e0.bsz,fun b _ _=>noA b,fun b z=>absurd z (noA b),e0.funs,e0.frf⟩,
   rfl,e0.bare,Un.kept kp,⟨_,Heap.Ns.new s.heap (.type "frame"),fun i y v h1 h2 h3=>?_⟩,fun y c h=>?_,e0.hok.fresh (Nat.le_refl _),fun y c h=>(C.fr y c h).1,fun p hp=>absurd (show p∈([]:List (Addr×Obj)) from hp) (by simp),e0.hok.kept kp,?_⟩
  ·have z':false=true:=z;cases z'
  ·obtain⟨c,u,v',k1,k2,k3,k4,k5⟩:=C.nm i y h1;rw[List.getElem?_map,k4] at h2;cases h2;exact⟨u,k5,.inr ⟨.inr k1,c,k2,k3.keeps kp⟩⟩
  ·obtain⟨v,hv⟩:=(C.fr y c h).2;exact⟨v,hv.keeps kp⟩
  ·rw[List.length_map];exact C.len
 refine wpAny_mono (ht [] _ (vs.map some) H _ I hq) (fun u s' hs=>?_) fun e s' hs=>hs
 obtain⟨v,H',J,rv,q⟩:=hs;exact⟨v,H',J.os,J.bare,J.base,J.hok,rv,q⟩
end
section
variable {P:Program} {w:World} {K:PySem.W.Frag} {mg:Str->Option Value} {base:Heap} {N:List Str} {qual:Str} {scope:Scope} {cl:List (Str×Addr)} {f:Addr} {cd:Value} {A:Around} {outer:List Env} {s₀:Shared} {H₀:Hp} {E:XK}
theorem zjl:Passes (CXr P w) (cxLam (CXr P w) P w K mg base N qual scope cl f cd A outer s₀ H₀ E) E:=by
 intro pins σ H s e s' I h;obtain⟨a,t,cls,od,B,H',rfl,os,bare,u,kB,tB,hok,fl,na,nH,hE⟩:=h;have sub:∀b,b∈frs outer->b∈frs (lamEnv qual scope cl s₀.heap.objs.size f cd :: outer):=fun b hb=>by
  show b∈List.filterMap _ (_ :: outer);rw[List.filterMap_cons];exact List.mem_cons_of_mem _ hb
 have noL:∀b o,s₀.heap.get? b=some o->b∉frs outer->b∉frs (lamEnv qual scope cl s₀.heap.objs.size f cd :: outer):=fun b o q hb z=>by
  rcases List.mem_cons.mp (I.stkSub b z) with z | z
  ·exact absurd (Heap.lt_size q) (by rw[z]; exact Nat.lt_irrefl _)
  ·exact hb z
 have nex:∀b:Addr,b∉([]:List Addr):=fun b z=>by simp at z
 have kB':∀b o,s₀.heap.get? b=some o->H₀ b=none->b∉frs outer->B.get? b=some o:=fun b o q n hb =>
  kB b o (I.base.keep b o q n hb (nex b)) (I.base.free b o q n (nex b)) (noL b o q hb)
 have tB':∀b o,s₀.heap.get? b=some o->b∉frs outer->∃o',B.get? b=some o':=fun b o q hb=>by
  obtain⟨o1,q1⟩:=I.base.there b o q (nex b);exact tB b o1 q1 (noL b o q hb)
 have na':s₀.heap.get? a=none:=by
  cases q:s₀.heap.get? a with
  | none=>rfl
  | some o =>
   obtain⟨o1,q1⟩:=I.base.there a o q (nex a);rw[na] at q1;cases q1
 refine zff (zcz _ _) (Q':=fun _ s2=>∃h',s2={ s' with heap:=h' }/\Heap.FlyingW B outer a cls (.ref t) h'/\s'.heap.UpToSlots h') (wpAny_leaves_onW I.ok.frames rfl fl.1 fun h' fl' up=>⟨h',rfl,fl',up⟩) ?_;rintro _ s2 ⟨h',rfl,fl',up⟩ dk;refine⟨a,t,cls,od,B,H',rfl,os.trans I.os,bare,?_,kB',tB',hok,⟨fl',dk.dict fl.2⟩,na',nH,hE⟩;have slot':∀b o,s₀.heap.get? b=some o->H₀ b=none->b∈frs outer->∃sl,h'.get? b=some { o with slots:=sl }:=fun b o q n hb=>by
  obtain⟨sl,q1⟩:=I.base.slot b o q n hb (nex b);obtain⟨sl1,q2⟩:=u.slot b _ q1 (I.base.free b o q n (nex b)) (sub b hb) (nex b);obtain⟨_,o2,q3,nf⟩:=I.funs.mem hb;rw[q1] at q3;cases q3;obtain⟨sl2,q4⟩:=up b _ q2 nf;exact⟨sl2,q4⟩
 refine⟨fun b o q n hb _=>fl'.1 b o (kB' b o q n hb),fun b o q n hb _=>slot' b o q n hb,fun b o q n _=>?_,fun b o q _=>?_,fun b xs q=>u.tups b xs (I.base.tups b xs q),fun b o v q=>u.frzs b o v (I.base.frzs b o v q),fun b ps q=>?_⟩
 ·obtain⟨o1,q1⟩:=I.base.there b o q (nex b);exact u.free b o1 q1 (I.base.free b o q n (nex b)) (nex b)
 ·by_cases hb:b∈frs outer
  ·obtain⟨sl,q1⟩:=slot' b o q (I.ok.frf b hb) hb;exact⟨_,q1⟩
  ·obtain⟨o1,q1⟩:=tB' b o q hb;exact⟨o1,fl'.1 b o1 q1⟩
 ·obtain⟨m1,q1⟩:=I.base.tbls b ps q;obtain⟨m2,q2⟩:=u.tbls b _ q1;exact⟨m1++m2,by rw[q2,Array.append_assoc]⟩
end
def StaysU(s₀:Shared)(H₀:Hp)(fs:List Addr)(s:Shared)(H:Hp):Prop:=∀b o,s₀.heap.get? b=some o->H₀ b=none->b∉fs->s.heap.get? b=some o/\H b=none
structure LamOk(P:Program)(w:World)(K:PySem.W.Frag)(mg:Str->Option Value)(base:Heap)(k:Nat)(s₀:Shared)(H₀:Hp)(fs:List Addr)(f:Addr)(sp:Hp->VK->XK->Prop):Prop where
 fn:∀H Q E,sp H Q E->∃q params body scope cl pm c,H f=some (LamG q params body scope cl pm f c)
 mono:∀(H:Hp) (Q Q':VK) (E E':XK),(∀v H,Q v H->Q' v H)->(∀c o H,E c o H->E' c o H)->sp H Q E->sp H Q' E'
 run:∀(A:Around) (outer:List Env) (s:Shared) (H:Hp) (Q:VK) (E:XK),Room k A->Env0 P w K mg base A outer s H->StaysU s₀ H₀ fs s H->sp H Q E →
  codeAny (model P w) A (.call (.ref f) ⟨[],[]⟩) (CR (CXr P w) outer P w H s Q E) s
section
variable {X:Cx}
def tAsk(f:Addr)(sp:Hp->VK->XK->Prop)(tv:TE):TX:=fun σ H Q E=>tv σ H fun v H1=>v=.ref f/\sp H1 Q E
theorem px_ask{k:Nat}{f:Addr}{sp:Hp->VK->XK->Prop}{x:Str}{p pos:Pos}{tv:TE}(L:LamOk X.prog X.w X.K X.mg X.base k X.s₀ X.H₀ X.fs f sp)(hx:X.ex=[])(hr:Room k X.A)(hv:PE X.nox (.Name x p) tv):PX X (.Call (.Name x p) [] [] pos) (tAsk f sp tv):=by
 intro pins s σ H Q E W I h hW;refine wpAny_Call_Name_kw (wpAny_mono (hv pins s σ H _ (I.wish _) h) (fun u s1 ⟨v,H1,I1',r1,ev,q1⟩=>?_) fun _ _ z=>False.elim z);have I1:Inv X pins σ H1 s1:=I1'.unwish;subst ev;obtain rfl:u=Value.ref f:=r1;obtain⟨q,params,body,scope,cl,pm,c,hf⟩:=L.fn _ _ _ q1;obtain⟨ctv,gf⟩:=zjt I1.hok hf;have nx:∀b,b∉X.ex:=fun b=>by rw[hx]; simp
 refine callWith_F0 ⟨_,_,_,_,gf⟩ (wpAny_call (codeAny_mono (L.run X.A X.stack s1 H1 Q E hr I1.env0 (fun b o e n nf=>⟨I1.base.keep b o e n nf (nx b),I1.base.free b o e n (nx b)⟩) q1) fun r s' hq=>?_));cases r with
 | error e =>
  obtain⟨a,cls,od,H',e1,hE,c⟩:=zsk I1 hq;subst e1;exact hW a cls od H' s' c hE
 | ok fl =>
  cases fl with
  | ret u=>exact I1.after hq
  | next=>exact False.elim hq
  | brk=>exact False.elim hq
  | cont=>exact False.elim hq
end
theorem fn_at {CX:CXT} {P:Program} {w:World} {K:PySem.W.Frag} {mg:Str->Option Value} {base:Heap} {k:Nat} {f:Addr} {name qual:Str} {params:Arguments} {body:List Stmt} {scope:Scope} {dV kV doc pm cdv ct oc:Value} {an od:Option Addr}
  {osl:Array (Option Value)} {N ps:List Str} (lk:K.lookup f=some ⟨oc,od,.func (PySem.W.fnOf name qual params body scope dV kV doc pm an cdv ct),osl⟩) (hcd:PySem.W.codeIn K cdv qual=true) (S:FnScope N ps scope)
  {A:Around} {outer:List Env} {s:Shared} {H:Hp} {args:Args} {us:List Value} {vs:List V} {Q:VK} {E:XK} (hl:vs.length=ps.length) (hr:Room (k+1) A) (e0:Env0 P w K mg base A outer s H) (hb:BindsTo s (PySem.W.fnOf name qual params body scope dV kV doc pm an cdv ct) args (ps.zip us)) (r:Vals vs us)
  (hbody:Room k (A.deeper (envOfC qual scope s.heap.objs.size f cdv))->∃t,PSs (cxOf CX P w K mg base N qual scope f cdv A outer s H E) body t/\t { nx:=fun _ H'=>Q .non H',rt:=Q } (start N vs) H) :
  codeAny (model P w) A (.call (.ref f) args) (CR CX outer P w H s Q E) s:=by
 have KX:K.In s.heap:=e0.mod.kin.keeps fun b o e=>(e0.bs b o e).1
 have lim:s.heap.NoLimit:=e0.mod.nolimit.keeps fun b o e=>(e0.bs b o e).1
 have hkind:∀y∈ps.zip us,scope.names.lookup y.1=some .local\/(scope.names.lookup y.1=some .cell/\((cellsFrom (s.heap.objs.size+1) scope.names []).lookup y.1).isSome=true):=fun ⟨n,v⟩ hy=>by
  rcases S.par n (List.of_mem_zip hy).1 with q | q
  ·exact .inl q
  ·exact .inr ⟨q,PySem.W.cellsFrom_some _ _ _ (.inl q)⟩
 refine codeAny_call_function hr.depth (KX _ _ lk) rfl S.co S.gen rfl (PySem.W.codeRec_of KX hcd) (hb _ _ _ _ ?_);refine wpAny_newFunctionEnv_cells S.kind hkind fun env he s1 x=>?_
 subst he;refine⟨lim.keeps x.toInCall.keep,codeAny_func ?_⟩;obtain⟨t,ht,hq⟩:=hbody (hr.deeper _);have I:Inv (cxOf CX P w K mg base N qual scope f cdv A outer s H E) [] (start N vs) H s1:=zhu S hr.hd e0 hl r x;refine wpAny_mono (ht [] s1 (start N vs) H _ I hq) (fun fl s' hs=>?_) fun e s' hs=>hs
 cases fl with
 | ret u =>
  obtain⟨v,σ',H',J,rv,q⟩:=hs;exact⟨v,H',J.os,J.bare,J.base,J.hok,rv,q⟩
 | next =>
  obtain⟨σ',H',J,q⟩:=hs;exact⟨V.non,H',J.os,J.bare,J.base,J.hok,rfl,q⟩
 | brk =>
  obtain⟨_,_,_,q⟩:=hs;exact False.elim q
 | cont =>
  obtain⟨_,_,_,q⟩:=hs;exact False.elim q
structure AskOk(P:Program)(w:World)(K:PySem.W.Frag)(mg:Str->Option Value)(base:Heap)(j k:Nat)(g:Addr)(gd:FuncData)(ps:List Str)(ss:(Hp->VK->XK->Prop)->Addr->Hp->VK->Prop):Prop where
 run:∀(A:Around) (outer:List Env) (s:Shared) (H:Hp) (f:Addr) (sp:Hp->VK->XK->Prop) (Q:VK),Room k A->Env0 P w K mg base A outer s H->LamOk P w K mg base j s H (frs outer) f sp->ss sp f H Q->BindsTo s gd ⟨[.ref f],[]⟩ (ps.zip [.ref f]) →
  codeAny (model P w) A (.call (.ref g) ⟨[.ref f],[]⟩) (CR CX0 outer P w H s Q E0) s
section
variable {X:Cx} {params:Arguments} {body:PySem.Expr} {scope:Scope} {cl:List (Str×Addr)} {lpos:Pos} {c T:Addr}
structure LamSc(X:Cx)(scope:Scope)(cl:List (Str×Addr))(N:List Str)(js:List Nat):Prop where
 clos:closureFor scope X.env=pure cl
 kind:scope.kind=.function
 co:scope.isCoroutine=false
 gen:scope.isGenerator=false
 nc:∀y∈scope.names,y.2≠.cell
 nm:∀(i:Nat) (x:Str),N[i]?=some x->∃j c,js[i]?=some j/\X.N[j]?=some x/\scope.names.lookup x=some .free/\cl.lookup x=some c/\X.env.cells.lookup x=some c/\X.env.scope.names.lookup x=some .cell
 back:∀x c,cl.lookup x=some c->X.env.cells.lookup x=some c
 has:∀x,(scope.names.lookup x=some .cell\/scope.names.lookup x=some .free)->∃c,cl.lookup x=some c
 own:∀x,X.fn x=true
def tSaid(T:Addr)(q:Str)(params:Arguments)(body:PySem.Expr)(scope:Scope)(cl:List (Str×Addr))(pm:Value)(js:List Nat)(rd:List V->Hp->VK->XK->Prop)(ss:(Hp->VK->XK->Prop)->Addr->Hp->VK->Prop):TE:=fun σ H Q=>TabM H T q /\
 ∃vs:List V,vs.length=js.length/\(∀(i j:Nat),js[i]?=some j->∃v,vs[i]?=some v/\σ[j]?=some (some v)) /\
 ∀(f c:Addr) (H2:Hp),ButT T H H2->H f=none->TabM H2 T q->H2 c=some (LamC q c)->H2 f=some (LamG q params body scope cl pm f c)->ss (fun H Q E=>H f=some (LamG q params body scope cl pm f c)/\H c=some (LamC q c)/\rd vs H Q E) f H2 Q
theorem zlu {j k:Nat} {g:Addr} {gd:FuncData} {ps:List Str} {x:Str} {N:List Str} {js:List Nat} {rd:List V->Hp->VK->XK->Prop} {ss:(Hp->VK->XK->Prop)->Addr->Hp->VK->Prop} {p pos:Pos} (G:AskOk X.prog X.w X.K X.mg X.base (j+1) k g gd ps ss) (hr:Room k X.A) (hg:Gl X x) (hm:X.mg x=some (.ref g)) (hk:PySem.W.keepIn X.K (.ref g)=true) (hb:Binds X.K gd ps []) (hps:ps.length=1)
  (S:LamSc X scope cl N js) (hjs:js.length=N.length) (hcode:X.env.code=.ref c) (hC:CodeHd X.base c T) (hB:BMain X.mg X.base) (hdef:defaultsOf params X.env=([],[]))
  (hba:∀(qual:Str) (pm:Value) (c:Addr) (ctv:Value),bindArgs (kla_fn "<lambda>" qual params body scope cl pm (.ref c) ctv) ⟨[],[]⟩=pure [])
  (hbody:∀(f c:Addr) (A:Around) (outer:List Env) (s:Shared) (vs:List V) (H:Hp) (Q:VK) (E:XK),Room j (A.deeper (lamEnv (X.env.qual++"<lambda>") scope cl s.heap.objs.size f (.ref c)))->rd vs H Q E->∃t,PE (cxLam (CXr X.prog X.w) X.prog X.w X.K X.mg X.base N (X.env.qual++"<lambda>") scope cl f (.ref c) A outer s H E) body t/\t (vs.map some) H Q)
  (hmo:∀(vs:List V) (H:Hp) (Q Q':VK) (E E':XK),(∀v H,Q v H->Q' v H)->(∀c o H,E c o H->E' c o H)->rd vs H Q E->rd vs H Q' E')
  (hdb:(x == ("__debug__":Str))=false:=by decide) (he:starEach [.Lambda params body scope lpos] X.env=[(false,eval (.Lambda params body scope lpos) X.env)]:=by rfl) :
  PE X (.Call (.Name x p) [.Lambda params body scope lpos] [] pos) (tSaid T (X.env.qual++"<lambda>") params body scope cl ((X.mg "__name__").getD .none) js rd ss):=by
 intro pins s σ H Q I h;obtain⟨hT,vs,hvl,hvs,hq⟩:=h;refine wpAny_Call_Name_kw (zfb I hg hm ?_ hdb);refine PySem.W.callWith_K (h₀:=X.base) I.ok.mod.kin hk ?_ he (by rfl);rw[he];refine Calls.spliced_cons (zml I hcode hC hB S.clos hdef hT fun f c' H1 s1 I1 bt nf tb hc' hf'=>Calls.spliced_nil ⟨I1.kIn,?_⟩);have q1:=hq f c' H1 bt nf tb hc' hf';have cellOf:∀(i:Nat) (x:Str),N[i]?=some x->∃c u v,scope.names.lookup x=some .free/\cl.lookup x=some c/\s1.heap.IsCell c (some u)/\vs[i]?=some v/\RelV v u:=fun i x hi=>by
  obtain⟨jj,cc,h1,h2,h3,h4,h5,h6⟩:=S.nm i x hi;obtain⟨v,h7,h8⟩:=hvs i jj h1;obtain⟨m,_,lc⟩:=I1.loc;obtain⟨u,ru,lk⟩:=lc jj x v h2 h8 (.inr (.inl h6));rcases lk with ⟨z,_⟩ | ⟨_,c2,z1,z2⟩
  ·have z':X.env.scope.names.lookup x=some .local:=z;rw[h6] at z';cases z'
  ·rw[h5] at z1;cases z1;exact⟨cc,u,v,h3,h4,z2,h7,ru⟩
 have frC:∀x cc,cl.lookup x=some cc->H1 cc=none/\(∃v,s1.heap.IsCell cc v)/\cc∉frs X.stack:=fun x cc hx=>by
  have hx':=S.back x cc hx;refine⟨I1.freeC x cc hx',I1.cell x cc hx',fun z=>?_⟩;rcases List.mem_cons.mp (I1.stkSub cc z) with z | z
  ·obtain⟨v,o,ho,hd⟩:=I1.cell x cc hx';obtain⟨m,⟨o2,es,ep,e2,hd2⟩,_⟩:=I1.loc;rw[<-z,ho] at e2;cases e2;rw[hd] at hd2;cases hd2.1
  ·obtain⟨_,o,ho,_⟩:=I1.ok.funs.mem z;exact absurd (Heap.lt_size ho) (Nat.not_lt.mpr (I1.ok.cab x cc (S.own x) hx'))
 have LO:LamOk X.prog X.w X.K X.mg X.base (j+1) s1 H1 (frs X.stack) f (fun H Q E=>H f=some (LamG (X.env.qual++"<lambda>") params body scope cl ((X.mg "__name__").getD .none) f c')/\H c'=some (LamC (X.env.qual++"<lambda>") c')/\rd vs H Q E):=by
  refine⟨fun H Q E ⟨z,_⟩=>⟨_,_,_,_,_,_,_,z⟩,fun H Q Q' E E' a1 a2 ⟨z1,z2,z3⟩=>⟨z1,z2,hmo vs H Q Q' E E' a1 a2 z3⟩,fun A outer s2 H2 Q2 E2 hr2 e0 st ⟨z1,z2,z3⟩=>?_⟩;have keepC:∀{cc:Addr} {v:Option Value} {x:Str},cl.lookup x=some cc->s1.heap.IsCell cc v->s2.heap.IsCell cc v/\H2 cc=none:=fun {cc v x} hx hv=>by
   obtain⟨o,ho,hd⟩:=hv;obtain⟨g1,_,g3⟩:=frC x cc hx;obtain⟨k1,k2⟩:=st cc o ho g1 g3;exact⟨⟨o,k1,hd⟩,k2⟩
  refine zp8 (k:=j) (vs:=vs) (N:=N) S.kind S.co S.gen S.nc hr2 e0 ⟨fun i x hi=>?_,fun x cc hx=>?_,fun x y cc h1 h2=>I1.ok.inj x y cc (S.back x cc h1) (S.back y cc h2),S.has,by rw[hvl,hjs]⟩ z1 z2 (fun ctv=>hba _ _ _ ctv) (hbody f c' A outer s2 vs H2 Q2 E2 (hr2.deeper _) z3)
  ·obtain⟨cc,u,v,a1,a2,a3,a4,a5⟩:=cellOf i x hi;exact⟨cc,u,v,a1,a2,(keepC a2 a3).1,a4,a5⟩
  ·obtain⟨_,⟨v,hv⟩,_⟩:=frC x cc hx;obtain⟨b1,b2⟩:=keepC hx hv;exact⟨b2,v,b1⟩
 have hb':=hb s1 [.ref f] I1.kIn (by rw[List.append_nil]; exact hps.symm);rw[List.append_nil] at hb';refine wpAny_call (codeAny_mono (G.run X.A X.stack s1 H1 f _ Q hr I1.env0 LO q1 hb') fun r s' hq=>?_);cases r with
 | error e=>exact False.elim hq
 | ok fl =>
  cases fl with
  | ret u=>exact I1.after hq
  | next=>exact False.elim hq
  | brk=>exact False.elim hq
  | cont=>exact False.elim hq
end
theorem zmi {P:Program} {w:World} {K:PySem.W.Frag} {mg mb:Str->Option Value} {k:Nat} {fa a c T:Addr} {fd:FuncData} {x:Str} {sp:Sp} {s₁:Shared} {vs:List Value} {ns:List Int}
  (KX:K.In s₁.heap) (hns:s₁.heap.Ns mainGlobals mg) (hb:s₁.heap.Ns builtinsNs mb) (hbb:∀x:Str,x≠"__name__"->mb x=bootBuiltins x) (hlim:s₁.heap.NoLimit) (hg:s₁.gens = #[])
  (gT:s₁.heap.get? T=some (tabObj #[])) (hKT:K.lookup T=none) (hC:CodeHd s₁.heap c T) (hbm:BMain mg s₁.heap)
  (ha:s₁.heap.get? a=some { cls:=.type "list",data:=.seq vs.toArray }) (hi:IntsAre vs ns) (hl:ns.length<=sizeLine) (hr:Room k callerA)
  (F:∀base:Heap,K.In base->base.Ns mainGlobals mg->BMain mg base->FnOk P w K mg base CX0 k fa fd [x] sp) (hbind:∀(s:Shared) (u:Value),BindsTo s fd ⟨[u],[]⟩ [(x,u)])
  (hsp:∀H:Hp,H T=some (.tbl #[])->SqL K H a (ns.map V.int)->sp [.ref a] H (fun v _=>v=.bl true) fun _ _ _=>False) :
  codeAny (model P w) callerA (.call (.ref fa) ⟨[.ref a],[]⟩) (fun r s'=>r=.ok (.ret (.bool true))/\OldK s₁.heap s'.heap/\s'.os=s₁.os/\AllBare s'.gens) s₁:=by
 have rv:=zev hi;have lenV:=hi.length;have naT:a≠T:=fun z=>by rw[z,gT] at ha; cases ha
 have core:∀H:Hp,H T=some (.tbl #[])->(∀b,H b=none\/(∃o xs,H b=some (.frz o (.lst xs)))\/b=T)->SqL K H a (ns.map V.int)->HOk P w H s₁.heap->(∀b,H b≠none->b=a\/b=T)->(H a≠none->K.lookup a=none) →
   codeAny (model P w) callerA (.call (.ref fa) ⟨[.ref a],[]⟩) (fun r s'=>r=.ok (.ret (.bool true))/\OldK s₁.heap s'.heap/\s'.os=s₁.os/\AllBare s'.gens) s₁:=by
  intro H hT hO hS hok hA hK;have base_of:∀{b:Addr} {o:Obj},s₁.heap.get? b=some o->H b=none->(hidT s₁.heap H).get? b=some o:=fun e n=>zjy e n
  have noA:∀{b:Addr} {o:Obj},s₁.heap.get? b=some o->o≠{ cls:=.type "list",data:=.seq vs.toArray }->o≠tabObj #[]->H b=none:=fun {b o} e d1 d2=>by
   cases q:H b with
   | none=>rfl
   | some u =>
    rcases hA b (by rw[q]; simp) with e' | e'
    ·subst e'; rw[ha] at e; exact absurd (Option.some.inj e).symm d1
    ·subst e'; rw[gT] at e; exact absurd (Option.some.inj e).symm d2
  have nsK:∀{b:Addr} {m:Str->Option Value},s₁.heap.Ns b m->(hidT s₁.heap H).Ns b m:=fun {b m} ⟨o,es,ep,e,d,r⟩=>⟨o,es,ep,base_of e (noA e (fun z=>by rw[z] at d; cases d) (fun z=>by rw[z] at d; cases d)),d,r⟩
  have hKb:K.In (hidT s₁.heap H):=fun b o e=>base_of (KX b o e) (by
   cases q:H b with
   | none=>rfl
   | some u =>
    rcases hA b (by rw[q]; simp) with e' | e'
    ·subst e'; rw[hK (by rw[q]; simp)] at e; cases e
    ·subst e'; rw[hKT] at e; cases e)
  have hM:Mod K mg (hidT s₁.heap H):=⟨hKb,nsK hns,⟨mb,nsK hb,hbb⟩,let ⟨mc,h1,h2⟩:=hlim; ⟨mc,nsK h1,h2⟩⟩;have hbm':BMain mg (hidT s₁.heap H):=by
   obtain⟨bm,o,b1,b2,b3,b4,b5,b6⟩:=hbm;exact⟨bm,o,b1,b2,b3,base_of b4 (noA b4 (fun z=>by rw[z] at b6; exact nomatch b6.2) (fun z=>by rw[z] at b6; exact nomatch b6.2)),b5,b6⟩
  have e0:Env0 P w K mg (hidT s₁.heap H) callerA [] s₁ H:=⟨rfl,hM,fun b o e=>zm4 e,Nat.le_of_eq (zhv _ _),trivial,fun b hb=>absurd (show b∈([]:List Addr) from hb) (by simp),hok,.of_eq hg⟩;refine codeAny_mono ((F _ hKb (nsK hns) hbm').run callerA [] s₁ H ⟨[.ref a],[]⟩ [.ref a] [.ref a] _ _ hr e0 (hbind s₁ (.ref a)) (.cons rfl .nil) (hsp H hT hS)) fun r s' h=>?_
  cases r with
  | error e=>exact False.elim h
  | ok fl =>
   cases fl with
   | next=>exact False.elim h
   | brk=>exact False.elim h
   | cont=>exact False.elim h
   | ret u =>
    obtain⟨v,H',os,bare,un,hok',r',q⟩:=h;have q':v=.bl true:=q;subst q';obtain rfl:u=Value.bool true:=r';have key:∀b o,s₁.heap.get? b=some o->s'.heap.get? b=some o\/(b=T/\o=tabObj #[]/\∃more,s'.heap.get? T=some (tabObj (#[]++more))):=fun b o e=>by
     cases q:H b with
     | none=>exact .inl (un.keep b o e q (by intro z; exact absurd (show b∈([]:List Addr) from z) (by simp)) (by simp))
     | some u =>
      rcases hO b with z | ⟨ob,xs,z⟩ | z
      ·rw[q] at z; cases z
      ·have z2:=un.frzs b ob _ z;obtain⟨e1,_⟩:=hok b _ z;obtain⟨e2,_⟩:=hok' b _ z2;rw[e] at e1; cases e1;exact .inl e2
      ·subst z;rw[gT] at e;obtain⟨more,z2⟩:=un.tbls b _ hT;exact .inr ⟨rfl,(Option.some.inj e).symm,more,hok' b _ z2⟩
    refine⟨rfl,⟨fun b o e=>?_,fun b o e=>?_⟩,os,bare⟩
    ·rcases key b o e with z | ⟨rfl,rfl,more,z⟩
     ·exact .inl z
     ·exact .inr (.inl ⟨(hC.tab gT).isCodeTable,rfl,#[],more,rfl,z⟩)
    ·rcases key b o e with z | ⟨rfl,rfl,more,z⟩
     ·exact⟨_,z⟩
     ·exact⟨_,z⟩
 cases hk:K.lookup a with
 | some o =>
  have e:=KX a o hk;rw[ha] at e;cases e;refine core (upd (fun _=>none) T (.tbl #[])) za1 (fun b=>?_) (.inr ⟨_,vs.toArray,_,hk,rfl,rfl,rfl,by rw[List.size_toArray,lenV]; exact hl,by simpa using rv⟩) (fun b u z=>?_) (fun b z=>?_) fun z=>absurd (upd_ne naT) z
  ·by_cases hb:b=T
   ·exact .inr (.inr hb)
   ·exact .inl (upd_ne hb)
  ·by_cases hb:b=T
   ·subst hb; rw[za1] at z; cases z; exact gT
   ·rw[upd_ne hb] at z; cases z
  ·by_cases hb:b=T
   ·exact .inr hb
   ·exact absurd (upd_ne hb) z
 | none =>
  refine core (upd (upd (fun _=>none) a (.frz { cls:=.type "list",data:=.seq vs.toArray } (.lst (ns.map V.int)))) T (.tbl #[])) za1 (fun b=>?_) (.inl (.inr ⟨{ cls:=.type "list",data:=.seq vs.toArray },by rw[upd_ne naT,za1]⟩)) (fun b u z=>?_) (fun b z=>?_) fun _=>hk
  ·by_cases hb:b=T
   ·exact .inr (.inr hb)
   ·by_cases hb2:b=a
    ·subst hb2; exact .inr (.inl ⟨_,_,by rw[upd_ne hb,za1]⟩)
    ·exact .inl (by rw[upd_ne hb,upd_ne hb2])
  ·by_cases hb:b=T
   ·subst hb; rw[za1] at z; cases z; exact gT
   ·rw[upd_ne hb] at z;by_cases hb2:b=a
    ·subst hb2; rw[za1] at z; cases z;exact⟨ha,by rw[List.length_map]; exact hl,vs,_,rv,ha⟩
    ·rw[upd_ne hb2] at z; cases z
  ·by_cases hb:b=T
   ·exact .inr hb
   ·by_cases hb2:b=a
    ·exact .inl hb2
    ·rw[upd_ne hb,upd_ne hb2] at z; exact absurd rfl z
theorem znq {l:PySem.W.OpenLaw} {n k:Nat} {q:Program} {loose:List Str} {XP:(Str->Option Value)->Heap->Prop} {YP:World->Heap->Prop} {d:DefRec} {K:Params->PySem.W.Frag} {sp:World->Sp} {x:Str} {T:Addr}
  (hn:l.most=some n) (hn2:n<=sizeLine) (hdf:d.params.defaults=[]) (hr:Room k callerA)
  (hY:∀(w:World) (h:Heap),YP w h->(K w.params).In h/\h.get? T=some (tabObj #[]))
  (F:∀(w:World) (mg:Str->Option Value) (fa:Addr) (h:Heap),(K w.params).In h->h.Ns mainGlobals mg->mg d.name=some (.ref fa) →
   ∃fd:FuncData,(∀(s:Shared) (u:Value),BindsTo s fd ⟨[u],[]⟩ [(x,u)])/\(K w.params).lookup T=none/\(∃c,codeHdIn (K w.params) c T=true) /\
    ∀base:Heap,(K w.params).In base->base.Ns mainGlobals mg->BMain mg base->FnOk l.prog w (K w.params) mg base CX0 k fa fd [x] (sp w))
  (hsp:∀(w:World) (H:Hp) (a:Addr) (ns:List Int),ns.length<=n->H T=some (.tbl #[])->SqL (K w.params) H a (ns.map V.int)->sp w [.ref a] H (fun v _=>v=.bl true) fun _ _ _=>False) :
  PySem.W.WalkO q loose XP YP l.row.toRowW d [] (fun f vs=>PySem.call f vs):=by
 refine Att.attach_call hn hdf fun w s₀ s₁ mg mb fa o pm cd doc a vs ns G Y ho hd hcd hmg hobj hints hlen hg=>?_
 obtain⟨KX,gT⟩:=hY w _ Y;obtain⟨fd,hb,hKT,⟨c,hC⟩,hF⟩:=F w mg fa _ KX G.T.g hmg;have bm:BMain mg s₁.heap:=by
  obtain⟨bm,ob,b1,b2,b3,b4,b5,b6⟩:=G.T.bmain;refine⟨bm,ob,b1,b2,fun z=>?_,b3,b4,b5,b6⟩;obtain⟨o,es,ep,e,hd,_⟩:=G.T.g;rw[z,e] at b3; cases b3; rw[hd] at b6; cases b6
 exact zmi KX G.T.g G.T.b G.T.builtins G.T.nolimit hg gT hKT (codeHd_of_K KX hC) bm hobj hints (Nat.le_trans hlen hn2) hr hF hb fun H hO hS=>hsp w H a ns hlen hO hS
section
variable {X:Cx}
def rNeLI:R2:=fun x y H Q=>∃(p q:Addr) (ns ms:List Int),x=.ref p/\y=.ref q/\H p=some (.lst (ns.map V.int))/\H q=some (.lst (ms.map V.int))/\Q (.bl (!decide (ns=ms))) H
theorem zpo(ns ms:List Int):PyData.eqv (.list (ns.map PyData.int)) (.list (ms.map PyData.int))=decide (ns=ms):=by
 rw[<-SeqAt.same_eq_eqv _ _ (by simp only[SeqAt.noMix]; exact noMix_ints ns ms)];simp only[PySem.Spec.same];exact same_ints ns ms
theorem zlz(hu:X.A.units+64<cLine):OpR X (compareOp .NotEq) rNeLI:=by
 intro pins s σ H x y v u Q I rx ry h;obtain⟨p,q,ns,ms,rfl,rfl,hp,hq,k⟩:=h;cases rx;cases ry;obtain⟨_,its,n1,r1,_,e1⟩:=I.lstM hp;obtain⟨_,jts,n2,r2,_,e2⟩:=I.lstM hq;have d1:Reads s.heap (.ref p) (.list (ns.map PyData.int)) [p]:=.list e1 rfl rfl (by simpa using (zcr r1).reads s.heap);have d2:Reads s.heap (.ref q) (.list (ms.map PyData.int)) [q]:=.list e2 rfl rfl (by simpa using (zcr r2).reads s.heap);refine ne_dataH d1 d2 (zhb ns) (zhb ms) hu ?_;rw[zpo];exact⟨.bl _,H,I,rfl,k⟩
end
end L2
namespace My
open PySem
theorem zb7(a b:Str):(a++b).cps.toList=a.cps.toList++b.cps.toList:=by
 show(a.cps++b.cps).toList=_;simp
theorem zca(x:Str):x.length=x.cps.toList.length:=by simp[Str.length]
theorem at_list{x y:Str}{k:Nat}:StrLaws.At x y x.length k↔k+y.length<=x.length/\(x.cps.toList.drop k).take y.length=y.cps.toList:=by
 unfold StrLaws.At Builtin.Str.subAt;refine and_congr_right fun _=>?_
 rw[beq_iff_eq,<-Array.toList_inj,Array.toList_extract,List.extract_eq_take_drop,Nat.add_sub_cancel_left]
theorem zg4{x y:Str}{k i:Nat}(h:StrLaws.At x y x.length k)(hi:i<y.cps.toList.length):x.cps.toList[k+i]?=y.cps.toList[i]?:=by
 obtain⟨_,h2⟩:=at_list.mp h;rw[<-h2,List.getElem?_take_of_lt (by rw[zca]; exact hi),List.getElem?_drop]
theorem zcc(x:Str)(i j:Nat):(Builtin.Str.strSub x i j).cps.toList=(x.cps.toList.drop i).take (j-i):=by
 unfold Builtin.Str.strSub;rw[Array.toList_extract,List.extract_eq_take_drop]
theorem zft{y:Str}{c j:Nat}(hc:y.cps.toList[j]?=some c)(hu:∀i:Nat,y.cps.toList[i]?=some c->i=j){x:Str}:∀(ts:List Str) (pre:List Nat) (cuts:List Nat) (f:Nat),ts≠[]->(∀t∈ts,c∉t.cps.toList)->x.cps.toList=pre++(Str.join y ts).cps.toList →
  StrLaws.ChainG x y x.length pre.length cuts f->(∀k,f<=k->¬StrLaws.At x y x.length k)->StrLaws.partsFrom x y.length pre.length cuts=ts
 | [],_,_,_,h,_,_,_,_=>absurd rfl h
 | [t],pre,cuts,f,_,hf,hx,hch,_=>by
  have hx':x.cps.toList=pre++t.cps.toList:=hx;have hj:j<y.cps.toList.length:=(List.getElem?_eq_some_iff.mp hc).1;cases cuts with
  | nil =>
   show [Builtin.Str.strSub x pre.length x.length]=[t];congr 1;apply PyProof.Rows.ext_toList;rw[zcc,zca,hx',List.drop_left,List.take_of_length_le (by rw[List.length_append]; omega)]
  | cons c1 r =>
   obtain⟨h1,hA,_,_⟩:=hch;have g:=zg4 hA hj;rw[hc,hx',List.getElem?_append_right (by omega)] at g;exact absurd (List.mem_of_getElem? g) (hf t (by simp))
 | t :: t2 :: r,pre,cuts,f,_,hf,hx,hch,hn=>by
  have hx':x.cps.toList=pre++(t.cps.toList++y.cps.toList++(Str.join y (t2 :: r)).cps.toList):=by
   rw[hx];show pre++(t++y++Str.join y (t2 :: r)).cps.toList=_;rw[zb7,zb7]
  have hj:j<y.cps.toList.length:=(List.getElem?_eq_some_iff.mp hc).1;have ly:=zca y;have A0:StrLaws.At x y x.length (pre.length+t.cps.toList.length):=by
   refine at_list.mpr ⟨?_,?_⟩
   ·rw[zca,zca,hx',List.length_append,List.length_append,List.length_append];omega
   ·rw[hx',List.append_assoc,<-List.append_assoc pre,List.drop_left' (by rw[List.length_append]),ly,List.take_left]
  cases cuts with
  | nil =>
   have e:f=pre.length:=hch;exact absurd A0 (hn _ (by omega))
  | cons c1 cs =>
   obtain⟨h1,hA,hg,hch2⟩:=hch;have le:c1<=pre.length+t.cps.toList.length:=Nat.le_of_not_lt fun z=>hg _ (by omega) z A0
   have e1:c1=pre.length+t.cps.toList.length:=by
    refine Nat.le_antisymm le (Nat.le_of_not_lt fun z=>?_);have g:=zg4 hA hj;rw[hc,hx',List.getElem?_append_right (by omega)] at g;rcases Nat.lt_or_ge (c1+j-pre.length) t.cps.toList.length with q | q
    ·rw[List.append_assoc,List.getElem?_append_left q] at g;exact hf t (by simp) (List.mem_of_getElem? g)
    ·rw[List.append_assoc,List.getElem?_append_right q,List.getElem?_append_left (by omega)] at g
     have:=hu _ g
     omega
   subst e1;show Builtin.Str.strSub x pre.length (pre.length+t.cps.toList.length) :: StrLaws.partsFrom x y.length (pre.length+t.cps.toList.length+y.length) cs=_;congr 1
   ·apply PyProof.Rows.ext_toList;rw[zcc,hx',List.drop_left,Nat.add_sub_cancel_left,List.append_assoc,List.take_left]
   ·have:=zft hc hu (t2 :: r) (pre++(t.cps.toList++y.cps.toList)) cs f (by simp) (fun u hu=>hf u (List.mem_cons_of_mem _ hu)) (by rw[hx',List.append_assoc,List.append_assoc,List.append_assoc])
    rw[List.length_append,List.length_append,<-ly,<-Nat.add_assoc] at this;exact this hch2 hn
theorem zgv(x:Str):1<=Builtin.Str.strKind x:=by
 unfold Builtin.Str.strKind;split
 ·exact Nat.le_refl _
 ·split <;> decide
theorem zck{y:Str}{c j:Nat}(hc:y.cps.toList[j]?=some c)(hu:∀i:Nat,y.cps.toList[i]?=some c->i=j)(hk:Builtin.Str.strKind y=1){ts:List Str}(hne:ts≠[])(hf:∀t∈ts,c∉t.cps.toList):Txt.split (Str.join y ts) y=ts:=by
 have hj:j<y.cps.toList.length:=(List.getElem?_eq_some_iff.mp hc).1;have ly:=zca y;generalize hx:Str.join y ts=x;obtain⟨f,hch,hn⟩:=StrLaws.occ_tight x y (by omega);have key:=zft hc hu ts [] _ f hne hf (by rw[<-hx]; rfl) hch hn;have nil:Builtin.Str.occurrences x y 0 x.length (x.length+1)=[]->[x]=ts:=fun e=>by
  rw[e] at key;rw[<-key];show [x]=[Builtin.Str.strSub x 0 x.length];congr 1;apply PyProof.Rows.ext_toList;rw[zcc,zca,List.drop_zero,List.take_of_length_le (by omega)]
 unfold Txt.split;split
 ·rename_i h
  rw[Bool.or_eq_true,decide_eq_true_eq,decide_eq_true_eq] at h;have kp:=zgv x;refine nil ?_;cases ho:Builtin.Str.occurrences x y 0 x.length (x.length+1) with
  | nil=>rfl
  | cons c1 r =>
   rw[ho] at hch
   have:=hch.2.1.1
   omega
 ·split
  ·rename_i h
   exact nil (List.isEmpty_iff.mp h)
  ·rw[StrLaws.partsBetween_eq];exact key
end My
namespace Mth
theorem zjz(a b:Int):Int.gcd b (a.fmod b)=Int.gcd a b:=by
 rw[Int.fmod_def];have e:a-b*a.fdiv b=a+b*(-(a.fdiv b)):=by rw[Int.mul_neg,Int.sub_eq_add_neg]
 rw[e,Int.gcd_add_mul_left_right,Int.gcd_comm]
theorem zsj(a b:Int)(h:b≠0):(a.fmod b).natAbs<b.natAbs:=by
 rw[Int.fmod_eq_emod];have h1:=Int.emod_nonneg a h;have h2:=Int.emod_lt a h;split
 ·omega
 ·rename_i z
  have:¬b ∣ a:=fun q=>z (Or.inr q)
  have hz:a % b≠0:=fun q=>this (Int.dvd_of_emod_eq_zero q)
  omega
def part(t b:Int):Int:=if b<0 then -(Int.gcd t b:Int) else (Int.gcd t b:Int)
def frac(t b:Int):Int×Int:=(t.fdiv (part t b),b.fdiv (part t b))
theorem ziy(t b:Int)(h:b≠0):0<Int.gcd t b:=Int.gcd_pos_of_ne_zero_right _ h
theorem zf0(t b:Int)(h:b≠0):part t b≠0:=by
 have:=ziy t b h
 unfold part; split <;> omega
theorem zfv(t b:Int):part t b ∣ t:=by
 unfold part; split
 ·exact Int.neg_dvd.mpr (Int.gcd_dvd_left t b)
 ·exact Int.gcd_dvd_left t b
theorem zfu(t b:Int):part t b ∣ b:=by
 unfold part; split
 ·exact Int.neg_dvd.mpr (Int.gcd_dvd_right t b)
 ·exact Int.gcd_dvd_right t b
theorem zk2(t b:Int):(frac t b).1*part t b=t:=by
 show t.fdiv (part t b)*part t b=t;rw[Int.fdiv_eq_ediv_of_dvd (zfv t b),Int.ediv_mul_cancel (zfv t b)]
theorem zhx(t b:Int):(frac t b).2*part t b=b:=by
 show b.fdiv (part t b)*part t b=b;rw[Int.fdiv_eq_ediv_of_dvd (zfu t b),Int.ediv_mul_cancel (zfu t b)]
theorem zk1(t b:Int)(h:b≠0):0<(frac t b).2:=by
 have e:=zhx t b;have g:=ziy t b h;rcases Int.lt_or_lt_of_ne h with h1 | h1
 ·have hp:part t b<0:=by unfold part; rw[if_pos h1]; omega
  rcases Int.lt_or_le 0 (frac t b).2 with q | q
  ·exact q
  ·have:0<=(frac t b).2*part t b:=Int.mul_nonneg_of_nonpos_of_nonpos q (Int.le_of_lt hp)
   omega
 ·have hp:0<part t b:=by unfold part; rw[if_neg (by omega)]; omega
  rcases Int.lt_or_le 0 (frac t b).2 with q | q
  ·exact q
  ·have:(frac t b).2*part t b<=0:=Int.mul_nonpos_of_nonpos_of_nonneg q (Int.le_of_lt hp)
   omega
theorem zg0(t b:Int):(frac t b).1*b=t*(frac t b).2:=by
 have e1:=zk2 t b;have e2:=zhx t b;generalize (frac t b).1=n at *;generalize (frac t b).2=d at *;generalize part t b=p at *;subst e1;subst e2;rw[Int.mul_comm d p,Int.mul_assoc]
theorem zpk(t b:Int)(h:b≠0):Int.gcd (frac t b).1 (frac t b).2=1:=by
 have e1:=zk2 t b;have e2:=zhx t b;have g:=ziy t b h;have hp:(part t b).natAbs=Int.gcd t b:=by unfold part; split <;> omega
 have k:Int.gcd ((frac t b).1*part t b) ((frac t b).2*part t b)=Int.gcd (frac t b).1 (frac t b).2*(part t b).natAbs:=Int.gcd_mul_right _ _ _;rw[e1,e2,hp] at k
 have:1*Int.gcd t b=Int.gcd (frac t b).1 (frac t b).2*Int.gcd t b:=by rw[Nat.one_mul]; exact k
 exact(Nat.eq_of_mul_eq_mul_right g this).symm
theorem zpj(n d:Int)(h:0<d)(g:Int.gcd n d=1):frac n d=(n,d):=by
 have:part n d=1:=by unfold part; rw[if_neg (by omega),g]; rfl
 unfold frac;rw[this];simp
theorem zlx(t b:Int)(h:b≠0):(part t b).natAbs<=b.natAbs:=by
 have e:(part t b).natAbs=Int.gcd t b:=by unfold part; split <;> omega
 rw[e];exact Nat.le_of_dvd (Int.natAbs_pos.mpr h) (by
  have:=Int.gcd_dvd_right t b
  exact Int.ofNat_dvd_left.mp this)
theorem zmx(t b:Int)(h:b≠0):(frac t b).1.natAbs<=t.natAbs:=by
 have e:=congrArg Int.natAbs (zk2 t b);rw[Int.natAbs_mul] at e
 have:1<=(part t b).natAbs:=Int.natAbs_pos.mpr (zf0 t b h)
 calc (frac t b).1.natAbs=(frac t b).1.natAbs*1:=(Nat.mul_one _).symm
  _<=(frac t b).1.natAbs*(part t b).natAbs:=Nat.mul_le_mul_left _ this
  _=t.natAbs:=e
theorem zmw(t b:Int)(h:b≠0):(frac t b).2.natAbs<=b.natAbs:=by
 have e:=congrArg Int.natAbs (zhx t b);rw[Int.natAbs_mul] at e
 have:1<=(part t b).natAbs:=Int.natAbs_pos.mpr (zf0 t b h)
 calc (frac t b).2.natAbs=(frac t b).2.natAbs*1:=(Nat.mul_one _).symm
  _<=(frac t b).2.natAbs*(part t b).natAbs:=Nat.mul_le_mul_left _ this
  _=b.natAbs:=e
end Mth
namespace Mth
theorem zdx(t b : Int)(h : b ≠ 0): frac t b = (((t : Rat) / (b : Rat)).num, (((t : Rat) / (b : Rat)).den : Int)) := by
  have g := zpk t b h;have p := zk1 t b h;have c := zg0 t b;generalize (frac t b) = x at *;obtain⟨n, d⟩ := x;simp only at g p c;have hd : d = (d.toNat : Int) := by omega
  have hn : d.toNat ≠ 0 := by omega
  have hc : n.natAbs.Coprime d.toNat := by
    have : Int.gcd n d = n.natAbs.gcd d.toNat := by rw[Int.gcd]; congr 1; omega
    unfold Nat.Coprime; rw[<- this]; exact g
  let r : Rat := ⟨n, d.toNat, hn, hc⟩
  have hr : r * (d : Rat) = n := by
    have h1 : r = (n : Rat) / ((d.toNat : Nat) : Rat) := by
      have := Rat.num_divInt_den r;rw[<- this, Rat.divInt_eq_div]; rfl
    have h2 : ((d.toNat : Nat) : Rat) = (d : Rat) := by
      have : ((d.toNat : Nat) : Rat) = (((d.toNat : Nat) : Int) : Rat) := rfl;rw[this, <- hd]
    have h3 : (d : Rat) ≠ 0 := by have : d ≠ 0 := by omega
                                  exact_mod_cast this
    rw[h1, h2]; grind
  have hb : (b : Rat) ≠ 0 := by exact_mod_cast h
  have hd0 : (d : Rat) ≠ 0 := by have : d ≠ 0 := by omega
                                 exact_mod_cast this
  have cr : (n : Rat) * b = t * d := by exact_mod_cast c
  have e : (t : Rat) / (b : Rat) = r := by grind
  rw[e];show(n, d) = (n, ((d.toNat : Nat) : Int));rw[<- hd]
def fr(q:Rat):Int×Int:=(q.num,q.den)
theorem zgd(q:Rat):q*((q.den:Nat):Rat)=q.num:=by
 have h1:=Rat.num_divInt_den q;rw[Rat.divInt_eq_div] at h1
 have:((q.den:Nat):Rat)≠0:=by exact_mod_cast q.den_nz
 have h2:(((q.den:Nat):Int):Rat)=((q.den:Nat):Rat):=rfl;rw[h2] at h1
 grind
theorem zdf(q:Rat):((q.den:Nat):Rat)≠0:=by exact_mod_cast q.den_nz
theorem ic(n:Nat):(((n:Nat):Int):Rat)=((n:Nat):Rat):=rfl
theorem fr_add(p q:Rat):frac (p.num*q.den+q.num*p.den) (p.den*q.den)=fr (p+q):=by
 have hp:=p.den_nz;have hq:=q.den_nz;have h:((p.den:Int)*(q.den:Int))≠0:=Int.mul_ne_zero (by omega) (by omega);rw[zdx _ _ h];have e:(((p.num*q.den+q.num*p.den:Int)):Rat) / (((p.den:Int)*(q.den:Int):Int):Rat)=p+q:=by
  have:=zgd p; have:=zgd q; have:=zdf p; have:=zdf q
  simp only[Rat.intCast_add,Rat.intCast_mul,ic]
  grind
 rw[e]; rfl
theorem fr_sub(p q:Rat):frac (p.num*q.den-q.num*p.den) (p.den*q.den)=fr (p-q):=by
 have hp:=p.den_nz;have hq:=q.den_nz;have h:((p.den:Int)*(q.den:Int))≠0:=Int.mul_ne_zero (by omega) (by omega);rw[zdx _ _ h];have e:(((p.num*q.den-q.num*p.den:Int)):Rat) / (((p.den:Int)*(q.den:Int):Int):Rat)=p-q:=by
  have:=zgd p; have:=zgd q; have:=zdf p; have:=zdf q
  simp only[Rat.intCast_sub,Rat.intCast_mul,ic]
  grind
 rw[e]; rfl
def Sb(n d:Nat)(q:Rat):Prop:=q.num.natAbs<=2 ^ n/\q.den<=2 ^ d
theorem zsg{t b:Int}(h:b≠0):(frac t b).1.natAbs<=t.natAbs/\(frac t b).2.natAbs<=b.natAbs:=by
 have h1:=zk2 t b;have h2:=zhx t b;have h3:=zf0 t b h;have a1:t.natAbs=(frac t b).1.natAbs*(part t b).natAbs:=by rw[<-Int.natAbs_mul,h1]
 have a2:b.natAbs=(frac t b).2.natAbs*(part t b).natAbs:=by rw[<-Int.natAbs_mul,h2]
 have a3:1<=(part t b).natAbs:=by omega
 rw[a1,a2];exact⟨Nat.le_mul_of_pos_right _ a3,Nat.le_mul_of_pos_right _ a3⟩
theorem sb_of{t b:Int}{n d:Nat}(h:b≠0)(h1:t.natAbs<=2 ^ n)(h2:b.natAbs<=2 ^ d){q:Rat}(e:frac t b=fr q):Sb n d q:=by
 have:=zsg (t:=t) h
 rw[e] at this;simp only[fr,Int.natAbs_natCast] at this;exact⟨by omega,by omega⟩
theorem pmul{a b m n:Nat}(h:a<=2 ^ m)(g:b<=2 ^ n):a*b<=2 ^ (m+n):=by rw[Nat.pow_add]; exact Nat.mul_le_mul h g
theorem dnz(p q:Rat):((p.den:Int)*(q.den:Int))≠0:=by
 have hp:=p.den_nz;have hq:=q.den_nz;exact Int.mul_ne_zero (by omega) (by omega)
theorem Sb.add{n d n' d' N:Nat}{p q:Rat}(h:Sb n d p)(g:Sb n' d' q)(h1:n+d'<=N)(h2:n' + d<=N):Sb (N+1) (d+d') (p+q):=by
 refine sb_of (dnz p q) ?_ ?_ (fr_add p q)
 ·have a1:(p.num*q.den).natAbs<=2 ^ N:=by
   rw[Int.natAbs_mul,Int.natAbs_natCast];exact Nat.le_trans (pmul h.1 g.2) (Nat.pow_le_pow_right (by decide) h1)
  have a2:(q.num*p.den).natAbs<=2 ^ N:=by
   rw[Int.natAbs_mul,Int.natAbs_natCast];exact Nat.le_trans (pmul g.1 h.2) (Nat.pow_le_pow_right (by decide) h2)
  have:=Int.natAbs_add_le (p.num*q.den) (q.num*p.den)
  rw[Nat.pow_succ]; omega
 ·rw[Int.natAbs_mul,Int.natAbs_natCast,Int.natAbs_natCast]; exact pmul h.2 g.2
theorem Sb.sub{n d n' d' N:Nat}{p q:Rat}(h:Sb n d p)(g:Sb n' d' q)(h1:n+d'<=N)(h2:n' + d<=N):Sb (N+1) (d+d') (p-q):=by
 refine sb_of (dnz p q) ?_ ?_ (fr_sub p q)
 ·have a1:(p.num*q.den).natAbs<=2 ^ N:=by
   rw[Int.natAbs_mul,Int.natAbs_natCast];exact Nat.le_trans (pmul h.1 g.2) (Nat.pow_le_pow_right (by decide) h1)
  have a2:(q.num*p.den).natAbs<=2 ^ N:=by
   rw[Int.natAbs_mul,Int.natAbs_natCast];exact Nat.le_trans (pmul g.1 h.2) (Nat.pow_le_pow_right (by decide) h2)
  have:=Int.natAbs_sub_le (p.num*q.den) (q.num*p.den)
  rw[Nat.pow_succ]; omega
 ·rw[Int.natAbs_mul,Int.natAbs_natCast,Int.natAbs_natCast]; exact pmul h.2 g.2
theorem Sb.mono{n d n' d':Nat}{p:Rat}(h:Sb n d p)(h1:n<=n')(h2:d<=d'):Sb n' d' p :=
 ⟨Nat.le_trans h.1 (Nat.pow_le_pow_right (by decide) h1),Nat.le_trans h.2 (Nat.pow_le_pow_right (by decide) h2)⟩
theorem Sb.one:Sb 0 0 1:=by constructor <;> decide
def wh(b:Int)(q:Rat):Int:=q.num*b.fdiv q.den
end Mth
namespace Mth
theorem zf9:∀(n:Nat) (l:List Int),l.Nodup->(∀x∈l,0<=x/\x<n)->l.length<=n
 | 0,l,_,h=>by
  cases l with
  | nil=>exact Nat.le_refl _
  | cons a r =>
   have:=h a (List.mem_cons_self ..)
   omega
 | n+1,l,hn,h=>by
  by_cases hm:(n:Int)∈l
  ·have h1:=zf9 n (l.erase (n:Int)) (hn.erase _) (fun x hx=>by
    have hx1:=List.mem_of_mem_erase hx;have hx2:x≠(n:Int):=fun z=>by
     rw[z] at hx;exact(List.Nodup.not_mem_erase hn) hx
    have:=h x hx1
    omega)
   have h2:=List.length_erase_of_mem hm
   have:0<l.length:=List.length_pos_of_mem hm
   omega
  ·have h1:=zf9 n l hn (fun x hx=>by
    have hx2:x≠(n:Int):=fun z=>hm (z ▸ hx)
    have:=h x hx
    omega)
   omega
theorem zg8:∀(l l':List Int),l.Nodup->(∀x∈l,x∈l')->l.length<=l'.length
 | [],_,_,_=>Nat.zero_le _
 | a :: r,l',hn,h=>by
  have h1:=List.nodup_cons.mp hn;have h2:=zg8 r (l'.erase a) h1.2 fun x hx=>(List.mem_erase_of_ne (fun z:x=a=>h1.1 (z ▸ hx))).mpr (h x (List.mem_cons_of_mem _ hx))
  have hm:=h a (List.mem_cons_self ..);have h3:=List.length_erase_of_mem hm
  have:=List.length_pos_of_mem hm
  rw[List.length_cons];omega
abbrev InR(n:Nat)(e:Int):Prop:=0<=e/\e<n
def itn(φ:Int->Int):Nat->Int->Int
 | 0,s=>s
 | k+1,s=>φ (itn φ k s)
structure Perm1(φ:Int->Int)(n:Nat):Prop where
 into:∀e,InR n e->InR n (φ e)
 inj:∀a b,InR n a->InR n b->φ a=φ b->a=b
section
variable {φ:Int->Int} {n:Nat} (P:Perm1 φ n)
include P
theorem zd5{s:Int}(hs:InR n s):∀k,InR n (itn φ k s)
 | 0=>hs
 | k+1=>P.into _ (zd5 hs k)
theorem zjw{s:Int}(hs:InR n s):∀(i j:Nat),i<=j->itn φ i s=itn φ j s->itn φ (j-i) s=s
 | 0,j,_,e=>by rw[Nat.sub_zero]; exact e.symm
 | i+1,0,h,_=>absurd h (by omega)
 | i+1,j+1,h,e=>by
  rw[Nat.add_sub_add_right];exact zjw hs i j (by omega) (P.inj _ _ (zd5 P hs i) (zd5 P hs j) e)
omit P in
def Per(φ:Int->Int)(s:Int)(m:Nat):Prop:=1<=m/\itn φ m s=s/\∀k,1<=k->k<m->itn φ k s≠s
omit P in
theorem Per.uniq{s:Int}{m m':Nat}(h:Per φ s m)(h':Per φ s m'):m=m':=by
 rcases Nat.lt_trichotomy m m' with z | z | z
 ·exact absurd h.2.1 (h'.2.2 m h.1 z)
 ·exact z
 ·exact absurd h'.2.1 (h.2.2 m' h'.1 z)
omit P in
def ringL(φ:Int->Int)(s:Int)(m:Nat):List Int:=(List.range m).map fun k=>itn φ k s
omit P in
theorem zew{s:Int}{m:Nat}:(ringL φ s m).length=m:=by simp[ringL]
omit P in
theorem ringL_mem{s x:Int}{m:Nat}:x∈ringL φ s m↔∃k,k<m/\itn φ k s=x:=by simp[ringL]
omit P in
theorem zfn{s:Int}{m:Nat}:ringL φ s (m+1)=ringL φ s m++[itn φ m s]:=by simp[ringL,List.range_succ]
theorem zfm{s:Int}{m:Nat}(hs:InR n s)(h:∀k,1<=k->k<m->itn φ k s≠s):(ringL φ s m).Nodup:=by
 unfold ringL List.Nodup;rw[List.pairwise_map];refine List.Pairwise.imp_of_mem ?_ (List.pairwise_lt_range (n:=m));intro a b ha hb hab e;exact h (b-a) (by omega) (by have:=List.mem_range.mp hb; omega) (zjw P hs a b (by omega) e)
theorem zls{s:Int}(hs:InR n s):∃m,m<=n/\Per φ s m:=by
 by_cases hz:∃m,1<=m/\m<=n/\itn φ m s=s
 ·have key:∀N m,m<=N->1<=m->m<=n->itn φ m s=s->∃m,m<=n/\Per φ s m:=by
   intro N
   induction N with
   | zero=>intro m h1 h2; omega
   | succ N ih =>
    intro m h1 h2 h3 h4;by_cases q:∃k,1<=k/\k<m/\itn φ k s=s
    ·obtain⟨k,k1,k2,k3⟩:=q;exact ih k (by omega) k1 (by omega) k3
    ·exact⟨m,h3,h2,h4,fun k k1 k2 k3=>q ⟨k,k1,k2,k3⟩⟩
  obtain⟨m,h1,h2,h3⟩:=hz;exact key m m (Nat.le_refl _) h1 h2 h3
 ·have h1:=zfm P (m:=n+1) hs fun k k1 k2 k3=>hz ⟨k,k1,by omega,k3⟩
  have h2:=zf9 n _ h1 fun x hx=>by
   obtain⟨k,_,e⟩:=ringL_mem.mp hx;rw[<-e];exact zd5 P hs k
  rw[zew] at h2;omega
omit P in
open Classical in
def per(φ:Int->Int)(s:Int):Nat:=if h:∃m,Per φ s m then h.choose else 1
theorem zdt{s:Int}(hs:InR n s):Per φ s (per φ s):=by
 obtain⟨m,_,h⟩:=zls P hs;have e:∃m,Per φ s m:=⟨m,h⟩;unfold per;rw[dif_pos e];exact e.choose_spec
theorem zqe{s:Int}(hs:InR n s):per φ s<=n:=by
 obtain⟨m,h1,h⟩:=zls P hs;rw[(zdt P hs).uniq h];exact h1
omit P in
def ring(φ:Int->Int)(s:Int):List Int:=ringL φ s (per φ s)
theorem zre{s:Int}(hs:InR n s):(ring φ s).Nodup:=zfm P hs (zdt P hs).2.2
theorem zgc{s x:Int}(hs:InR n s)(hx:x∈ring φ s):InR n x:=by
 obtain⟨k,_,e⟩:=ringL_mem.mp hx;rw[<-e];exact zd5 P hs k
theorem zcp{s:Int}(hs:InR n s):s∈ring φ s:=ringL_mem.mpr ⟨0,(zdt P hs).1,rfl⟩
theorem zjb{s x:Int}(hs:InR n s)(hx:x∈ring φ s):φ x∈ring φ s:=by
 obtain⟨k,hk,e⟩:=ringL_mem.mp hx;have hp:=zdt P hs;by_cases q:k+1<per φ s
 ·exact ringL_mem.mpr ⟨k+1,q,by rw[<-e]; rfl⟩
 ·have:k+1=per φ s:=by omega
  refine ringL_mem.mpr ⟨0,hp.1,?_⟩;rw[<-e];show s=itn φ (k+1) s;rw[this,hp.2.1]
theorem zjc{s x:Int}(hs:InR n s)(hx:InR n x)(h:φ x∈ring φ s):x∈ring φ s:=by
 obtain⟨k,hk,e⟩:=ringL_mem.mp h;have hp:=zdt P hs;cases k with
 | succ k=>exact ringL_mem.mpr ⟨k,by omega,P.inj _ _ (zd5 P hs k) hx e⟩
 | zero =>
  have hm:per φ s-1+1=per φ s:=by have:=hp.1; omega
  refine ringL_mem.mpr ⟨per φ s-1,by omega,P.inj _ _ (zd5 P hs _) hx ?_⟩;rw[<-e];show itn φ (per φ s-1+1) s=s;rw[hm];exact hp.2.1
theorem zkh{s:Int}{S:List Int}(hs:InR n s)(hS:∀x,InR n x->φ x∈S->x∈S)(h:s∉S):∀x∈ring φ s,x∉S:=by
 intro x hx;obtain⟨k,hk,e⟩:=ringL_mem.mp hx;subst e;clear hx hk
 induction k with
 | zero=>exact h
 | succ k ih=>exact fun z=>ih (hS _ (zd5 P hs k) z)
omit P in
open Classical in
def landsF(φ:Int->Int):Nat->List (List Int)
 | 0=>[]
 | i+1=>if (i:Int)∈(landsF φ i).flatten then landsF φ i else landsF φ i++[ring φ i]
omit P in
theorem zkt{i:Nat}(h:(i:Int)∈(landsF φ i).flatten):landsF φ (i+1)=landsF φ i:=by
 rw[landsF,if_pos h]
omit P in
theorem zku{i:Nat}(h:(i:Int)∉(landsF φ i).flatten):landsF φ (i+1)=landsF φ i++[ring φ i]:=by
 rw[landsF,if_neg h]
omit P in
structure Lands(φ:Int->Int)(n i:Nat)(R:List (List Int)):Prop where
 of:∀r∈R,∃s,InR n s/\s<i/\r=ring φ s/\∀x∈r,s<=x
 nd:R.flatten.Nodup
 all:∀e,0<=e->e<(i:Int)->e∈R.flatten
 rise:R.Pairwise fun r r'=>∀s s',r=ring φ s->InR n s->r'=ring φ s'->InR n s'->(∀x∈r,s<=x)->(∀x∈r',s'<=x)->s<s'
theorem Lands.fwd{i:Nat}{R:List (List Int)}(h:Lands φ n i R){x:Int}(hx:x∈R.flatten):φ x∈R.flatten:=by
 obtain⟨r,hr,hx⟩:=List.mem_flatten.mp hx;obtain⟨s,hs,_,e,_⟩:=h.of r hr;subst e;exact List.mem_flatten.mpr ⟨_,hr,zjb P hs hx⟩
theorem Lands.bwd{i:Nat}{R:List (List Int)}(h:Lands φ n i R){x:Int}(hi:InR n x)(hx:φ x∈R.flatten):x∈R.flatten:=by
 obtain⟨r,hr,hx⟩:=List.mem_flatten.mp hx;obtain⟨s,hs,_,e,_⟩:=h.of r hr;subst e;exact List.mem_flatten.mpr ⟨_,hr,zjc P hs hi hx⟩
theorem zhe{s s':Int}(hs:InR n s)(hs':InR n s')(e:ring φ s=ring φ s')(h:∀x∈ring φ s,s<=x)(h':∀x∈ring φ s',s'<=x):s=s':=by
 have h1:=h' s (e ▸ zcp P hs);have h2:=h s' (e ▸ zcp P hs');omega
theorem zc8:∀i,i<=n->Lands φ n i (landsF φ i)
 | 0,_=>⟨fun r h=>by simp[landsF] at h,by simp[landsF],fun e h1 h2=>by omega,by simp[landsF]⟩
 | i+1,hi=>by
  have ih:=zc8 i (by omega);have hs:InR n (i:Int):=⟨by omega,by omega⟩;unfold landsF;by_cases q:(i:Int)∈(landsF φ i).flatten
  ·rw[if_pos q];refine⟨fun r hr=>?_,ih.nd,fun e h1 h2=>?_,ih.rise⟩
   ·obtain⟨s,a,b,c,d⟩:=ih.of r hr;exact⟨s,a,by omega,c,d⟩
   ·by_cases z:e=i
    ·rw[z]; exact q
    ·exact ih.all e h1 (by omega)
  ·rw[if_neg q];have ap:=zkh P hs (fun x hx h=>ih.bwd P hx h) q;have low:∀x∈ring φ (i:Int),(i:Int)<=x:=fun x hx=>by
    rcases Int.lt_or_le x i with z | z
    ·exact absurd (ih.all x (zgc P hs hx).1 z) (ap x hx)
    ·exact z
   refine⟨fun r hr=>?_,?_,fun e h1 h2=>?_,?_⟩
   ·rcases List.mem_append.mp hr with hr | hr
    ·obtain⟨s,a,b,c,d⟩:=ih.of r hr;exact⟨s,a,by omega,c,d⟩
    ·have e:r=ring φ (i:Int):=by simpa using hr
     subst e;exact⟨i,hs,by omega,rfl,low⟩
   ·rw[List.flatten_append,List.nodup_append];refine⟨ih.nd,by simpa using zre P hs,fun x hx y hy e=>?_⟩;subst e;exact ap x (by simpa using hy) hx
   ·rw[List.flatten_append,List.mem_append];by_cases z:e=i
    ·rw[z]; right; simpa using zcp P hs
    ·left; exact ih.all e h1 (by omega)
   ·rw[List.pairwise_append];refine⟨ih.rise,List.pairwise_singleton ..,fun r hr r' hr' s s' e hs1 e' hs1' l l'=>?_⟩;have er:r'=ring φ (i:Int):=by simpa using hr'
    obtain⟨t,ht,hti,et,lt⟩:=ih.of r hr;have h1:s=t:=zhe P hs1 ht (e.symm.trans et) (e ▸ l) (et ▸ lt);have h2:s'=(i:Int):=zhe P hs1' hs (e'.symm.trans er) (e' ▸ l') low;omega
end
end Mth
namespace Mth
def prevAt(row:List Int)(k:Nat):Int:=row.getD (if k=0 then row.length-1 else k-1) 0
def rowP(row:List Int):List (Int×Int):=(List.range row.length).map fun k=>(row.getD k 0,prevAt row k)
def aheadL(ts:List (List Int)):List (Int×Int):=(ts.map rowP).flatten
theorem zkj(row:List Int):(List.range row.length).map (fun k=>row.getD k 0)=row:=by
 refine List.ext_getElem (by simp) fun i h1 h2=>?_
 simp[List.getD,h2]
theorem zja(row:List Int):(rowP row).map (·.1)=row:=by
 unfold rowP;rw[List.map_map];exact zkj row
theorem zj9(row:List Int):(rowP row).length=row.length:=by simp[rowP]
theorem zlj(r:List Int)(l:Int):(rowP (r++[l])).map (·.2)=l :: r:=by
 unfold rowP;rw[List.map_map];have hl:(r++[l]).length=r.length+1:=by simp
 rw[hl,List.range_succ_eq_map,List.map_cons,List.map_map];congr 1
 ·show prevAt (r++[l]) 0=l;unfold prevAt;rw[if_pos rfl,hl];simp[List.getD]
 ·refine List.ext_getElem (by simp) fun i h1 h2=>?_
  simp[prevAt,List.getD,List.getElem?_append_left h2,h2]
theorem zo8(row:List Int):((rowP row).map (·.2)).Perm row:=by
 rcases List.eq_nil_or_concat row with h | ⟨r,l,h⟩
 ·subst h;exact .nil
 ·rw[List.concat_eq_append] at h;subst h;rw[zlj];exact(List.perm_append_singleton l r).symm
theorem zbf:∀ts:List (List Int),(aheadL ts).map (·.1)=ts.flatten
 | []=>rfl
 | r :: ts=>by
  have ih:=zbf ts;unfold aheadL at *;rw[List.map_cons,List.flatten_cons,List.map_append,zja,ih,List.flatten_cons]
theorem zcv:∀ts:List (List Int),((aheadL ts).map (·.2)).Perm ts.flatten
 | []=>.nil
 | r :: ts=>by
  have ih:=zcv ts;unfold aheadL at *;rw[List.map_cons,List.flatten_cons,List.map_append,List.flatten_cons];exact(zo8 r).append ih
theorem zj3(ts:List (List Int))(r:List Int):aheadL (ts++[r])=aheadL ts++rowP r:=by simp[aheadL]
def lk(L:List (Int×Int))(e:Int):Option Int:=(L.find? fun p=>decide (p.1=e)).map (·.2)
theorem zfw{L:List (Int×Int)}{e v:Int}(h:lk L e=some v):(e,v)∈L:=by
 unfold lk at h;cases q:L.find? fun p=>decide (p.1=e) with
 | none=>rw[q] at h; cases h
 | some p =>
  rw[q] at h;have h1:=List.mem_of_find?_eq_some q;have h2:=List.find?_some q;have h3:p.1=e:=of_decide_eq_true h2;have h4:p.2=v:=Option.some.inj h;rw[<-h3,<-h4];exact h1
theorem ziu{L:List (Int×Int)}{e:Int}(h:e∈L.map (·.1)):∃v,lk L e=some v:=by
 obtain⟨p,hp,e1⟩:=List.mem_map.mp h;unfold lk;cases q:L.find? fun p=>decide (p.1=e) with
 | none =>
  have:=List.find?_eq_none.mp q p hp
  exact absurd (decide_eq_true e1) this
 | some p=>exact⟨p.2,rfl⟩
theorem zsa{L:List (Int×Int)}{e:Int}(h:e∉L.map (·.1)):lk L e=none:=by
 cases q:lk L e with
 | none=>rfl
 | some v=>exact absurd (List.mem_map.mpr ⟨_,zfw q,rfl⟩) h
theorem zf4{α β:Type}{f:α->β}:∀{L:List α},(L.map f).Nodup->∀{p q},p∈L->q∈L->f p=f q->p=q
 | [],_,p,_,hp,_,_=>absurd hp (by simp)
 | a :: L,h,p,q,hp,hq,e=>by
  rw[List.map_cons,List.nodup_cons] at h;rcases List.mem_cons.mp hp with h1 | h1
  ·rcases List.mem_cons.mp hq with h2 | h2
   ·rw[h1,h2]
   ·exact(h.1 (List.mem_map.mpr ⟨q,h2,by rw[<-e,h1]⟩)).elim
  ·rcases List.mem_cons.mp hq with h2 | h2
   ·exact(h.1 (List.mem_map.mpr ⟨p,h1,by rw[e,h2]⟩)).elim
   ·exact zf4 h.2 h1 h2 e
theorem lk_of{L:List (Int×Int)}{e v:Int}(hn:(L.map (·.1)).Nodup)(h:(e,v)∈L):lk L e=some v:=by
 obtain⟨u,hu⟩:=ziu (List.mem_map.mpr ⟨_,h,rfl⟩)
 have:=zf4 hn (zfw hu) h rfl
 rw[hu,(Prod.mk.inj this).2]
structure Turns(n:Nat)(ts:List (List Int)):Prop where
 nd:ts.flatten.Nodup
 mem:∀e,e∈ts.flatten↔InR n e
 even:n % 2=0
def oth(e:Int):Int:=if e % 2=0 then e+1 else e-1
theorem zcd{n:Nat}(h:n % 2=0){e:Int}(he:InR n e):InR n (oth e):=by
 unfold oth;obtain⟨h1,h2⟩:=he;split <;> constructor <;> omega
theorem zcj(e:Int):oth (oth e)=e:=by
 unfold oth;split <;> split <;> omega
def nxt(ts:List (List Int))(e:Int):Int:=(lk (aheadL ts) (oth e)).getD 0
section
variable {n:Nat} {ts:List (List Int)} (T:Turns n ts)
include T
theorem Turns.len:ts.flatten.length=n:=by
 have h1:=zf9 n _ T.nd fun x hx=>(T.mem x).mp hx
 have h2:((List.range n).map (fun k:Nat=>(k:Int))).length<=ts.flatten.length:=by
  have nd:((List.range n).map (fun k:Nat=>(k:Int))).Nodup:=by
   unfold List.Nodup;rw[List.pairwise_map];exact List.Pairwise.imp (fun {a b} h=>by omega) (List.pairwise_lt_range (n:=n))
  refine zg8 _ _ nd fun x hx=>?_
  obtain⟨k,hk,e⟩:=List.mem_map.mp hx
  have:=List.mem_range.mp hk
  exact(T.mem x).mpr ⟨by omega,by omega⟩
 rw[List.length_map,List.length_range] at h2;omega
theorem Turns.alen:(aheadL ts).length=n:=by
 have:=congrArg List.length (zbf ts)
 rw[List.length_map,T.len] at this;exact this
theorem Turns.look{e:Int}(he:InR n e):∃v,lk (aheadL ts) e=some v/\InR n v:=by
 obtain⟨v,hv⟩:=ziu (L:=aheadL ts) (e:=e) (by rw[zbf]; exact(T.mem e).mpr he);refine⟨v,hv,(T.mem v).mp ?_⟩;exact(zcv ts).mem_iff.mp (List.mem_map.mpr ⟨_,zfw hv,rfl⟩)
theorem Turns.nxt_is{e:Int}(he:InR n e):lk (aheadL ts) (oth e)=some (nxt ts e):=by
 obtain⟨v,hv,_⟩:=T.look (zcd T.even he);unfold nxt;rw[hv];rfl
theorem Turns.perm:Perm1 (nxt ts) n:=by
 refine⟨fun e he=>?_,fun a b ha hb e=>?_⟩
 ·obtain⟨v,hv,hi⟩:=T.look (zcd T.even he);unfold nxt;rw[hv];exact hi
 ·have h1:=zfw (T.nxt_is ha);have h2:=zfw (T.nxt_is hb);rw[e] at h1;have nd:((aheadL ts).map (·.2)).Nodup:=(zcv ts).nodup_iff.mpr T.nd;have h3:=(Prod.mk.inj (zf4 nd h1 h2 rfl)).1;rw[<-zcj a,h3,zcj]
end
theorem zau{α:Type}{R:List α}{j:Nat}{r:α}(h:R[j]?=some r):R.take (j+1)=R.take j++[r]:=by
 rw[List.take_add_one,h];rfl
section
variable {φ:Int->Int} {n:Nat} (P:Perm1 φ n)
include P
theorem zrf{s:Int}(hs:InR n s):(ring φ s).headD 0=s:=by
 have h:=(zdt P hs).1;unfold ring ringL;obtain⟨m,e⟩:∃m,per φ s=m+1:=⟨per φ s-1,by omega⟩;rw[e,List.range_succ_eq_map,List.map_cons];rfl
theorem zgu{r:List Int}(h:r∈landsF φ n):InR n (r.headD 0)/\r=ring φ (r.headD 0)/\∀x∈r,r.headD 0<=x:=by
 obtain⟨s,hs,_,e,l⟩:=(zc8 P n (Nat.le_refl _)).of r h;subst e;rw[zrf P hs];exact⟨hs,rfl,l⟩
theorem zmj{x:Int}:x∈(landsF φ n).flatten↔InR n x:=by
 constructor
 ·intro h;obtain⟨r,hr,hx⟩:=List.mem_flatten.mp h;obtain⟨h1,h2,_⟩:=zgu P hr;rw[h2] at hx;exact zgc P h1 hx
 ·intro h;exact(zc8 P n (Nat.le_refl _)).all x h.1 h.2
end
end Mth
namespace Mth
def Path(φ:Int->Int):List Int->Int->Prop
 | [],_=>True
 | a :: l,y=>φ a=l.headD y/\Path φ l y
theorem zmt(l m:List Int)(y:Int):(l++m).headD y=l.headD (m.headD y):=by cases l <;> rfl
theorem zcx{φ:Int->Int}(m:List Int)(y:Int):∀l:List Int,Path φ (l++m) y↔Path φ l (m.headD y)/\Path φ m y
 | []=>by simp[Path]
 | a :: l=>by
  show(φ a=(l++m).headD y/\Path φ (l++m) y)↔(φ a=l.headD (m.headD y)/\Path φ l (m.headD y))/\Path φ m y;rw[zmt,zcx m y l,and_assoc]
theorem zb5{φ ψ:Int->Int}{y:Int}:∀{l:List Int},(∀x∈l,ψ x=φ x)->Path φ l y->Path ψ l y
 | [],_,_=>trivial
 | a :: l,h,g=>⟨(h a (by simp)).trans g.1,zb5 (fun x hx=>h x (by simp[hx])) g.2⟩
theorem zjj{φ:Int->Int}{y:Int}:∀{l:List Int},Path φ l y->∀x∈l,φ x∈l\/φ x=y
 | [],_,x,h=>by cases h
 | a :: l,g,x,h=>by
  rcases List.mem_cons.mp h with rfl | h
  ·rw[g.1];cases l with
   | nil=>exact .inr rfl
   | cons b l=>left; simp
  ·rcases zjj g.2 x h with z | z
   ·left; simp[z]
   ·exact .inr z
structure RingC(φ:Int->Int)(c:List Int):Prop where
 ne:c≠[]
 pa:Path φ c (c.headD 0)
theorem RingC.fwd{φ:Int->Int}{c:List Int}(h:RingC φ c){x:Int}(hx:x∈c):φ x∈c:=by
 rcases zjj h.pa x hx with z | z
 ·exact z
 ·rw[z];cases c with
  | nil=>cases hx
  | cons a l=>simp
structure Cyc(φ:Int->Int)(n:Nat)(R:List (List Int)):Prop where
 nd:R.flatten.Nodup
 mem:∀x,x∈R.flatten↔InR n x
 ring:∀c∈R,RingC φ c
theorem zkd{R:List (List Int)}{u:Int}(h:u∈R.flatten):∃R1 c1 c2 R2,R=R1++(c1++u :: c2) :: R2:=by
 obtain⟨c,hc,hu⟩:=List.mem_flatten.mp h;obtain⟨R1,R2,rfl⟩:=List.append_of_mem hc;obtain⟨c1,c2,rfl⟩:=List.append_of_mem hu;exact⟨R1,c1,c2,R2,rfl⟩
theorem nd_app{l m:List Int}:(l++m).Nodup↔l.Nodup/\m.Nodup/\∀x∈l,x∉m:=by
 rw[List.nodup_append];constructor
 ·rintro⟨a,b,c⟩;exact⟨a,b,fun x hx hm=>c x hx x hm rfl⟩
 ·rintro⟨a,b,c⟩;exact⟨a,b,fun x hx y hy e=>c x hx (e ▸ hy)⟩
theorem in_succ{n:Nat}{x:Int}:InR (n+1) x↔InR n x\/x=n:=by
 constructor
 ·rintro⟨a,b⟩;rcases Int.lt_or_le x n with h | h
  ·exact .inl ⟨a,h⟩
  ·right; omega
 ·rintro(⟨a,b⟩ | rfl)
  ·exact⟨a,by omega⟩
  ·exact⟨by omega,by omega⟩
theorem Cyc.ins{φ ψ:Int->Int}{n:Nat}{R:List (List Int)}{u:Int}(C:Cyc φ n R)(hu:InR n u)(h1:ψ u=n)(h2:ψ n=φ u)(h3:∀x,InR n x->x≠u->ψ x=φ x):∃R',Cyc ψ (n+1) R'/\R'.length=R.length:=by
 obtain⟨R1,c1,c2,R2,rfl⟩:=zkd ((C.mem u).mpr hu);have eF:(R1++(c1++u :: c2) :: R2).flatten=R1.flatten++(c1++u :: c2)++R2.flatten:=by simp
 have eG:(R1++(c1++u :: (n:Int) :: c2) :: R2).flatten=R1.flatten++(c1++u :: (n:Int) :: c2)++R2.flatten:=by simp
 have nn:(n:Int)∉(R1++(c1++u :: c2) :: R2).flatten:=fun z=>by have:=(C.mem _).mp z; omega
 have inR:∀x,x∈(R1++(c1++u :: c2) :: R2).flatten->InR n x:=fun x hx=>(C.mem x).mp hx
 have cr:=C.ring (c1++u :: c2) (by simp);have nd:=C.nd;rw[eF] at nd nn inR;refine⟨R1++(c1++u :: (n:Int) :: c2) :: R2,⟨?_,fun x=>?_,fun c hc=>?_⟩,by simp⟩
 ·rw[eG];have p:List.Perm (R1.flatten++(c1++u :: (n:Int) :: c2)++R2.flatten) ((n:Int) :: (R1.flatten++(c1++u :: c2)++R2.flatten)):=by
   have q:List.Perm (c1++u :: (n:Int) :: c2) ((n:Int) :: (c1++u :: c2)):=by
    have e:c1++u :: (n:Int) :: c2=(c1++[u])++(n:Int) :: c2:=by simp
    rw[e];refine List.perm_middle.trans (List.Perm.cons _ ?_);exact List.Perm.of_eq (by simp)
   refine((q.append_left _).append_right _).trans ?_;have e2:R1.flatten++(n:Int) :: (c1++u :: c2)++R2.flatten=R1.flatten++(n:Int) :: ((c1++u :: c2)++R2.flatten):=by simp
   rw[e2];refine List.perm_middle.trans (List.Perm.cons _ ?_);exact List.Perm.of_eq (by simp)
  exact p.nodup_iff.mpr (List.nodup_cons.mpr ⟨nn,nd⟩)
 ·rw[in_succ,<-C.mem x,eF,eG];simp only[List.mem_append,List.mem_cons];constructor
  ·rintro((a | (a | a | a | a)) | a) <;> simp_all
  ·rintro(((a | (a | a | a)) | a) | a) <;> simp_all
 ·rcases List.mem_append.mp hc with z | z
  ·have r:=C.ring c (by simp[z]);refine⟨r.ne,zb5 (fun x hx=>h3 x (inR x ?_) fun e=>?_) r.pa⟩
   ·simp only[List.mem_append]; exact .inl (.inl (List.mem_flatten.mpr ⟨c,z,hx⟩))
   ·rw[nd_app,nd_app] at nd;exact nd.1.2.2 x (List.mem_flatten.mpr ⟨c,z,hx⟩) (by rw[e]; simp)
  rcases List.mem_cons.mp z with rfl | z
  ·have pa:=cr.pa;have hh:(c1++u :: (n:Int) :: c2).headD 0=(c1++u :: c2).headD 0:=by cases c1 <;> rfl
   rw[zcx] at pa;have nd':(c1++u :: c2).Nodup:=(nd_app.mp (nd_app.mp nd).1).2.1;have c1u:∀x∈c1,x≠u:=fun x hx e=>(nd_app.mp nd').2.2 x hx (by rw[e]; simp)
   have c2u:∀x∈c2,x≠u:=fun x hx e=>(List.nodup_cons.mp (nd_app.mp nd').2.1).1 (e ▸ hx)
   refine⟨by simp,?_⟩;rw[hh,zcx];refine⟨zb5 (fun x hx=>h3 x (inR x (by simp[hx])) (c1u x hx)) pa.1,h1,h2.trans pa.2.1,zb5 (fun x hx=>h3 x (inR x (by simp[hx])) (c2u x hx)) pa.2.2⟩
  ·have r:=C.ring c (by simp[z]);refine⟨r.ne,zb5 (fun x hx=>h3 x (inR x ?_) fun e=>?_) r.pa⟩
   ·simp only[List.mem_append]; exact .inr (List.mem_flatten.mpr ⟨c,z,hx⟩)
   ·rw[nd_app] at nd;exact nd.2.2 u (by simp) (e ▸ List.mem_flatten.mpr ⟨c,z,hx⟩)
theorem Cyc.fix{φ ψ:Int->Int}{n:Nat}{R:List (List Int)}(C:Cyc φ n R)(h1:ψ n=n)(h3:∀x,InR n x->ψ x=φ x):∃R',Cyc ψ (n+1) R'/\R'.length=R.length+1:=by
 refine⟨R++[[(n:Int)]],⟨?_,fun x=>?_,fun c hc=>?_⟩,by simp⟩
 ·rw[List.flatten_append,nd_app];refine⟨C.nd,by simp,fun x hx hn=>?_⟩
  have:=(C.mem x).mp hx
  simp at hn;omega
 ·rw[in_succ,<-C.mem x,List.flatten_append,List.mem_append];simp
 ·rcases List.mem_append.mp hc with z | z
  ·have r:=C.ring c z;exact⟨r.ne,zb5 (fun x hx=>h3 x ((C.mem x).mp (List.mem_flatten.mpr ⟨c,z,hx⟩))) r.pa⟩
  ·rw[List.mem_singleton.mp z];exact⟨by simp,h1,trivial⟩
theorem zj6{φ ψ:Int->Int}{c1 c2 c3:List Int}{a b:Int}(nd:(c1++a :: (c2++b :: c3)).Nodup)(r:RingC φ (c1++a :: (c2++b :: c3)))(ha:ψ a=φ b)(hb:ψ b=φ a)(h3:∀x∈c1++a :: (c2++b :: c3),x≠a->x≠b->ψ x=φ x):RingC ψ (c1++a :: c3)/\RingC ψ (c2++[b]):=by
 have pa:=r.pa;rw[zcx] at pa;obtain⟨p1,pa,p2⟩:=pa;rw[zcx] at p2;obtain⟨p2,pb,p3⟩:=p2;obtain⟨n1,n2,n3⟩:=nd_app.mp nd;obtain⟨n4,n5⟩:=List.nodup_cons.mp n2;obtain⟨n6,n7,n8⟩:=nd_app.mp n5;obtain⟨n9,n10⟩:=List.nodup_cons.mp n7;have k1:∀x∈c1,ψ x=φ x:=fun x hx=>h3 x (by simp[hx]) (fun e=>n3 x hx (by rw[e]; simp)) (fun e=>n3 x hx (by rw[e]; simp))
 have k2:∀x∈c2,ψ x=φ x:=fun x hx=>h3 x (by simp[hx]) (fun e=>n4 (by rw[<-e]; simp[hx])) (fun e=>n8 x hx (by rw[e]; simp))
 have k3:∀x∈c3,ψ x=φ x:=fun x hx=>h3 x (by simp[hx]) (fun e=>n4 (by rw[<-e]; simp[hx])) (fun e=>n9 (e ▸ hx))
 have hh:(c1++a :: c3).headD 0=(c1++a :: (c2++b :: c3)).headD 0:=by cases c1 <;> rfl
 refine⟨⟨by simp,?_⟩,⟨by simp,?_⟩⟩
 ·rw[hh,zcx];exact⟨zb5 k1 p1,ha.trans pb,zb5 k3 p3⟩
 ·rw[zcx];have e:(c2++b :: c3).headD ((c1++a :: (c2++b :: c3)).headD 0)=(c2++[b]).headD 0:=by cases c2 <;> rfl
  rw[e] at pa;exact⟨zb5 k2 p2,hb.trans pa,trivial⟩
theorem Cyc.swap{φ ψ:Int->Int}{n:Nat}{R:List (List Int)}{a b:Int}{c:List Int}(C:Cyc φ n R)(hc:c∈R)(am:a∈c)(bm:b∈c)(ab:a≠b)(ha:ψ a=φ b)(hb:ψ b=φ a)(h3:∀x,InR n x->x≠a->x≠b->ψ x=φ x):∃R',Cyc ψ n R'/\R'.length=R.length+1:=by
 obtain⟨R1,R2,rfl⟩:=List.append_of_mem hc;have eF:∀c,(R1++c :: R2).flatten=R1.flatten++c++R2.flatten:=fun c=>by simp
 have nd:=C.nd;rw[eF] at nd;obtain⟨m1,m2,m3⟩:=nd_app.mp nd;obtain⟨m4,m5,m6⟩:=nd_app.mp m1;have inc:∀x∈c,InR n x:=fun x hx=>(C.mem x).mp (by rw[eF]; simp[hx])
 have r:=C.ring c (by simp);have key:∃d e,RingC ψ d/\RingC ψ e/\List.Perm (d++e) c:=by
  obtain⟨c1,c2,rfl⟩:=List.append_of_mem am;rcases List.mem_append.mp bm with z | z
  ·obtain⟨d1,d2,rfl⟩:=List.append_of_mem z;have e0:d1++b :: d2++a :: c2=d1++b :: (d2++a :: c2):=by simp
   rw[e0] at r m5 inc ⊢;obtain⟨x,y⟩:=zj6 m5 r hb ha (fun x hx n1 n2=>h3 x (inc x hx) n2 n1);refine⟨_,_,x,y,?_⟩
   have:d1++b :: c2++(d2++[a])=d1++b :: (c2++(d2++[a])):=by simp
   rw[this];refine List.Perm.append_left _ (List.Perm.cons _ ?_);refine List.perm_append_comm.trans ?_;simp
  ·rcases List.mem_cons.mp z with rfl | z
   ·exact absurd rfl ab
   ·obtain⟨d1,d2,rfl⟩:=List.append_of_mem z;obtain⟨x,y⟩:=zj6 m5 r ha hb (fun x hx n1 n2=>h3 x (inc x hx) n1 n2);refine⟨_,_,x,y,?_⟩
    have:c1++a :: d2++(d1++[b])=c1++a :: (d2++(d1++[b])):=by simp
    rw[this];refine List.Perm.append_left _ (List.Perm.cons _ ?_);refine List.perm_append_comm.trans ?_;simp
 obtain⟨d,e,rd,re,p⟩:=key;have pf:List.Perm (R1++d :: e :: R2).flatten (R1++c :: R2).flatten:=by
  rw[eF,show(R1++d :: e :: R2).flatten=R1.flatten++(d++e)++R2.flatten by simp];exact(p.append_left _).append_right _
 refine⟨R1++d :: e :: R2,⟨pf.nodup_iff.mpr C.nd,fun x=>(pf.mem_iff).trans (C.mem x),fun g hg=>?_⟩,by simp; omega⟩;have far:∀g,g∈R1\/g∈R2->RingC ψ g:=fun g hg=>by
  have rg:=C.ring g (by rcases hg with z | z <;> simp[z]);refine⟨rg.ne,zb5 (fun x hx=>?_) rg.pa⟩;have xn:x∉c:=fun z=>by
   rcases hg with w | w
   ·exact m6 x (List.mem_flatten.mpr ⟨g,w,hx⟩) z
   ·exact m3 x (by simp[z]) (List.mem_flatten.mpr ⟨g,w,hx⟩)
  refine h3 x ((C.mem x).mp ?_) (fun z=>xn (z ▸ am)) (fun z=>xn (z ▸ bm));rcases hg with w | w
  ·exact List.mem_flatten.mpr ⟨g,by simp[w],hx⟩
  ·exact List.mem_flatten.mpr ⟨g,by simp[w],hx⟩
 rcases List.mem_append.mp hg with z | z
 ·exact far g (.inl z)
 rcases List.mem_cons.mp z with rfl | z
 ·exact rd
 rcases List.mem_cons.mp z with rfl | z
 ·exact re
 ·exact far g (.inr z)
theorem RingC.itn{φ:Int->Int}{c:List Int}(h:RingC φ c){x:Int}(hx:x∈c):∀k,itn φ k x∈c
 | 0=>hx
 | k+1=>h.fwd (h.itn hx k)
theorem ze5{φ:Int->Int}{y:Int}:∀{l:List Int} {a:Int},Path φ (a :: l) y->∀x∈a :: l,∃k,itn φ k a=x
 | l,a,g,x,h=>by
  rcases List.mem_cons.mp h with rfl | h
  ·exact⟨0,rfl⟩
  ·match l,g,h with
   | b :: l,g,h =>
    obtain⟨k,hk⟩:=ze5 g.2 x h;have e:φ a=b:=g.1;refine⟨k+1,?_⟩;rw[<-hk,<-e]
    have:∀k,Mth.itn φ (k+1) a=Mth.itn φ k (φ a):=fun k=>by
     induction k with
     | zero=>rfl
     | succ k ih=>show φ (Mth.itn φ (k+1) a)=φ (Mth.itn φ k (φ a)); rw[ih]
    exact this k
def leastL:List Int->Int
 | []=>0
 | [a]=>a
 | a :: l=>min a (leastL l)
theorem zda:∀{l:List Int},l≠[]->leastL l∈l/\∀x∈l,leastL l<=x
 | [a],_=>by simp[leastL]
 | a :: b :: l,_=>by
  obtain⟨h1,h2⟩:=zda (l:=b :: l) (by simp);have e:leastL (a :: b :: l)=min a (leastL (b :: l)):=rfl;rw[e];constructor
  ·rcases Int.le_total a (leastL (b :: l)) with z | z
   ·rw[Int.min_eq_left z]; simp
   ·rw[Int.min_eq_right z]; exact List.mem_cons_of_mem _ h1
  ·intro x hx;rcases List.mem_cons.mp hx with rfl | hx
   ·exact Int.min_le_left _ _
   ·exact Int.le_trans (Int.min_le_right _ _) (h2 x hx)
theorem zgp{f:List Int->Int}:∀{R:List (List Int)},R.flatten.Nodup->(∀c∈R,f c∈c)->(R.map f).Nodup
 | [],_,_=>by simp
 | c :: R,nd,h=>by
  rw[List.flatten_cons,nd_app] at nd;rw[List.map_cons,List.nodup_cons];refine⟨fun z=>?_,zgp nd.2.1 fun d hd=>h d (by simp[hd])⟩;obtain⟨d,hd,e⟩:=List.mem_map.mp z;exact nd.2.2 (f c) (h c (by simp)) (e ▸ List.mem_flatten.mpr ⟨d,hd,h d (by simp[hd])⟩)
theorem Cyc.count{φ:Int->Int}{n:Nat}{R:List (List Int)}(P:Perm1 φ n)(C:Cyc φ n R):(landsF φ n).length=R.length:=by
 have L:=zc8 P n (Nat.le_refl _);have hl:∀c∈landsF φ n,c.headD 0∈c:=fun c hc=>by
  obtain⟨s,hs,_,e,_⟩:=L.of c hc
  have:=zcp P hs
  rw[<-e] at this;cases c with
  | nil=>cases this
  | cons a l=>simp
 have n1:=zgp L.nd hl;have n2:(R.map leastL).Nodup:=zgp C.nd fun c hc=>(zda (C.ring c hc).ne).1
 have key:∀c∈R,∀r∈landsF φ n,∀x,x∈c->x∈r->leastL c=r.headD 0:=by
  intro c hc r hr x xc xr;obtain⟨⟨s,hs⟩,hd,hle⟩:=zgu P hr;have cin:∀y∈c,InR n y:=fun y hy=>(C.mem y).mp (List.mem_flatten.mpr ⟨c,hc,hy⟩)
  have rc:∀y∈r,y∈c:=by
   intro y hy;have sc:r.headD 0∈c:=by
    rw[hd] at xr
    have:∀k,itn φ k x∈c:=(C.ring c hc).itn xc
    obtain⟨k,_,hk⟩:=ringL_mem.mp xr;obtain⟨m,hm,pm⟩:=zls P (s:=r.headD 0) ⟨s,hs⟩;have hk':itn φ k (r.headD 0)=x:=hk;obtain⟨j,hj⟩:∃j,itn φ (j+k) (r.headD 0)=r.headD 0:=by
     refine⟨m*(k+1)-k,?_⟩;have le:k<=m*(k+1):=by
      have:=pm.1
      have:1*(k+1)<=m*(k+1):=Nat.mul_le_mul_right _ pm.1
      omega
     rw[Nat.sub_add_cancel le]
     have:∀t,itn φ (m*t) (r.headD 0)=r.headD 0:=fun t=>by
      induction t with
      | zero=>rfl
      | succ t ih =>
       rw[Nat.mul_succ,Nat.add_comm];have add:∀a b z,itn φ (a+b) z=itn φ a (itn φ b z):=fun a b z=>by
        induction a with
        | zero=>rw[Nat.zero_add]; rfl
        | succ a iha=>rw[Nat.succ_add]; show φ _=φ _; rw[iha]
       rw[add,ih];exact pm.2.1
     exact this _
    have add:∀a b z,itn φ (a+b) z=itn φ a (itn φ b z):=fun a b z=>by
     induction a with
     | zero=>rw[Nat.zero_add]; rfl
     | succ a iha=>rw[Nat.succ_add]; show φ _=φ _; rw[iha]
    rw[add,hk'] at hj;rw[<-hj];exact this j
   rw[hd] at hy;obtain⟨k,_,hk⟩:=ringL_mem.mp hy;rw[<-hk];exact(C.ring c hc).itn sc k
  have cr:∀y∈c,y∈r:=by
   intro y hy
   match c,(C.ring c hc),xc,hy with
   | a :: l,q,xc,hy =>
    obtain⟨k,hk⟩:=ze5 q.pa x xc;obtain⟨j,hj⟩:=ze5 q.pa y hy;have ha:InR n a:=cin a (by simp);have ar:a∈r:=by
     have:∀k,itn φ k a∈r->a∈r:=fun k=>by
      induction k with
      | zero=>exact id
      | succ k ih =>
       intro h;refine ih ?_;rw[hd] at h ⊢;exact zjc P ⟨s,hs⟩ (zd5 P ha k) h
     exact this k (by rw[hk]; exact xr)
    rw[<-hj]
    have:∀k,itn φ k a∈r:=fun k=>by
     induction k with
     | zero=>exact ar
     | succ k ih=>rw[hd] at ih ⊢; exact zjb P ⟨s,hs⟩ ih
    exact this j
  obtain⟨l1,l2⟩:=zda (C.ring c hc).ne;have h1:=hle (leastL c) (cr _ l1);have h2:=l2 (r.headD 0) (rc _ (hl r hr));omega
 have s1:∀x∈(landsF φ n).map (fun c=>c.headD 0),x∈R.map leastL:=fun x hx=>by
  obtain⟨r,hr,rfl⟩:=List.mem_map.mp hx;have hi:InR n (r.headD 0):=(zgu P hr).1;obtain⟨c,hc,xc⟩:=List.mem_flatten.mp ((C.mem _).mpr hi);exact List.mem_map.mpr ⟨c,hc,key c hc r hr _ xc (hl r hr)⟩
 have s2:∀x∈R.map leastL,x∈(landsF φ n).map (fun c=>c.headD 0):=fun x hx=>by
  obtain⟨c,hc,rfl⟩:=List.mem_map.mp hx;have l1:=(zda (C.ring c hc).ne).1;have hi:InR n (leastL c):=(C.mem _).mp (List.mem_flatten.mpr ⟨c,hc,l1⟩);obtain⟨r,hr,xr⟩:=List.mem_flatten.mp ((zmj P).mpr hi);exact List.mem_map.mpr ⟨r,hr,(key c hc r hr _ l1 xr).symm⟩
 have a:=zg8 _ _ n1 s1;have b:=zg8 _ _ n2 s2;rw[List.length_map,List.length_map] at a b;omega
end Mth
namespace Mth
def cp:Int->List Int->List (Int×Int)
 | _,[]=>[]
 | y,a :: l=>(a,y) :: cp a l
theorem zqq:∀(y:Int) (l:List Int),(cp y l).length=l.length
 | _,[]=>rfl
 | _,a :: l=>by simp[cp,zqq a l]
theorem zqr:∀(y:Int) (l:List Int) (k:Nat),k<l.length->(cp y l)[k]?=some (l.getD k 0,if k=0 then y else l.getD (k-1) 0)
 | _,a :: l,0,_=>rfl
 | y,a :: l,k+1,h=>by
  show(cp a l)[k]?=_;rw[zqr a l k (by simpa using h)];cases k with
  | zero=>rfl
  | succ k=>simp
theorem zcw(row:List Int):rowP row=cp (row.getLastD 0) row:=by
 refine List.ext_getElem? fun k=>?_
 by_cases h:k<row.length
 ·rw[zqr _ _ _ h];unfold rowP prevAt;rw[List.getElem?_map,List.getElem?_range h];show some (row.getD k 0,row.getD (if k=0 then row.length-1 else k-1) 0)=_;congr 2;by_cases z:k=0
  ·rw[if_pos z,if_pos z];rw[List.getLastD_eq_getLast?,List.getLast?_eq_getElem?,List.getD_eq_getElem?_getD]
  ·rw[if_neg z,if_neg z]
 ·rw[List.getElem?_eq_none (by rw[zj9]; omega),List.getElem?_eq_none (by rw[zqq]; omega)]
theorem znb:∀(y:Int) (l m:List Int),cp y (l++m)=cp y l++cp (l.getLastD y) m
 | _,[],m=>rfl
 | y,a :: l,m=>by
  show(a,y) :: cp a (l++m)=(a,y) :: (cp a l++cp ((a :: l).getLastD y) m);rw[znb a l m,show(a :: l).getLastD y=l.getLastD a by cases l <;> rfl]
theorem zna(ρ:Int->Int):∀(y:Int) (l:List Int),cp (ρ y) (l.map ρ)=(cp y l).map fun p=>(ρ p.1,ρ p.2)
 | _,[]=>rfl
 | y,a :: l=>by
  show(ρ a,ρ y) :: cp (ρ a) (l.map ρ)=_;rw[zna ρ a l]; rfl
def pr(ts:List (List Int))(x:Int):Int:=(lk (aheadL ts) x).getD 0
theorem zb6(ts:List (List Int))(e:Int):nxt ts e=pr ts (oth e):=rfl
theorem ze3{ts:List (List Int)}(nd:ts.flatten.Nodup){x y:Int}(h:(x,y)∈aheadL ts):pr ts x=y:=by
 unfold pr;rw[lk_of (by rw[zbf]; exact nd) h]; rfl
theorem zfs{ts:List (List Int)}(nd:ts.flatten.Nodup){x:Int}(h:x∈ts.flatten):(x,pr ts x)∈aheadL ts:=by
 rw[<-zbf] at h;obtain⟨v,hv⟩:=ziu h
 have:=zfw hv
 unfold pr;rw[hv]; exact this
theorem zdc(A B:List (List Int)):aheadL (A++B)=aheadL A++aheadL B:=by simp[aheadL]
theorem zcu(A B:List (List Int))(r:List Int):aheadL (A++r :: B)=aheadL A++(rowP r++aheadL B):=by simp[aheadL]
theorem zcf(A B:List (List Int))(r:List Int):(A++r :: B).flatten=A.flatten++(r++B.flatten):=by simp
theorem zqc{A B:List (List Int)}{t1 t2:List Int}{s e:Int}(nd:(A++(t1++s :: t2) :: B).flatten.Nodup)(he:e∉(A++(t1++s :: t2) :: B).flatten):
  (A++(t1++e :: s :: t2) :: B).flatten.Nodup/\(∀x,x∈(A++(t1++e :: s :: t2) :: B).flatten↔x∈(A++(t1++s :: t2) :: B).flatten\/x=e) /\
  pr (A++(t1++e :: s :: t2) :: B) s=e/\pr (A++(t1++e :: s :: t2) :: B) e=pr (A++(t1++s :: t2) :: B) s /\
  ∀x,x∈(A++(t1++s :: t2) :: B).flatten->x≠s->pr (A++(t1++e :: s :: t2) :: B) x=pr (A++(t1++s :: t2) :: B) x:=by
 have p:List.Perm (A++(t1++e :: s :: t2) :: B).flatten (e :: (A++(t1++s :: t2) :: B).flatten):=by
  rw[zcf,zcf,show A.flatten++(t1++e :: s :: t2++B.flatten)=(A.flatten++t1)++e :: (s :: t2++B.flatten) by simp];exact List.perm_middle.trans (List.Perm.cons _ (List.Perm.of_eq (by simp)))
 have nd':(A++(t1++e :: s :: t2) :: B).flatten.Nodup:=p.nodup_iff.mpr (List.nodup_cons.mpr ⟨he,nd⟩);have hl:(t1++e :: s :: t2).getLastD 0=(t1++s :: t2).getLastD 0:=by
  rw[List.getLastD_eq_getLast?,List.getLastD_eq_getLast?,List.getLast?_append,List.getLast?_append];rw[show(e :: s :: t2).getLast?=(s :: t2).getLast? by simp[List.getLast?_cons_cons]]
 generalize hy:(t1++s :: t2).getLastD 0=y at hl;have r1:rowP (t1++s :: t2)=cp y t1++(s,t1.getLastD y) :: cp s t2:=by rw[zcw,hy,znb]; rfl
 have r2:rowP (t1++e :: s :: t2)=cp y t1++(e,t1.getLastD y) :: (s,e) :: cp s t2:=by rw[zcw,hl,znb]; rfl
 have ps:pr (A++(t1++s :: t2) :: B) s=t1.getLastD y:=ze3 nd (by rw[zcu,r1]; simp);refine⟨nd',fun x=>p.mem_iff.trans (by simp only[List.mem_cons]; exact or_comm),ze3 nd' (by rw[zcu,r2]; simp),?_,fun x hx xs=>?_⟩
 ·rw[ps];exact ze3 nd' (by rw[zcu,r2]; simp)
 ·refine ze3 nd' ?_;have m:=zfs nd hx;rw[zcu,r1] at m;rw[zcu,r2];simp only[List.mem_append,List.mem_cons,Prod.mk.injEq] at m ⊢;rcases m with z | (z | z | z) | z
  ·exact .inl z
  ·exact .inr (.inl (.inl z))
  ·exact absurd z.1 xs
  ·exact .inr (.inl (.inr (.inr (.inr z))))
  ·exact .inr (.inr z)
theorem pr_ren{A B:List (List Int)}{t:List Int}{a f:Int}(nd:(A++t :: B).flatten.Nodup)(ha:a∈t)(hf:f∉(A++t :: B).flatten):
  (A++(t.map fun x=>if x=a then f else x) :: B).flatten.Nodup/\(∀x,x∈(A++(t.map fun x=>if x=a then f else x) :: B).flatten↔(x∈(A++t :: B).flatten/\x≠a)\/x=f) /\
  pr (A++(t.map fun x=>if x=a then f else x) :: B) f=(if pr (A++t :: B) a=a then f else pr (A++t :: B) a) /\
  ∀x,x∈(A++t :: B).flatten->x≠a->pr (A++(t.map fun x=>if x=a then f else x) :: B) x=(if pr (A++t :: B) x=a then f else pr (A++t :: B) x):=by
 generalize hρ:(fun x=>if x=a then f else x)=ρ;have ra:ρ a=f:=by rw[<-hρ]; simp
 have rx:∀x,x≠a->ρ x=x:=fun x h=>by rw[<-hρ]; simp[h]
 have rr:∀z,(if z=a then f else z)=ρ z:=fun z=>by rw[<-hρ]
 rw[zcf] at nd hf;obtain⟨n1,n2,n3⟩:=nd_app.mp nd;obtain⟨n4,n5,n6⟩:=nd_app.mp n2;simp only[List.mem_append,not_or] at hf;have inj:∀x y,x∈t->y∈t->ρ x=ρ y->x=y:=fun x y hx hy e=>by
  by_cases xa:x=a
  ·by_cases ya:y=a
   ·rw[xa,ya]
   ·rw[xa,ra,rx y ya] at e; exact absurd (e ▸ hy) hf.2.1
  ·by_cases ya:y=a
   ·rw[ya,ra,rx x xa] at e; exact absurd (e ▸ hx) hf.2.1
   ·rwa [rx x xa,rx y ya] at e
 have ndm:(t.map ρ).Nodup:=by
  unfold List.Nodup;rw[List.pairwise_map];exact List.Pairwise.imp_of_mem (fun {x y} hx hy h e=>h (inj x y hx hy e)) n4
 have mm:∀x,x∈t.map ρ↔(x∈t/\x≠a)\/x=f:=fun x=>by
  rw[List.mem_map];constructor
  ·rintro⟨y,hy,rfl⟩;by_cases ya:y=a
   ·right; rw[ya,ra]
   ·left; rw[rx y ya]; exact⟨hy,ya⟩
  ·rintro(⟨h1,h2⟩ | rfl)
   ·exact⟨x,h1,rx x h2⟩
   ·exact⟨a,ha,ra⟩
 have aA:a∉A.flatten:=fun z=>n3 a z (by simp[ha])
 have aB:a∉B.flatten:=fun z=>n6 a ha z
 have nd':(A++(t.map ρ) :: B).flatten.Nodup:=by
  rw[zcf,nd_app,nd_app];refine⟨n1,⟨ndm,n5,fun x hx=>?_⟩,fun x hx=>?_⟩
  ·rcases(mm x).mp hx with z | z
   ·exact n6 x z.1
   ·rw[z]; exact hf.2.2
  ·intro z;rcases List.mem_append.mp z with z | z
   ·rcases(mm x).mp z with w | w
    ·exact n3 x hx (by simp[w.1])
    ·exact hf.1 (w ▸ hx)
   ·exact n3 x hx (by simp[z])
 have row:rowP (t.map ρ)=(rowP t).map fun p=>(ρ p.1,ρ p.2):=by
  rw[zcw,zcw,<-zna];congr 1;cases t with
  | nil=>cases ha
  | cons b l =>
   rw[List.getLastD_eq_getLast?,List.getLastD_eq_getLast?,List.getLast?_map];rw[List.getLast?_cons]; rfl
 have old:∀{x y},(x,y)∈aheadL (A++t :: B)->x∈(A++t :: B).flatten/\y∈(A++t :: B).flatten:=fun {x y} h=>by
  constructor
  ·rw[<-zbf]; exact List.mem_map.mpr ⟨_,h,rfl⟩
  ·exact(zcv _).mem_iff.mp (List.mem_map.mpr ⟨_,h,rfl⟩)
 have ndO:(A++t :: B).flatten.Nodup:=by rw[zcf]; exact nd
 have snd_in:∀{L:List (List Int)} {x y:Int},(x,y)∈aheadL L->y∈L.flatten:=fun {L x y} h=>(zcv _).mem_iff.mp (List.mem_map.mpr ⟨_,h,rfl⟩)
 have go:∀x y,(x,y)∈aheadL (A++t :: B)->(ρ x,ρ y)∈aheadL (A++(t.map ρ) :: B):=fun x y h=>by
  have hx:=(old h).1;rw[zcu] at h ⊢;rw[row];rcases List.mem_append.mp h with z | z
  ·have xA:x∈A.flatten:=by rw[<-zbf]; exact List.mem_map.mpr ⟨_,z,rfl⟩
   have yA:=snd_in z;rw[rx x (fun e=>aA (e ▸ xA)),rx y (fun e=>aA (e ▸ yA))];exact List.mem_append_left _ z
  rcases List.mem_append.mp z with z | z
  ·exact List.mem_append_right _ (List.mem_append_left _ (List.mem_map.mpr ⟨_,z,rfl⟩))
  ·have xB:x∈B.flatten:=by rw[<-zbf]; exact List.mem_map.mpr ⟨_,z,rfl⟩
   have yB:=snd_in z;rw[rx x (fun e=>aB (e ▸ xB)),rx y (fun e=>aB (e ▸ yB))];exact List.mem_append_right _ (List.mem_append_right _ z)
 have am:a∈(A++t :: B).flatten:=by rw[zcf]; simp[ha]
 refine⟨nd',fun x=>?_,?_,fun x hx xa=>?_⟩
 ·rw[zcf,zcf];simp only[List.mem_append,mm];constructor
  ·rintro(z | (z | z) | z)
   ·exact .inl ⟨.inl z,fun e=>aA (e ▸ z)⟩
   ·exact .inl ⟨.inr (.inl z.1),z.2⟩
   ·exact .inr z
   ·exact .inl ⟨.inr (.inr z),fun e=>aB (e ▸ z)⟩
  ·rintro(⟨z | z | z,w⟩ | z)
   ·exact .inl z
   ·exact .inr (.inl (.inl ⟨z,w⟩))
   ·exact .inr (.inr z)
   ·exact .inr (.inl (.inr z))
 ·rw[rr]
  have:=go _ _ (zfs ndO am)
  rw[ra] at this;exact ze3 nd' this
 ·rw[rr]
  have:=go _ _ (zfs ndO hx)
  rw[rx x xa] at this;exact ze3 nd' this
theorem zol{ts:List (List Int)}{a:Int}(nd:ts.flatten.Nodup)(ha:a∉ts.flatten):(ts++[[a]]).flatten.Nodup/\pr (ts++[[a]]) a=a/\∀x,x∈ts.flatten->pr (ts++[[a]]) x=pr ts x:=by
 have nd':(ts++[[a]]).flatten.Nodup:=by
  rw[List.flatten_append,nd_app];exact⟨nd,by simp,fun x hx h=>ha (by simp at h; exact h ▸ hx)⟩
 refine⟨nd',ze3 nd' ?_,fun x hx=>ze3 nd' ?_⟩
 ·rw[zdc]; exact List.mem_append_right _ (by simp[aheadL,zcw,cp])
 ·rw[zdc]; exact List.mem_append_left _ (zfs nd hx)
theorem zok{ts:List (List Int)}{a b:Int}(nd:ts.flatten.Nodup)(ha:a∉ts.flatten)(hb:b∉ts.flatten)(ab:a≠b):(ts++[[a,b]]).flatten.Nodup/\pr (ts++[[a,b]]) a=b/\pr (ts++[[a,b]]) b=a/\∀x,x∈ts.flatten->pr (ts++[[a,b]]) x=pr ts x:=by
 have nd':(ts++[[a,b]]).flatten.Nodup:=by
  rw[List.flatten_append,nd_app];refine⟨nd,by simp[ab],fun x hx h=>?_⟩;simp at h;rcases h with z | z
  ·exact ha (z ▸ hx)
  ·exact hb (z ▸ hx)
 refine⟨nd',ze3 nd' ?_,ze3 nd' ?_,fun x hx=>ze3 nd' ?_⟩
 ·rw[zdc]; exact List.mem_append_right _ (by simp[aheadL,zcw,cp])
 ·rw[zdc]; exact List.mem_append_right _ (by simp[aheadL,zcw,cp])
 ·rw[zdc]; exact List.mem_append_left _ (zfs nd hx)
end Mth
namespace Mth
structure Gn(ts:List (List Int))(hs:List Nat):Prop where
 ev:hs.length % 2=0
 n4:4<=hs.length
 two:2<=ts.length
 nd:ts.flatten.Nodup
 mem:∀x,x∈ts.flatten↔InR hs.length x
 home:∀(p:Nat) (t:List Int),ts[p]?=some t->∀x:Int,x∈t->hs[x.toNat]?=some p
 ne:∀t∈ts,t≠[]
 few:2*ts.length<=hs.length
 lo:hs[0]?=some 0/\hs[1]?=some 1
 hang:∀S:Nat->Prop,S 0->(∀k,1<=k->∀p q,hs[2*k]?=some p->hs[2*k+1]?=some q->(S p↔S q))->∀p,p<ts.length->S p
 flat:∃R,Cyc (nxt ts) hs.length R/\2*(R.length+ts.length)=hs.length+4
theorem Gn.turns{ts:List (List Int)}{hs:List Nat}(g:Gn ts hs):Turns hs.length ts:=⟨g.nd,g.mem,g.ev⟩
theorem zic{α:Type}{ts:List α}{p:Nat}{r:α}(h:ts[p]?=some r):∃A B,ts=A++r :: B/\A.length=p/\∀r',ts.set p r'=A++r' :: B:=by
 obtain⟨hp,e⟩:=List.getElem?_eq_some_iff.mp h;refine⟨ts.take p,ts.drop (p+1),?_,by rw[List.length_take]; omega,fun r'=>?_⟩
 ·rw[<-e,List.getElem_cons_drop,List.take_append_drop]
 ·exact List.set_eq_take_append_cons_drop .. |>.trans (by rw[if_pos hp])
theorem zen{n:Nat}(h:n % 2=0):oth (n:Int)=(n:Int)+1:=by unfold oth; rw[if_pos (by omega)]
theorem zik{n:Nat}(h:n % 2=0):oth ((n:Int)+1)=n:=by unfold oth; rw[if_neg (by omega)]; omega
theorem zil{x y:Int}(h:oth x=oth y):x=y:=by rw[<-zcj x,h,zcj]
theorem Cyc.ins2{φ ψ:Int->Int}{n:Nat}{R:List (List Int)}{a:Int}(C:Cyc φ n R)(ha:InR n a)(h1:ψ a=n)(h2:ψ n=(n:Int)+1)(h3:ψ ((n:Int)+1)=φ a)(h4:∀x,InR n x->x≠a->ψ x=φ x):∃R',Cyc ψ (n+2) R'/\R'.length=R.length:=by
 have hn:∀x,InR n x->x≠(n:Int):=fun x h e=>by have:=h.2; omega
 obtain⟨R1,C1,l1⟩:=C.ins (ψ:=fun x=>if x=n then φ a else ψ x) ha (by show(if a=(n:Int) then φ a else ψ a)=n; rw[if_neg (hn a ha)]; exact h1) (by show(if (n:Int)=n then φ a else ψ n)=φ a; rw[if_pos rfl]) (fun x hx xa=>by show(if x=(n:Int) then φ a else ψ x)=φ x; rw[if_neg (hn x hx)]; exact h4 x hx xa);obtain⟨R2,C2,l2⟩:=C1.ins (ψ:=ψ) (u:=n) ⟨by omega,by omega⟩ (by rw[h2]; push_cast; rfl) (by show ψ ((n+1:Nat):Int)=(if (n:Int)=n then φ a else ψ n); rw[if_pos rfl,<-h3]; push_cast; rfl) (fun x hx xn=>by show ψ x=(if x=(n:Int) then φ a else ψ x); rw[if_neg xn]);exact⟨R2,C2,by omega⟩
theorem Gn.hung{ts:List (List Int)}{hs:List Nat}(g:Gn ts hs){p:Nat}{t1 t2:List Int}{s:Int}(hp:ts[p]?=some (t1++s :: t2)):
  Gn (ts.set p (t1++(hs.length:Int) :: s :: t2)++[[(hs.length:Int)+1]]) (hs++[p]++[ts.length]):=by
 obtain⟨A,B,eT,lA,eS⟩:=zic hp;have pl:p<ts.length:=(List.getElem?_eq_some_iff.mp hp).1;have nd0:=g.nd;have mem0:=g.mem;generalize hn:hs.length=n at *;have ev:=g.ev;rw[hn] at ev;have em:((n:Nat):Int)∉ts.flatten:=fun z=>by have:=(mem0 _).mp z; omega
 have em1:((n:Nat):Int)+1∉ts.flatten:=fun z=>by have:=(mem0 _).mp z; omega
 have sm:s∈ts.flatten:=List.mem_flatten.mpr ⟨_,List.mem_of_getElem? hp,by simp⟩;have sR:=(mem0 s).mp sm;rw[eT] at nd0 em;obtain⟨nd1,mem1,q1,q2,q3⟩:=zqc nd0 em;rw[<-eT,<-eS] at *;have em1':((n:Nat):Int)+1∉(ts.set p (t1++(n:Int) :: s :: t2)).flatten:=fun z=>by
  rcases(mem1 _).mp z with w | w
  ·exact em1 w
  ·omega
 obtain⟨nd2,q4,q5⟩:=zol nd1 em1';have q6:∀x∈ts.flatten,pr (ts.set p (t1++(n:Int) :: s :: t2)++[[(n:Int)+1]]) x=pr (ts.set p (t1++(n:Int) :: s :: t2)) x:=fun x hx=>q5 x ((mem1 x).mpr (.inl hx))
 have lH:(hs++[p]++[ts.length]).length=n+2:=by simp[hn]
 have lT:(ts.set p (t1++(n:Int) :: s :: t2)++[[(n:Int)+1]]).length=ts.length+1:=by simp
 obtain⟨R,C,eR⟩:=g.flat;rw[hn] at C eR;have aR:InR n (oth s):=zcd ev sR;have flat:∃R',Cyc (nxt (ts.set p (t1++(n:Int) :: s :: t2)++[[(n:Int)+1]])) (n+2) R'/\R'.length=R.length:=by
  refine C.ins2 aR ?_ ?_ ?_ fun x hx xa=>?_
  ·rw[zb6,zcj,q6 s sm,q1]
  ·rw[zb6,zen ev,q4]
  ·rw[zb6,zik ev,q5 _ ((mem1 _).mpr (.inr rfl)),q2,zb6,zcj]
  ·have hm:oth x∈ts.flatten:=(mem0 _).mpr (zcd ev hx);rw[zb6,q6 _ hm,q3 _ hm (fun e=>xa (by rw[<-e,zcj])),zb6]
 obtain⟨R',C',l'⟩:=flat;have few:=g.few;have n4:=g.n4;rw[hn] at few n4;have hget:∀{i q},hs[i]?=some q->(hs++[p]++[ts.length])[i]?=some q:=fun {i q} h=>by
  rw[List.append_assoc,List.getElem?_append_left (List.getElem?_eq_some_iff.mp h).1]; exact h
 refine⟨by rw[lH]; omega,by rw[lH]; omega,by rw[lT]; have:=g.two; omega,nd2,fun x=>?_,fun q t hq x hx=>?_,fun t ht=>?_,by rw[lT,lH]; omega,⟨hget g.lo.1,hget g.lo.2⟩,fun S S0 hS q hq=>?_,R',by rw[lH]; exact C',by rw[lH,lT,l']; omega⟩
 ·rw[lH,List.flatten_append,List.mem_append,mem1,mem0];simp only[List.flatten_cons,List.flatten_nil,List.append_nil,List.mem_singleton,InR];omega
 ·rcases Nat.lt_or_ge q ts.length with ql | ql
  ·rw[List.getElem?_append_left (by simpa using ql)] at hq;by_cases e:p=q
   ·subst e;rw[List.getElem?_set_self ql] at hq;cases hq;by_cases xn:x=n
    ·rw[xn,Int.toNat_natCast,<-hn,List.append_assoc,List.getElem?_append_right (Nat.le_refl _)]; simp
    ·refine hget (g.home p _ hp x ?_);simp only[List.mem_append,List.mem_cons] at hx ⊢;rcases hx with z | z | z | z
     ·exact .inl z
     ·exact absurd z xn
     ·exact .inr (.inl z)
     ·exact .inr (.inr z)
   ·rw[List.getElem?_set_ne e] at hq;exact hget (g.home q t hq x hx)
  ·have:q=ts.length:=by
    have:=(List.getElem?_eq_some_iff.mp hq).1
    rw[lT] at this; omega
   subst this;rw[List.getElem?_append_right (by simp)] at hq;simp at hq;subst hq;rw[List.mem_singleton.mp hx,show((n:Int)+1).toNat=n+1 by omega,<-hn];rw[List.getElem?_append_right (by simp)]; simp
 ·rcases List.mem_append.mp ht with z | z
  ·rcases List.mem_or_eq_of_mem_set z with w | w
   ·exact g.ne t w
   ·rw[w]; simp
  ·rw[List.mem_singleton.mp z]; simp
 ·have h1:=g.hang S S0 (fun k k1 a b ha hb=>hS k k1 a b (hget ha) (hget hb));rcases Nat.lt_or_ge q ts.length with ql | ql
  ·exact h1 q ql
  ·have:q=ts.length:=by rw[lT] at hq; omega
   subst this
   have:=hS (n / 2) (by omega) p ts.length (by rw[show 2*(n / 2)=n by omega,<-hn,List.append_assoc,List.getElem?_append_right (Nat.le_refl _)]; simp) (by rw[show 2*(n / 2)+1=n+1 by omega,<-hn,List.getElem?_append_right (by simp)]; simp)
   exact this.mp (h1 p pl)
end Mth
namespace Mth
structure Gb(ts:List (List Int))(hs:List Nat):Prop where
 nd:ts.flatten.Nodup
 mem:∀x,x∈ts.flatten↔InR hs.length x
 home:∀(p:Nat) (t:List Int),ts[p]?=some t->∀x:Int,x∈t->hs[x.toNat]?=some p
 ne:∀t∈ts,t≠[]
theorem Gn.gb{ts:List (List Int)}{hs:List Nat}(g:Gn ts hs):Gb ts hs:=⟨g.nd,g.mem,g.home,g.ne⟩
theorem Gb.ins{ts:List (List Int)}{hs:List Nat}(g:Gb ts hs){p:Nat}{t1 t2:List Int}{s:Int}(hp:ts[p]?=some (t1++s :: t2)):
  Gb (ts.set p (t1++(hs.length:Int) :: s :: t2)) (hs++[p])/\pr (ts.set p (t1++(hs.length:Int) :: s :: t2)) s=hs.length/\pr (ts.set p (t1++(hs.length:Int) :: s :: t2)) hs.length=pr ts s /\
   ∀x,InR hs.length x->x≠s->pr (ts.set p (t1++(hs.length:Int) :: s :: t2)) x=pr ts x:=by
 obtain⟨A,B,eT,lA,eS⟩:=zic hp;have pl:p<ts.length:=(List.getElem?_eq_some_iff.mp hp).1;have nd0:=g.nd;have mem0:=g.mem;generalize hn:hs.length=n at *;have em:((n:Nat):Int)∉ts.flatten:=fun z=>by have:=(mem0 _).mp z; omega
 rw[eT] at nd0 em;obtain⟨nd1,mem1,q1,q2,q3⟩:=zqc nd0 em;rw[<-eT,<-eS] at *;have lH:(hs++[p]).length=n+1:=by simp[hn]
 have hget:∀{i q},hs[i]?=some q->(hs++[p])[i]?=some q:=fun {i q} h=>by
  rw[List.getElem?_append_left (List.getElem?_eq_some_iff.mp h).1]; exact h
 refine⟨⟨nd1,fun x=>?_,fun q t hq x hx=>?_,fun t ht=>?_⟩,q1,q2,fun x hx xs=>q3 x ((mem0 x).mpr hx) xs⟩
 ·rw[lH,mem1,mem0,in_succ]
 ·by_cases e:p=q
  ·subst e;rw[List.getElem?_set_self pl] at hq;cases hq;by_cases xn:x=n
   ·rw[xn,Int.toNat_natCast,<-hn,List.getElem?_append_right (Nat.le_refl _)]; simp
   ·refine hget (g.home p _ hp x ?_);simp only[List.mem_append,List.mem_cons] at hx ⊢;rcases hx with z | z | z | z
    ·exact .inl z
    ·exact absurd z xn
    ·exact .inr (.inl z)
    ·exact .inr (.inr z)
  ·rw[List.getElem?_set_ne e] at hq;exact hget (g.home q t hq x hx)
 ·rcases List.mem_or_eq_of_mem_set ht with w | w
  ·exact g.ne t w
  ·rw[w]; simp
theorem Gn.chord {ts:List (List Int)} {hs:List Nat} (g:Gn ts hs) {p1 p2:Nat} {t1 t2 u1 u2:List Int} {a b:Int} (aR:InR hs.length a) (kb:∃k,itn (nxt ts) k a=b)
  (h1:ts[p1]?=some (t1++oth a :: t2)) (h2:(ts.set p1 (t1++(hs.length:Int) :: oth a :: t2))[p2]?=some (u1++oth b :: u2)) :
  Gn ((ts.set p1 (t1++(hs.length:Int) :: oth a :: t2)).set p2 (u1++((hs.length:Int)+1) :: oth b :: u2)) (hs++[p1]++[p2]):=by
 have ev:=g.ev;have n4:=g.n4;have few:=g.few;have T:=g.turns;obtain⟨R,C,eR⟩:=g.flat;have bR:InR hs.length b:=by obtain⟨k,rfl⟩:=kb; exact zd5 T.perm aR k
 obtain⟨B1,q1,q2,q3⟩:=g.gb.ins h1;generalize hT1:ts.set p1 (t1++(hs.length:Int) :: oth a :: t2)=ts1 at *;have lT1:ts1.length=ts.length:=by rw[<-hT1]; simp
 have lh:(hs++[p1]).length=hs.length+1:=by simp
 have e1:(((hs++[p1]).length:Nat):Int)=(hs.length:Int)+1:=by rw[lh]; push_cast; rfl
 obtain⟨B2,r1,r2,r3⟩:=B1.ins h2;rw[e1] at B2 r1 r2 r3;rw[lh] at r3;generalize hT2:ts1.set p2 (u1++((hs.length:Int)+1) :: oth b :: u2)=ts2 at *;have lT2:ts2.length=ts.length:=by rw[<-hT2]; simp[lT1]
 have lH:(hs++[p1]++[p2]).length=hs.length+2:=by simp
 have hget:∀{i q},hs[i]?=some q->(hs++[p1]++[p2])[i]?=some q:=fun {i q} h=>by
  rw[List.append_assoc,List.getElem?_append_left (List.getElem?_eq_some_iff.mp h).1]; exact h
 have saR:=zcd ev aR;have sbR:=zcd ev bR;generalize hn:hs.length=n at *;have up:∀{x:Int},InR n x->InR (n+1) x:=fun {x} h=>⟨h.1,by have:=h.2; omega⟩
 have w1:nxt ts2 ((n:Int)+1)=nxt ts a:=by
  rw[zb6,zik ev,r3 _ ⟨by omega,by omega⟩ (fun e=>by have:=sbR.2; omega),q2,zb6]
 have w2:nxt ts2 b=(n:Int)+1:=by rw[zb6,r1]
 have w3:∀x,InR n x->x≠a->x≠b->nxt ts2 x=nxt ts x:=fun x hx xa xb=>by
  have:=zcd ev hx
  rw[zb6,r3 _ (up this) (fun e=>xb (zil e)),q3 _ this (fun e=>xa (zil e)),zb6]
 have flat:∃R',Cyc (nxt ts2) (n+2) R'/\R'.length=R.length+1:=by
  have hnn:∀{x:Int},InR n x->x≠(n:Int):=fun {x} h e=>by have:=h.2; omega
  by_cases ab:a=b
  ·subst ab;have w4:nxt ts2 n=n:=by rw[zb6,zen ev,r2,q1]
   obtain⟨R1,C1,l1⟩:=C.fix (ψ:=fun x=>if x=(n:Int) then (n:Int) else nxt ts x) (by show(if (n:Int)=n then (n:Int) else _)=n; rw[if_pos rfl]) (fun x hx=>by show(if x=(n:Int) then (n:Int) else nxt ts x)=_; rw[if_neg (hnn hx)]);obtain⟨R2,C2,l2⟩:=C1.ins (ψ:=nxt ts2) (u:=a) (up aR) (by rw[w2]; push_cast; rfl) (by show nxt ts2 ((n+1:Nat):Int)=(if a=(n:Int) then (n:Int) else nxt ts a); rw[if_neg (hnn aR),<-w1]; push_cast; rfl) (fun x hx xa=>by
    show nxt ts2 x=(if x=(n:Int) then (n:Int) else nxt ts x);rcases in_succ.mp hx with z | z
    ·rw[if_neg (hnn z),w3 x z xa xa]
    ·rw[if_pos z,z,w4])
   exact⟨R2,C2,by omega⟩
  ·have sab:oth b≠oth a:=fun e=>ab (zil e).symm
   have w4:nxt ts2 n=nxt ts b:=by rw[zb6,zen ev,r2,q3 _ sbR sab,zb6]
   have w5:nxt ts2 a=n:=by rw[zb6,r3 _ (up saR) (fun e=>sab e.symm),q1]
   obtain⟨c,hc,ac⟩:=List.mem_flatten.mp ((C.mem a).mpr aR);have bc:b∈c:=by obtain⟨k,rfl⟩:=kb; exact(C.ring c hc).itn ac k
   obtain⟨R1,C1,l1⟩:=C.swap (ψ:=fun x=>if x=a then nxt ts b else if x=b then nxt ts a else nxt ts x) hc ac bc ab (by show(if a=a then _ else _)=_; rw[if_pos rfl]) (by show(if b=a then _ else if b=b then _ else _)=_; rw[if_neg (fun e=>ab e.symm),if_pos rfl]) (fun x _ xa xb=>by show(if x=a then _ else if x=b then _ else nxt ts x)=_; rw[if_neg xa,if_neg xb]);obtain⟨R2,C2,l2⟩:=C1.ins (ψ:=fun x=>if x=a then (n:Int) else if x=(n:Int) then nxt ts b else if x=b then nxt ts a else nxt ts x) aR (by show(if a=a then (n:Int) else _)=n; rw[if_pos rfl]) (by show(if (n:Int)=a then (n:Int) else if (n:Int)=n then nxt ts b else _)=(if a=a then nxt ts b else _); rw[if_neg (fun e=>hnn aR e.symm),if_pos rfl,if_pos rfl]) (fun x hx xa=>by
    show(if x=a then (n:Int) else if x=(n:Int) then nxt ts b else if x=b then nxt ts a else nxt ts x)=(if x=a then nxt ts b else if x=b then nxt ts a else nxt ts x);rw[if_neg xa,if_neg xa,if_neg (hnn hx)])
   obtain⟨R3,C3,l3⟩:=C2.ins (ψ:=nxt ts2) (u:=b) (up bR) (by rw[w2]; push_cast; rfl) (by
    show nxt ts2 ((n+1:Nat):Int)=(if b=a then (n:Int) else if b=(n:Int) then nxt ts b else if b=b then nxt ts a else nxt ts b);rw[if_neg (fun e=>ab e.symm),if_neg (hnn bR),if_pos rfl,<-w1]; push_cast; rfl) (fun x hx xb=>by
    show nxt ts2 x=(if x=a then (n:Int) else if x=(n:Int) then nxt ts b else if x=b then nxt ts a else nxt ts x);by_cases xa:x=a
    ·rw[if_pos xa,xa,w5]
    ·rw[if_neg xa];rcases in_succ.mp hx with z | z
     ·rw[if_neg (hnn z),if_neg xb,w3 x z xa xb]
     ·rw[if_pos z,z,w4])
   exact⟨R3,C3,by omega⟩
 obtain⟨R',C',l'⟩:=flat;refine⟨by rw[lH]; omega,by rw[lH]; omega,by rw[lT2]; exact g.two,B2.nd,B2.mem,B2.home,B2.ne,by rw[lT2,lH]; omega,⟨hget g.lo.1,hget g.lo.2⟩,fun S S0 hS q hq=>?_,R',by rw[lH]; exact C',by rw[lH,lT2,l']; omega⟩;exact g.hang S S0 (fun k k1 x y hx hy=>hS k k1 x y (hget hx) (hget hy)) q (by omega)
theorem zji{φ:Int->Int}{y:Int}:∀{l:List Int},Path φ l y->∀x∈l,x=l.headD 0\/∃z∈l,φ z=x
 | a :: l,g,x,h=>by
  rcases List.mem_cons.mp h with rfl | h
  ·exact .inl rfl
  ·right
   cases l with
   | nil=>cases h
   | cons b l =>
    rcases zji g.2 x h with e | ⟨z,hz,e⟩
    ·exact⟨a,by simp,by rw[g.1,e]; rfl⟩
    ·exact⟨z,by simp[hz],e⟩
theorem zhi{φ:Int->Int}{y:Int}:∀{l:List Int},l≠[]->Path φ l y->∃z∈l,φ z=y
 | [a],_,g=>⟨a,by simp,g.1⟩
 | a :: b :: l,_,g=>by
  obtain⟨z,hz,e⟩:=zhi (l:=b :: l) (by simp) g.2;exact⟨z,List.mem_cons_of_mem _ hz,e⟩
theorem Cyc.pre{φ:Int->Int}{n:Nat}{R:List (List Int)}(C:Cyc φ n R){x:Int}(hx:InR n x):∃z,InR n z/\φ z=x:=by
 obtain⟨c,hc,xc⟩:=List.mem_flatten.mp ((C.mem x).mpr hx);have r:=C.ring c hc;rcases zji r.pa x xc with e | ⟨z,hz,e⟩
 ·obtain⟨z,hz,e2⟩:=zhi r.ne r.pa;exact⟨z,(C.mem z).mp (List.mem_flatten.mpr ⟨c,hc,hz⟩),e2.trans e.symm⟩
 ·exact⟨z,(C.mem z).mp (List.mem_flatten.mpr ⟨c,hc,hz⟩),e⟩
end Mth
namespace Mth
theorem Gn.part{ts:List (List Int)}{hs:List Nat}(g:Gn ts hs){p r:Nat}{t:List Int}{pe:Int}(r1:1<=r)(er:pe=2*(r:Int)+1)(hp:ts[p]?=some t)(pm:pe∈t):
  Gn (ts.set p (t.map fun x=>if x=pe then (hs.length:Int)+1 else x)++[[pe,(hs.length:Int)]]) ((hs++[ts.length]++[p]).set pe.toNat ts.length):=by
 obtain⟨A,B,eT,lA,eS⟩:=zic hp;have pl:p<ts.length:=(List.getElem?_eq_some_iff.mp hp).1;have nd0:=g.nd;have mem0:=g.mem;have ev:=g.ev;have n4:=g.n4;have few:=g.few;have P:=g.turns.perm;obtain⟨R,C,eR⟩:=g.flat;have pet:pe∈ts.flatten:=List.mem_flatten.mpr ⟨t,List.mem_of_getElem? hp,pm⟩;have peR:=(mem0 pe).mp pet;have hpe:=g.home p t hp pe pm;generalize hn:hs.length=n at *;have pn:pe.toNat<n:=by have:=peR.2; omega
 have pt:pe.toNat=2*r+1:=by omega
 have em:((n:Nat):Int)+1∉ts.flatten:=fun z=>by have:=(mem0 _).mp z; omega
 rw[eT] at nd0 em;obtain⟨nd1,mem1,q1,q2⟩:=pr_ren nd0 pm em;rw[<-eT,<-eS] at *;generalize hT1:ts.set p (t.map fun x=>if x=pe then (n:Int)+1 else x)=ts1 at *;have lT1:ts1.length=ts.length:=by rw[<-hT1]; simp
 have pe1:pe∉ts1.flatten:=fun z=>by
  rcases(mem1 _).mp z with w | w
  ·exact w.2 rfl
  ·have:=peR.2; omega
 have n1:((n:Nat):Int)∉ts1.flatten:=fun z=>by
  rcases(mem1 _).mp z with w | w
  ·have:=(mem0 _).mp w.1; omega
  ·omega
 obtain⟨nd2,w1,w2,w3⟩:=zok nd1 pe1 n1 (fun e=>by have:=peR.2; omega);generalize hT2:ts1++[[pe,(n:Int)]]=ts2 at *;have lT2:ts2.length=ts.length+1:=by rw[<-hT2]; simp[lT1]
 have lH:((hs++[ts.length]++[p]).set pe.toNat ts.length).length=n+2:=by simp[hn]
 have qR:=zcd ev peR;have v1:nxt ts2 (oth pe)=n:=by rw[zb6,zcj,w1]
 have v2:nxt ts2 n=(if nxt ts (oth pe)=pe then (n:Int)+1 else nxt ts (oth pe)):=by
  rw[zb6,zen ev,w3 _ ((mem1 _).mpr (.inr rfl)),q1,zb6,zcj]
 have v3:nxt ts2 ((n:Int)+1)=pe:=by rw[zb6,zik ev,w2]
 have v4:∀x,InR n x->x≠oth pe->nxt ts2 x=(if nxt ts x=pe then (n:Int)+1 else nxt ts x):=fun x hx xq=>by
  have ox:=zcd ev hx;have xp:oth x≠pe:=fun e=>xq (by rw[<-e,zcj])
  rw[zb6,w3 _ ((mem1 _).mpr (.inl ⟨(mem0 _).mpr ox,xp⟩)),q2 _ ((mem0 _).mpr ox) xp,zb6]
 have hnn:∀{x:Int},InR n x->x≠(n:Int):=fun {x} h e=>by have:=h.2; omega
 have flat:∃R',Cyc (nxt ts2) (n+2) R'/\R'.length=R.length:=by
  obtain⟨R1,C1,l1⟩:=C.ins (ψ:=fun x=>if x=oth pe then (n:Int) else if x=(n:Int) then nxt ts (oth pe) else nxt ts x) qR (by show(if oth pe=oth pe then (n:Int) else _)=n; rw[if_pos rfl]) (by show(if (n:Int)=oth pe then (n:Int) else if (n:Int)=n then nxt ts (oth pe) else _)=_; rw[if_neg (fun e=>hnn qR e.symm),if_pos rfl]) (fun x hx xq=>by show(if x=oth pe then (n:Int) else if x=(n:Int) then nxt ts (oth pe) else nxt ts x)=nxt ts x; rw[if_neg xq,if_neg (hnn hx)]);obtain⟨u,uR,hu⟩:=C1.pre (x:=pe) ⟨peR.1,by have:=peR.2; omega⟩;have hu':(if u=oth pe then (n:Int) else if u=(n:Int) then nxt ts (oth pe) else nxt ts u)=pe:=hu;have uq:u≠oth pe:=fun e=>by rw[if_pos e] at hu'; exact hnn peR hu'.symm
  rw[if_neg uq] at hu';have uu:u=(n:Int)/\nxt ts (oth pe)=pe\/InR n u/\nxt ts u=pe:=by
   rcases in_succ.mp uR with z | z
   ·right; rw[if_neg (hnn z)] at hu'; exact⟨z,hu'⟩
   ·left; rw[if_pos z] at hu'; exact⟨z,hu'⟩
  obtain⟨R2,C2,l2⟩:=C1.ins (ψ:=nxt ts2) (u:=u) uR (by
   rcases uu with ⟨e,z⟩ | ⟨z,e⟩
   ·rw[e,v2,if_pos z]; push_cast; rfl
   ·rw[v4 u z uq,if_pos e]; push_cast; rfl) (by
   show nxt ts2 ((n+1:Nat):Int)=(if u=oth pe then (n:Int) else if u=(n:Int) then nxt ts (oth pe) else nxt ts u);rw[if_neg uq,hu',<-v3]; push_cast; rfl) (fun x hx xu=>by
   show nxt ts2 x=(if x=oth pe then (n:Int) else if x=(n:Int) then nxt ts (oth pe) else nxt ts x);by_cases xq:x=oth pe
   ·rw[if_pos xq,xq,v1]
   ·rw[if_neg xq];rcases in_succ.mp hx with z | z
    ·rw[if_neg (hnn z),v4 x z xq,if_neg];intro e;rcases uu with ⟨_,e2⟩ | ⟨zu,e2⟩
     ·exact xq (P.inj _ _ z qR (e.trans e2.symm))
     ·exact xu (P.inj _ _ z zu (e.trans e2.symm))
    ·rw[if_pos z,z,v2,if_neg];intro e;rcases uu with ⟨e2,_⟩ | ⟨zu,e2⟩
     ·exact xu (z.trans e2.symm)
     ·exact uq (P.inj _ _ zu qR (e2.trans e.symm)))
  exact⟨R2,C2,by omega⟩
 obtain⟨R',C',l'⟩:=flat;have hget:∀{i q},hs[i]?=some q->i≠pe.toNat->((hs++[ts.length]++[p]).set pe.toNat ts.length)[i]?=some q:=fun {i q} h ne=>by
  rw[List.getElem?_set_ne (fun e=>ne e.symm),List.append_assoc,List.getElem?_append_left (List.getElem?_eq_some_iff.mp h).1]; exact h
 have hN:((hs++[ts.length]++[p]).set pe.toNat ts.length)[n]?=some ts.length:=by
  rw[List.getElem?_set_ne (by omega),List.append_assoc,<-hn,List.getElem?_append_right (Nat.le_refl _)]; simp
 have hN1:((hs++[ts.length]++[p]).set pe.toNat ts.length)[n+1]?=some p:=by
  rw[List.getElem?_set_ne (by omega),<-hn,List.getElem?_append_right (by simp)]; simp
 have hP:((hs++[ts.length]++[p]).set pe.toNat ts.length)[pe.toNat]?=some ts.length:=by
  rw[List.getElem?_set_self (by simp[hn]; omega)]
 have two:=g.two;refine⟨by rw[lH]; omega,by rw[lH]; omega,by rw[lT2]; omega,nd2,fun x=>?_,fun i t' hi x hx=>?_,fun t' ht'=>?_,by rw[lT2,lH]; omega,⟨hget g.lo.1 (by omega),hget g.lo.2 (by omega)⟩,fun S S0 hS i hi=>?_,R',by rw[lH]; exact C',by rw[lH,lT2,l']; omega⟩
 ·rw[lH,<-hT2,List.flatten_append,List.mem_append,mem1,mem0];simp only[List.flatten_cons,List.flatten_nil,List.append_nil,List.mem_cons,List.not_mem_nil,or_false,InR]
  have:=peR.1
  have:=peR.2
  omega
 ·rw[<-hT2] at hi;rcases Nat.lt_or_ge i ts.length with il | il
  ·rw[List.getElem?_append_left (by omega),<-hT1] at hi;by_cases e:p=i
   ·subst e;rw[List.getElem?_set_self pl] at hi;cases hi;obtain⟨y,hy,rfl⟩:=List.mem_map.mp hx;by_cases yp:y=pe
    ·rw[if_pos yp,show((n:Int)+1).toNat=n+1 by omega]; exact hN1
    ·rw[if_neg yp];have yR:=(mem0 y).mp (List.mem_flatten.mpr ⟨t,List.mem_of_getElem? hp,hy⟩);exact hget (g.home p t hp y hy) (fun e=>yp (by have:=yR.1; have:=peR.1; omega))
   ·rw[List.getElem?_set_ne e] at hi;have hx2:=g.home i t' hi x hx;refine hget hx2 (fun z=>?_);rw[z,hpe] at hx2;exact e (Option.some.inj hx2)
  ·have:i=ts.length:=by
    have:=(List.getElem?_eq_some_iff.mp hi).1
    simp[lT1] at this; omega
   subst this;rw[List.getElem?_append_right (by omega),lT1] at hi;simp at hi;subst hi;simp only[List.mem_cons,List.not_mem_nil,or_false] at hx;rcases hx with rfl | rfl
   ·exact hP
   ·rw[Int.toNat_natCast]; exact hN
 ·rw[<-hT2,<-hT1] at ht';rcases List.mem_append.mp ht' with z | z
  ·rcases List.mem_or_eq_of_mem_set z with w | w
   ·exact g.ne t' w
   ·rw[w];intro e;rw[List.map_eq_nil_iff] at e;rw[e] at pm;cases pm
  ·rw[List.mem_singleton.mp z]; simp
 ·have sP:S ts.length↔S p:=hS (n / 2) (by omega) _ _ (by rw[show 2*(n / 2)=n by omega]; exact hN) (by rw[show 2*(n / 2)+1=n+1 by omega]; exact hN1);have old:=g.hang S S0 (fun k k1 x y hx hy=>by
   by_cases e:2*k+1=pe.toNat
   ·have ey:y=p:=by rw[e,hpe] at hy; exact(Option.some.inj hy).symm
    subst ey;exact(hS k k1 x ts.length (hget hx (by omega)) (by rw[e]; exact hP)).trans sP
   ·exact hS k k1 x y (hget hx (by omega)) (hget hy e))
  rcases Nat.lt_or_ge i ts.length with il | il
  ·exact old i il
  ·have:i=ts.length:=by rw[lT2] at hi; omega
   rw[this];exact sP.mpr (old p pl)
theorem Gn.first:Gn [[0,2],[1,3]] [0,1,0,1]:=by
 have nd:([[0,2],[1,3]]:List (List Int)).flatten.Nodup:=by decide
 have p0:pr [[0,2],[1,3]] 0=2:=by decide
 have p1:pr [[0,2],[1,3]] 1=3:=by decide
 have p2:pr [[0,2],[1,3]] 2=0:=by decide
 have p3:pr [[0,2],[1,3]] 3=1:=by decide
 refine⟨by decide,by decide,by decide,nd,fun x=>?_,fun p t hp x hx=>?_,by decide,by decide,⟨rfl,rfl⟩,fun S S0 hS p hp=>?_,[[0,3],[1,2]],⟨by decide,fun x=>?_,fun c hc=>?_⟩,by decide⟩
 ·simp only[List.flatten_cons,List.flatten_nil,List.append_nil,List.mem_append,List.mem_cons,List.not_mem_nil,or_false,InR,List.length_cons,List.length_nil];omega
 ·match p,hp with
  | 0,hp=>cases hp; simp at hx; rcases hx with rfl | rfl <;> rfl
  | 1,hp=>cases hp; simp at hx; rcases hx with rfl | rfl <;> rfl
 ·have:=hS 1 (by decide) 0 1 rfl rfl
  match p,hp with
  | 0,_=>exact S0
  | 1,_=>exact this.mp S0
 ·simp only[List.flatten_cons,List.flatten_nil,List.append_nil,List.mem_append,List.mem_cons,List.not_mem_nil,or_false,InR,List.length_cons,List.length_nil];omega
 ·simp only[List.mem_cons,List.not_mem_nil,or_false] at hc;rcases hc with rfl | rfl
  ·exact⟨by simp,by decide,by decide,trivial⟩
  ·exact⟨by simp,by decide,by decide,trivial⟩
theorem Gn.lands{ts:List (List Int)}{hs:List Nat}(g:Gn ts hs):2*((landsF (nxt ts) hs.length).length+ts.length)=hs.length+4:=by
 obtain⟨R,C,e⟩:=g.flat;rw[C.count g.turns.perm]; exact e
end Mth
namespace Mth
theorem zjk{φ ψ ρ:Int->Int}{y:Int}:∀{l:List Int},(∀x∈l,ψ (ρ x)=ρ (φ x))->Path φ l y->Path ψ (l.map ρ) (ρ y)
 | [],_,_=>trivial
 | a :: l,h,g=>by
  refine⟨?_,zjk (fun x hx=>h x (by simp[hx])) g.2⟩;rw[h a (by simp),g.1];cases l <;> rfl
theorem zdy(ρ:Int->Int):∀R:List (List Int),(R.map fun c=>c.map ρ).flatten=R.flatten.map ρ
 | []=>rfl
 | c :: R=>by rw[List.map_cons,List.flatten_cons,List.flatten_cons,List.map_append,zdy ρ R]
theorem zjp{ρ:Int->Int}:∀{l:List Int},l.Nodup->(∀x∈l,∀y∈l,ρ x=ρ y->x=y)->(l.map ρ).Nodup
 | [],_,_=>by simp
 | a :: l,nd,inj=>by
  rw[List.nodup_cons] at nd;rw[List.map_cons,List.nodup_cons];refine⟨fun z=>?_,zjp nd.2 fun x hx y hy=>inj x (by simp[hx]) y (by simp[hy])⟩;obtain⟨b,hb,e⟩:=List.mem_map.mp z;exact nd.1 (inj b (by simp[hb]) a (by simp) e ▸ hb)
theorem Cyc.ren{φ ψ ρ σ:Int->Int}{n:Nat}{R:List (List Int)}(C:Cyc φ n R)(into:∀x,InR n x->InR n (ρ x))(back:∀x,InR n x->InR n (σ x)/\ρ (σ x)=x)(inj:∀x y,InR n x->InR n y->ρ x=ρ y->x=y)(h:∀x,InR n x->ψ (ρ x)=ρ (φ x)):Cyc ψ n (R.map fun c=>c.map ρ):=by
 refine⟨?_,fun x=>?_,fun c hc=>?_⟩
 ·rw[zdy];exact zjp C.nd fun x hx y hy=>inj x y ((C.mem x).mp hx) ((C.mem y).mp hy)
 ·rw[zdy,List.mem_map];constructor
  ·rintro⟨y,hy,rfl⟩; exact into y ((C.mem y).mp hy)
  ·intro hx;exact⟨σ x,(C.mem _).mpr (back x hx).1,(back x hx).2⟩
 ·obtain⟨d,hd,rfl⟩:=List.mem_map.mp hc;have r:=C.ring d hd;refine⟨by simp[r.ne],?_⟩
  have:=zjk (ψ:=ψ) (ρ:=ρ) (fun x hx=>h x ((C.mem x).mp (List.mem_flatten.mpr ⟨d,hd,hx⟩))) r.pa
  have e:(d.map ρ).headD 0=ρ (d.headD 0):=by
   have:=r.ne
   cases d with
   | nil=>exact absurd rfl this
   | cons a l=>rfl
  rw[e]; exact this
theorem pr_map{ts:List (List Int)}{ρ:Int->Int}(nd:ts.flatten.Nodup)(inj:∀x∈ts.flatten,∀y∈ts.flatten,ρ x=ρ y->x=y):(ts.map fun t=>t.map ρ).flatten.Nodup/\∀x∈ts.flatten,pr (ts.map fun t=>t.map ρ) (ρ x)=ρ (pr ts x):=by
 have nd':(ts.map fun t=>t.map ρ).flatten.Nodup:=by rw[zdy]; exact zjp nd inj
 refine⟨nd',fun x hx=>ze3 nd' ?_⟩;have m:=zfs nd hx;have row:∀t:List Int,rowP (t.map ρ)=(rowP t).map fun p=>(ρ p.1,ρ p.2):=fun t=>by
  rw[zcw,zcw];cases t with
  | nil=>rfl
  | cons a l =>
   rw[<-zna];congr 1;rw[List.getLastD_eq_getLast?,List.getLastD_eq_getLast?,List.getLast?_map,List.getLast?_cons]; rfl
 unfold aheadL at m ⊢;obtain⟨r,hr,hm⟩:=List.mem_flatten.mp m;obtain⟨t,ht,rfl⟩:=List.mem_map.mp hr;refine List.mem_flatten.mpr ⟨rowP (t.map ρ),List.mem_map.mpr ⟨t.map ρ,List.mem_map.mpr ⟨t,ht,rfl⟩,rfl⟩,?_⟩;rw[row];exact List.mem_map.mpr ⟨_,hm,rfl⟩
def Rot(r r':List Int):Prop:=∃l m,r=l++m/\r'=m++l
theorem Rot.perm{r r':List Int}(h:Rot r r'):List.Perm r r':=by
 obtain⟨l,m,rfl,rfl⟩:=h;exact List.perm_append_comm
end Mth
namespace My
open PySem
def top(i:Nat):Stmt:=PySem.Challenge.pw_currentfloor_k07_texts_refused.main.body.getD i (.Pass ⟨0,0,0,0⟩)
abbrev sCommon:Stmt:=top 10
abbrev sFraction:Stmt:=top 11
abbrev sOther:Stmt:=top 13
abbrev sAhead:Stmt:=top 14
abbrev sRingFrom:Stmt:=top 15
abbrev sRings:Stmt:=top 16
abbrev zcm:Stmt:=top 18
abbrev zay:Stmt:=top 19
abbrev zbm:Stmt:=top 20
abbrev zcn:Stmt:=top 21
abbrev zbb:Stmt:=top 22
abbrev zde:Stmt:=top 23
abbrev zaz:Stmt:=top 24
abbrev zbn:Stmt:=top 25
abbrev zbc:Stmt:=top 26
abbrev zbh:Stmt:=top 27
abbrev zco:Stmt:=top 28
abbrev zbx:Stmt:=top 30
abbrev zb9:Stmt:=top 31
abbrev zby:Stmt:=top 32
abbrev zbu:Stmt:=top 33
abbrev zbt:Stmt:=top 34
abbrev zc2:Stmt:=top 35
abbrev zba:Stmt:=top 37
abbrev zbw:Stmt:=top 38
abbrev zbl:Stmt:=top 40
abbrev zbj:Stmt:=top 41
abbrev sNext:Stmt:=top 42
abbrev zc5:Stmt:=top 43
abbrev zax:Stmt:=top 44
abbrev zb4:Stmt:=top 45
abbrev sLEase:Stmt:=top 46
abbrev zbv:Stmt:=top 47
abbrev zc4:Stmt:=top 50
abbrev zcl:Stmt:=top 51
abbrev zbi:Stmt:=top 52
abbrev zbk:Stmt:=top 53
abbrev zc3:Stmt:=top 54
abbrev sLaw:Stmt:=top 55
abbrev sNNInit:Stmt:=L2.inClass (top 2) 0
abbrev sNRInit:Stmt:=L2.inClass (top 3) 0
abbrev sNTInit:Stmt:=L2.inClass (top 4) 0
abbrev sLoInit:Stmt:=L2.inClass (top 5) 0
abbrev sNFInit:Stmt:=L2.inClass (top 6) 0
abbrev sNXInit:Stmt:=L2.inClass (top 7) 0
end My
namespace My
open PySem L2 Mth
theorem za5{H:Hp}{p:Addr}(h:H p=none)(o:HO):Same H (upd H p o):=fun b u q=>by rw[upd_ne (ne_of_none q h)]; exact q
def SameB(x:Addr)(H H':Hp):Prop:=∀b o,b≠x->H b=some o->H' b=some o
theorem SameB.refl(x:Addr)(H:Hp):SameB x H H:=fun _ _ _ h=>h
theorem SameB.put{x:Addr}{H H':Hp}(h:SameB x H H')(o:HO):SameB x H (upd H' x o):=fun b u n q=>by rw[upd_ne n]; exact h b u n q
theorem SameB.trans{x:Addr}{H H1 H2:Hp}(a:SameB x H H1)(b:SameB x H1 H2):SameB x H H2:=fun c o n h=>b c o n (a c o n h)
theorem _root_.L2.Same.b{x:Addr}{H H':Hp}(h:Same H H'):SameB x H H':=fun b o _ q=>h b o q
theorem SameB.same{x:Addr}{H0 H H':Hp}(h:SameB x H H')(s:Same H0 H)(n:H0 x=none):Same H0 H':=fun b o q=>h b o (ne_of_none q n) (s b o q)
theorem SameB.one{x:Addr}{H:Hp}{o:HO}:SameB x H (upd H x o):=(SameB.refl x H).put o
theorem _root_.L2.Same.up{x:Addr}{H0 H:Hp}(s:Same H0 H)(n:H0 x=none)(o:HO):Same H0 (upd H x o):=SameB.one.same s n
theorem iteNN{c A B:Prop}[Decidable c](hc:¬c)(h:A):if (!decide c)=true then A else B:=by
 rw[decide_eq_false hc];exact iteT h
theorem iteDT{c A B:Prop}[Decidable c](hc:c)(h:A):if decide c=true then A else B:=by
 rw[decide_eq_true hc];exact iteT h
theorem iteDF{c A B:Prop}[Decidable c](hc:¬c)(h:B):if decide c=true then A else B:=by
 rw[decide_eq_false hc];exact iteF h
theorem iv{a b:Int}(h:a=b):V.int a=V.int b:=by rw[h]
theorem ivn{a b:Int}(h:a≠b):¬V.int a=V.int b:=fun z=>h (V.int.inj z)
theorem szl{n:Nat}(h:n<=100000):n<sizeLine:=by rw[sizeLine_eq]; omega
abbrev kvI(L:List (Int×Int)):List (Key×V):=L.map fun p=>(Sum.inl p.1,V.int p.2)
theorem zi8(e:Int):∀L:List (Int×Int),valV (kvI L) (Sum.inl e:Key)=(lk L e).map V.int
 | []=>rfl
 | p :: L=>by
  show valV ((Sum.inl p.1,V.int p.2) :: kvI L) (Sum.inl e:Key)=_;by_cases h:p.1=e
  ·rw[zdn (p:=((Sum.inl p.1:Key),V.int p.2)) (by rw[h])];unfold lk;rw[List.find?_cons_of_pos (by simpa using h)];rfl
  ·rw[zdo (p:=((Sum.inl p.1:Key),V.int p.2)) (fun z=>h (Sum.inl.inj z)),zi8 e L];unfold lk;rw[List.find?_cons_of_neg (by simpa using h)]
theorem zlm{kvs:List (Key×V)}{k:Key}{v:V}(h:valV kvs k=none):putK kvs k v=kvs++[(k,v)]:=by
 unfold putK;rw[zee,h];rfl
theorem zrl{L:List (Int×Int)}{e v:Int}(h:e∉L.map (·.1)):putK (kvI L) (Sum.inl e:Key) (.int v)=kvI (L++[(e,v)]):=by
 rw[zlm (by rw[zi8,zsa h]; rfl)];simp
abbrev kvT(l:List Int):List (Key×V):=l.map fun e=>(Sum.inl e,V.bl true)
theorem zdi(e:Int):∀l:List Int,valV (kvT l) (Sum.inl e:Key)=if e∈l then some (V.bl true) else none
 | []=>rfl
 | p :: L=>by
  show valV ((Sum.inl p,V.bl true) :: kvT L) (Sum.inl e:Key)=_;by_cases h:p=e
  ·rw[zdn (p:=((Sum.inl p:Key),V.bl true)) (by rw[h]),if_pos (by simp[h])]
  ·rw[zdo (p:=((Sum.inl p:Key),V.bl true)) (fun z=>h (Sum.inl.inj z)),zdi e L]
   have:e∈p :: L↔e∈L:=by simp[Ne.symm h]
   by_cases q:e∈L
   ·rw[if_pos q,if_pos (this.mpr q)]
   ·rw[if_neg q,if_neg fun z=>q (this.mp z)]
theorem zln{l:List Int}{e:Int}(h:e∉l):putK (kvT l) (Sum.inl e:Key) (.bl true)=kvT (l++[e]):=by
 rw[zlm (by rw[zdi,if_neg h])];simp
theorem zmv{H:Hp}{d:Addr}{L:List (Int×Int)}{e v:Int}(h:H d=some (.dK (kvI L)))(q:lk L e=some v):DGet H d (.int e) (some (.int v)):=by
 have:=DGet.k (k:=Sum.inl e) h
 rw[zi8,q] at this;exact this
def TsA(H:Hp)(a:Addr)(bs:List Addr)(ts:List (List Int)):Prop :=
 H a=some (.tup (bs.map V.ref))/\bs.length=ts.length/\∀(i:Nat) (b:Addr) (row:List Int),bs[i]?=some b->ts[i]?=some row->H b=some (.tup (row.map V.int))
theorem TsA.keep{H H':Hp}{a:Addr}{bs:List Addr}{ts:List (List Int)}(h:TsA H a bs ts)(s:Same H H'):TsA H' a bs ts :=
 ⟨s _ _ h.1,h.2.1,fun i b row e1 e2=>s _ _ (h.2.2 i b row e1 e2)⟩
theorem row_at{bs:List Addr}{ts:List (List Int)}{i:Nat}{x:V}(hl:bs.length=ts.length)(h:(bs.map V.ref)[i]?=some x):∃b row,x=.ref b/\bs[i]?=some b/\ts[i]?=some row:=by
 rw[List.getElem?_map] at h;cases e:bs[i]? with
 | none=>rw[e] at h; cases h
 | some b =>
  rw[e] at h;have hi:i<bs.length:=(List.getElem?_eq_some_iff.mp e).1;exact⟨b,ts[i]'(by omega),(Option.some.inj h).symm,rfl,List.getElem?_eq_getElem (by omega)⟩
theorem zfe{row:List Int}{i:Nat}{x:V}(h:(row.map V.int)[i]?=some x):∃e,x=.int e/\row[i]?=some e:=by
 rw[List.getElem?_map] at h;cases q:row[i]? with
 | none=>rw[q] at h; cases h
 | some e =>
  rw[q] at h;exact⟨e,(Option.some.inj h).symm,rfl⟩
theorem at_int{row:List Int}{i:Nat}{e:Int}(h:row[i]?=some e):(row.map V.int)[i]?=some (.int e):=by rw[List.getElem?_map,h]; rfl
theorem znl{row:List Int}{j:Nat}(h:j<row.length):atI (row.map V.int) ((j:Int)-1)=some (.int (prevAt row j)):=by
 have g:∀i,i<row.length->(row.map V.int)[i]?=some (.int (row.getD i 0)):=fun i hi=>by
  rw[List.getElem?_map,List.getElem?_eq_getElem hi,List.getD_eq_getElem?_getD,List.getElem?_eq_getElem hi];rfl
 unfold prevAt;cases j with
 | zero =>
  rw[if_pos rfl];have hl:(row.map V.int).length=row.length:=List.length_map ..;have e:ixN (row.map V.int).length (((0:Nat):Int)-1)=some (row.length-1):=by
   unfold ixN;rw[hl,if_neg (by decide),if_pos (by omega)];congr 1;omega
  unfold atI;rw[e];exact g _ (by omega)
 | succ j =>
  rw[if_neg (by omega),show(((j+1:Nat):Int)-1)=((j:Nat):Int) by omega];exact zaf (g j (by omega))
theorem zhw{ts:List (List Int)}(nd:ts.flatten.Nodup){i j:Nat}{row:List Int}{e:Int}(h1:ts[i]?=some row)(h2:row[j]?=some e):e∉(ts.take i).flatten++row.take j:=by
 obtain⟨hi,q1⟩:=List.getElem?_eq_some_iff.mp h1;obtain⟨hj,q2⟩:=List.getElem?_eq_some_iff.mp h2;have e1:ts=ts.take i++row :: ts.drop (i+1):=by rw[<-q1,List.getElem_cons_drop,List.take_append_drop]
 have e2:row=row.take j++e :: row.drop (j+1):=by rw[<-q2,List.getElem_cons_drop,List.take_append_drop]
 rw[e1,List.flatten_append,List.flatten_cons,List.nodup_append] at nd;obtain⟨_,n2,n3⟩:=nd;intro z;rcases List.mem_append.mp z with z | z
 ·exact n3 e z e (List.mem_append_left _ (by rw[e2]; simp)) rfl
 ·rw[List.nodup_append] at n2;have n4:=n2.1;rw[e2,List.nodup_append] at n4;exact n4.2.2 e z e (by simp) rfl
section
variable {P:Program} {w:World} {K:PySem.W.Frag} {mg:Str->Option Value} {base:Heap}
inductive SpOthR(vs:List V)(H:Hp)(Q:VK):Prop
 | mk (e:Int) (h_0:vs=[.int e]) (h_1:Q (.int (oth e)) H):SpOthR vs H Q
def spOth:Sp:=fun vs H Q _=>SpOthR vs H Q
theorem scOt:FnScope ["end"] ["end"] (defScope sOther):=⟨rfl,rfl,rfl,by decide +kernel,rfl,by decide +kernel,by decide +kernel⟩
theorem zow{f:Addr}{fd:FuncData}(F:Fun K "other_end" "other_end" sOther f fd):FnOk P w K mg base CX0 1 f fd ["end"] spOth:=by
 refine F.ok scOt (fun vs H Q E h=>?_) (fun cdv A outer s H vs Q E hr h=>?_)
 ·obtain⟨a,rfl,_⟩:=h;rfl
 obtain⟨e,rfl,q⟩:=h;refine⟨_,za6 (zag (zem (zac zd7 (za7 zaj (pv 0) za3) za3 (nomark _)) (za7 zb1 (pv 0) za3) (za7 zd8 (pv 0) za3))),?_⟩;refine⟨_,rfl,_,_,rfl,rfl,(show(0:Int)<2 by decide),rfl,_,rfl,?_⟩;unfold oth at q;by_cases h:e % 2=0
 ·rw[if_pos h] at q;exact iteDT (iv h) ⟨_,rfl,_,_,rfl,rfl,q⟩
 ·rw[if_neg h] at q;exact iteDF (ivn h) ⟨_,rfl,_,_,rfl,rfl,q⟩
inductive SpAheadR(vs:List V)(H:Hp)(Q:VK):Prop
 | mk (a:Addr) (bs:List Addr) (ts:List (List Int)) (n:Nat) (h_0:vs=[.ref a]) (h_1:TsA H a bs ts) (h_2:Turns n ts) (h_3:n<=1000) (h_4:∀d H',Same H H'->H d=none->H' d=some (.dK (kvI (aheadL ts)))->Q (.ref d) H'):SpAheadR vs H Q
def spAhead:Sp:=fun vs H Q _=>SpAheadR vs H Q
def tAhead(K:PySem.W.Frag):TS:=tSeq (tAsg tDNewK (gName 1)) (tSeq (tFor (iTup K (tVar 0)) (gName 2) (tFor (iEnum (tCons (tVar 2) tNil)) (gTup K 2 (gCons (gName 3) (gCons (gName 4) gNil)))
 (sDPut (tVar 1) (tVar 4) (tOp (rIxT K) (tVar 2) (tOp (rI0 fun i j=>.int (i-j)) (tVar 3) (tC (.int 1))))))) (tRet (tVar 1)))
theorem zoe{H:Hp}{Q:VK}{a:Addr}{bs:List Addr}{ts:List (List Int)}{n:Nat}{nx:St->Hp->Prop}(hT:TsA H a bs ts)(T:Turns n ts)(hn:n<=1000)(q:∀d H',Same H H'->H d=none->H' d=some (.dK (kvI (aheadL ts)))->Q (.ref d) H'):
  tAhead K { nx:=nx,rt:=Q } [some (.ref a),none,none,none,none] H:=by
 intro d hd
 try dsimp only
 try refine zaq ?_
 first | refine zb8 fun UL1 hUL1=>?_ | refine ze6 fun UL1 hUL1=>?_
 refine⟨_,rfl,a,rfl,⟨_,SqT.of (za5 hd _ _ _ hT.1)⟩,?_⟩;refine ze9 (xs:=bs.map V.ref) (fun i σ H2=>∃t k e,σ=[some (.ref a),some (.ref d),t,k,e]/\Same H H2/\H2 d=some (.dK (kvI (aheadL (ts.take i))))) ⟨none,none,none,rfl,za5 hd _,za1⟩ (fun i σ H2 _ ⟨_,_,_,_,s,_⟩=>SqT.of (s _ _ hT.1)) ?_ ?_
 ·rintro i x σ H2 hx ⟨t0,k0,e0,rfl,sm,hd2⟩;obtain⟨b,row,rfl,hb,hrow⟩:=row_at hT.2.1 hx;have hB:=sm _ _ (hT.2.2 i b row hb hrow)
  try dsimp only
  try refine zaq ?_
  first | refine zb8 fun UL2 hUL2=>?_ | refine ze6 fun UL2 hUL2=>?_
  refine⟨_,rfl,b,_,rfl,hB,?_⟩;refine zgx (xs:=row.map V.int) (fun j σ H3=>∃k e,σ=[some (.ref a),some (.ref d),some (.ref b),k,e]/\Same H H3/\H3 d=some (.dK (kvI (aheadL (ts.take i)++(rowP row).take j)))) ⟨k0,e0,rfl,sm,by rw[List.take_zero,List.append_nil]; exact hd2⟩
   (fun j σ H3 _ ⟨_,_,_,s,_⟩=>s _ _ (hT.2.2 i b row hb hrow)) ?_ ?_
  ·rintro j x σ H3 p hx3 ⟨k1,e1,rfl,sm3,hd3⟩ hp;obtain⟨e,rfl,he⟩:=zfe hx3;have hj:j<row.length:=(List.getElem?_eq_some_iff.mp he).1;have sm4:Same H (upd H3 p (.tup [.int j,.int e])):=sm3.trans (za5 hp _);have hd4:(upd H3 p (.tup [.int j,.int e])) d=some (.dK (kvI (aheadL (ts.take i)++(rowP row).take j))):=za5 hp _ _ _ hd3;have keys:(aheadL (ts.take i)++(rowP row).take j).map (·.1)=(ts.take i).flatten++row.take j:=by
    rw[List.map_append,zbf,List.map_take,zja]
   have fr:e∉(aheadL (ts.take i)++(rowP row).take j).map (·.1):=by rw[keys]; exact zhw T.nd hrow he
   have ln:(kvI (aheadL (ts.take i)++(rowP row).take j)).length<sizeLine:=by
    have l1:=congrArg List.length keys;rw[List.length_map] at l1;have l2:((ts.take i).flatten++row.take j).length<=n:=by
     rw[<-T.len];have e1:ts=ts.take i++ts.drop i:=(List.take_append_drop i ts).symm;have hd:ts.drop i=row :: ts.drop (i+1):=by
      obtain⟨hi,q1⟩:=List.getElem?_eq_some_iff.mp hrow;rw[<-q1,List.getElem_cons_drop]
     have e2:ts.flatten.length=(ts.take i).flatten.length+(row.length+(ts.drop (i+1)).flatten.length):=by
      conv=>lhs; rw[e1,hd]
      rw[List.flatten_append,List.flatten_cons,List.length_append,List.length_append]
     rw[e2,List.length_append,List.length_take];omega
    rw[List.length_map,l1];exact szl (by omega)
   refine⟨p,_,rfl,SqT.of za1,rfl,_,_,rfl,_,_,rfl,rfl,?_⟩;refine⟨_,rfl,_,rfl,_,_,rfl,rfl,b,_,_,_,rfl,rfl,SqT.of (sm4 _ _ (hT.2.2 i b row hb hrow)),znl hj,_,rfl,_,rfl,d,_,rfl,DPut.k (k:=Sum.inl e) hd4 ln,?_⟩;refine⟨_,_,rfl,sm4.up hd _,?_⟩;rw[za1,zrl fr,List.append_assoc];have rp:(rowP row)[j]?=some (e,prevAt row j):=by
    unfold rowP;rw[List.getElem?_map,List.getElem?_range hj];show some (row.getD j 0,prevAt row j)=_;rw[List.getD_eq_getElem?_getD,he];rfl
   rw[zau rp]
  ·rintro σ H3 ⟨k1,e1,rfl,sm3,hd3⟩;subst hUL2;refine⟨_,_,_,rfl,sm3,?_⟩;rw[hd3,zau hrow,zj3,List.length_map,show(rowP row).take row.length=rowP row from List.take_of_length_le (by rw[zj9]; exact Nat.le_refl _)]
 ·rintro σ H2 ⟨t0,k0,e0,rfl,sm,hd2⟩;subst hUL1;refine⟨_,rfl,q d H2 sm hd ?_⟩;rw[hd2,List.length_map,List.take_of_length_le (by rw[hT.2.1]; exact Nat.le_refl _)]
theorem scAh:FnScope ["turns","ahead","turn","k","end"] ["turns"] (defScope sAhead):=⟨rfl,rfl,rfl,by decide +kernel,rfl,by decide +kernel,by decide +kernel⟩
theorem zp4{f:Addr}{fd:FuncData}(F:Fun K "ends_ahead" "ends_ahead" sAhead f fd)(me:mg "enumerate" = none):FnOk P w K mg base CX0 1 f fd ["turns"] spAhead:=by
 refine F.ok scAh (fun vs H Q E h=>?_) (fun cdv A outer s H vs Q E hr h=>?_)
 ·obtain⟨a,bs,ts,n,rfl,_⟩:=h;rfl
 obtain⟨a,bs,ts,n,rfl,hT,T,hn,q⟩:=h;have hu:=zkx hr;refine⟨tAhead K,za2 (za8 (i:=1) scAh.nd rfl (Or.inl rfl) zjh)
  (za2 (zbs PassesOwn.never rfl (zlr (pv 0)) (zae (i:=2) scAh.nd rfl (Or.inl rfl))
   (za6 (zbs PassesOwn.never rfl (zih (by rfl) me (za0 (pv 2) za4)) (zqd rfl (zaw (zae (i:=3) scAh.nd rfl (Or.inl rfl)) (zaw (zae (i:=4) scAh.nd rfl (Or.inl rfl)) zdj)))
    (za6 (zgf hu (pv 1) (pv 4) (zai zqi (pv 2) (za7 zd8 (pv 3) za3) (fun _ _=>rfl)) rfl)))))
  (za6 (zag (pv 1)))),zoe hT T hn q⟩
inductive SpRingR(vs:List V)(H:Hp)(Q:VK):Prop
 | mk (s:Int) (d:Addr) (ts:List (List Int)) (n:Nat) (h_0:vs=[.int s,.ref d]) (h_1:H d=some (.dK (kvI (aheadL ts)))) (h_2:Turns n ts) (h_3:n<=1000) (h_4:InR n s) (h_5:∀p H',Same H H'->H p=none->H' p=some (.tup ((ring (nxt ts) s).map V.int))->Q (.ref p) H'):SpRingR vs H Q
def spRing:Sp:=fun vs H Q _=>SpRingR vs H Q
theorem scRf:FnScope ["start","ahead","ring","end"] ["start","ahead"] (defScope sRingFrom):=⟨rfl,rfl,rfl,by decide +kernel,rfl,by decide +kernel,by decide +kernel⟩
theorem zio{f g:Addr}{fd gd:FuncData}(F:Fun K "ring_from" "ring_from" sRingFrom f fd)(G:FnOk P w K mg base CX0 1 g gd ["end"] spOth)(bG:Binds K gd ["end"] [])(kG:PySem.W.keepIn K (.ref g)=true)(mG:mg "other_end" = some (.ref g))(mt:mg "tuple" = none):
  FnOk P w K mg base CX0 2 f fd ["start","ahead"] spRing:=by
 refine F.ok scRf (fun vs H Q E h=>?_) (fun cdv A outer s H vs Q E hr h=>?_)
 ·obtain⟨a,bs,ts,n,rfl,_⟩:=h;rfl
 obtain⟨s0,d,ts,n,rfl,hd,T,hn,hs,q⟩:=h;have hu:=zkx hr;have PM:=T.perm;have PE:=zdt PM hs;refine⟨_,za2 (za8 (i:=2) scRf.nd rfl (Or.inl rfl) (zar (za0 (pv 0) za4)))
  (za2 (za8 (i:=3) scRf.nd rfl (Or.inl rfl) (zlw hu (pv 1) (za9 G hr (by rfl) mG kG bG .nil pass0 (za0 (pv 0) za4)) (fun _ _=>rfl)))
  (za2 (zds PassesOwn.never (zac zhk (pv 3) (pv 0) (nomark _))
   (za2 (zam (zap K PySem.F.plainAttrs_list PySem.F.slot_list_append PySem.F.type_list_append zal (pv 2) (za0 (pv 3) za4)))
    (za6 (za8 (i:=3) scRf.nd rfl (Or.inl rfl) (zlw hu (pv 1) (za9 G hr (by rfl) mG kG bG .nil pass0 (za0 (pv 3) za4)) (fun _ _=>rfl))))))
  (za6 (zag (zak zd1 (by rfl) mt zc0 (za0 (pv 2) za4)))))),?_⟩
 refine⟨_,rfl,by show 1<=sizeLine; decide,fun l hl=>?_⟩;refine⟨_,rfl,_,rfl,s0,rfl,d,_,rfl,zmv (za5 hl _ _ _ hd) (T.nxt_is hs),?_⟩;refine zdm (fun σ H2=>∃j,1<=j/\j<=per (nxt ts) s0/\σ=[some (.int s0),some (.ref d),some (.ref l),some (.int (itn (nxt ts) j s0))]/\Same H H2/\H2 l=some (.lst ((ringL (nxt ts) s0 j).map V.int)))
  (fun _ H2=>match H2 l with | some (.lst xs)=>per (nxt ts) s0-xs.length | _=>0) ⟨1,Nat.le_refl _,PE.1,rfl,za5 hl _,za1⟩ ?_ ?_
 ·rintro σ H2 ⟨j,j1,j2,rfl,sm,hl2⟩;refine⟨_,rfl,_,rfl,rfl,_,rfl,?_⟩;by_cases he:itn (nxt ts) j s0=s0
  ·refine iteNS (iv he) ?_;have hj:j=per (nxt ts) s0:=by
    rcases Nat.lt_or_ge j (per (nxt ts) s0) with z | z
    ·exact absurd he (PE.2.2 j j1 z)
    ·omega
   subst hj;refine⟨_,rfl,l,_,rfl,.inl ⟨SqL.of hl2,fun p hp=>?_⟩⟩;exact q p _ (sm.trans (za5 hp _)) (sm.free hp) za1
  ·refine iteNN (ivn he) ?_;have hj:j<per (nxt ts) s0:=by
    rcases Nat.lt_or_ge j (per (nxt ts) s0) with z | z
    ·exact z
    ·exact absurd (by rw[show j=per (nxt ts) s0 by omega]; exact PE.2.1) he
   have hpl:=zqe PM hs;have hlen:(ringL (nxt ts) s0 j).length=j:=zew;refine⟨_,rfl,.inl ⟨rfl,_,SqL.of hl2⟩,_,rfl,l,_,_,rfl,rfl,hl2,by rw[List.length_map,hlen]; exact szl (by omega),?_⟩;have sm2:=sm.up hl (.lst ((ringL (nxt ts) s0 j).map V.int++[.int (itn (nxt ts) j s0)]));refine⟨_,rfl,_,rfl,_,rfl,d,_,rfl,zmv (sm2 _ _ hd) (T.nxt_is (zd5 PM hs j)),?_⟩;refine⟨⟨j+1,by omega,hj,rfl,sm2,?_⟩,?_⟩
   ·rw[za1,zfn,List.map_append];rfl
   ·rw[za1,hl2];show per (nxt ts) s0-((ringL (nxt ts) s0 j).map V.int++[V.int (itn (nxt ts) j s0)]).length<per (nxt ts) s0-((ringL (nxt ts) s0 j).map V.int).length;rw[List.length_append,List.length_map,hlen,List.length_singleton];omega
 ·rintro σ H2 Q1 Q2 hq ⟨v,e,v',e',sc,b,eb,z⟩;exact⟨v,e,v',e',sc,b,eb,hq _ _ z⟩
end
section
variable {P:Program} {w:World} {K:PySem.W.Frag} {mg:Str->Option Value} {base:Heap}
def RowsA(H:Hp)(bs:List Addr)(R:List (List Int)):Prop:=bs.length=R.length/\∀(i:Nat) (b:Addr) (row:List Int),bs[i]?=some b->R[i]?=some row->H b=some (.tup (row.map V.int))
theorem RowsA.snoc{H H':Hp}{bs:List Addr}{R:List (List Int)}{b:Addr}{row:List Int}(h:RowsA H bs R)(s:∀c ys,H c=some (.tup ys)->H' c=some (.tup ys))(hb:H' b=some (.tup (row.map V.int))):RowsA H' (bs++[b]) (R++[row]):=by
 refine⟨by rw[List.length_append,List.length_append,h.1]; rfl,fun i c r e1 e2=>?_⟩;rcases Nat.lt_or_ge i bs.length with z | z
 ·rw[List.getElem?_append_left z] at e1;rw[List.getElem?_append_left (by rw[<-h.1]; exact z)] at e2;exact s _ _ (h.2 i c r e1 e2)
 ·have hi:i<bs.length+1:=by
   have:=(List.getElem?_eq_some_iff.mp e1).1
   rw[List.length_append] at this;exact this
  have hi2:i=bs.length:=by omega
  subst hi2;rw[List.getElem?_append_right (Nat.le_refl _),Nat.sub_self] at e1;rw[h.1,List.getElem?_append_right (Nat.le_refl _),Nat.sub_self] at e2;cases e1;cases e2;exact hb
theorem RowsA.keep{H H':Hp}{bs:List Addr}{R:List (List Int)}(h:RowsA H bs R)(s:∀c ys,H c=some (.tup ys)->H' c=some (.tup ys)):RowsA H' bs R:=⟨h.1,fun i b r e1 e2=>s _ _ (h.2 i b r e1 e2)⟩
theorem SameB.tup{x:Addr}{H H':Hp}(h:SameB x H H')(hx:∀ys,H x≠some (.tup ys)):∀c ys,H c=some (.tup ys)->H' c=some (.tup ys):=fun c ys e=>h c _ (fun z=>hx ys (z ▸ e)) e
theorem zmk{φ:Int->Int}{n:Nat}(PM:Perm1 φ n){i:Nat}(hi:i<=n):(landsF φ i).flatten.length<=n/\(landsF φ i).length<=n:=by
 have L:=zc8 PM i hi;have inn:∀x∈(landsF φ i).flatten,InR n x:=fun x hx=>by
  obtain⟨r,hr,hx⟩:=List.mem_flatten.mp hx;obtain⟨s,hs,_,e,_⟩:=L.of r hr;subst e;exact zgc PM hs hx
 have h1:=zf9 n _ L.nd inn;refine⟨h1,Nat.le_trans ?_ h1⟩
 have:∀R:List (List Int),(∀r∈R,1<=r.length)->R.length<=R.flatten.length:=by
  intro R
  induction R with
  | nil=>intro _; exact Nat.le_refl _
  | cons r R ih =>
   intro h;have h2:=ih fun r' hr'=>h r' (List.mem_cons_of_mem _ hr')
   have h3:=h r (List.mem_cons_self ..);rw[List.flatten_cons,List.length_append,List.length_cons];omega
 refine this _ fun r hr=>?_
 obtain⟨s,hs,_,e,_⟩:=L.of r hr;subst e;exact List.length_pos_of_mem (zcp PM hs)
inductive SpRingsR(vs:List V)(H:Hp)(Q:VK):Prop
 | mk (a:Addr) (bs:List Addr) (ts:List (List Int)) (n:Nat) (h_0:vs=[.ref a]) (h_1:TsA H a bs ts) (h_2:Turns n ts) (h_3:n<=1000) (h_4:∀p cs H',Same H H'->H p=none->H' p=some (.tup (cs.map V.ref))->RowsA H' cs (landsF (nxt ts) n)->Q (.ref p) H'):SpRingsR vs H Q
def spRings:Sp:=fun vs H Q _=>SpRingsR vs H Q
theorem scRs:FnScope ["turns","ahead","seen","lands","start","ring","end"] ["turns"] (defScope sRings):=⟨rfl,rfl,rfl,by decide +kernel,rfl,by decide +kernel,by decide +kernel⟩
theorem zov {f g h:Addr} {fd gd hd':FuncData} (F:Fun K "rings" "rings" sRings f fd) (G:FnOk P w K mg base CX0 1 g gd ["turns"] spAhead) (bG:Binds K gd ["turns"] []) (kG:PySem.W.keepIn K (.ref g)=true) (mG:mg "ends_ahead" = some (.ref g))
  (G2:FnOk P w K mg base CX0 2 h hd' ["start","ahead"] spRing) (bG2:Binds K hd' ["start","ahead"] []) (kG2:PySem.W.keepIn K (.ref h)=true) (mG2:mg "ring_from" = some (.ref h))
  (ml:mg "len" = none) (mr:mg "range" = none) (mt:mg "tuple" = none):FnOk P w K mg base CX0 3 f fd ["turns"] spRings:=by
 refine F.ok scRs (fun vs H Q E h=>?_) (fun cdv A outer s H vs Q E hr h=>?_)
 ·obtain⟨a,bs,ts,n,rfl,_⟩:=h;rfl
 obtain⟨a,bs,ts,n,rfl,hT,T,hn,q⟩:=h;have hu:=zkx hr;have PM:=T.perm;refine⟨_,za2 (za8 (i:=1) scRs.nd rfl (Or.inl rfl) (za9 G (hr.mono (by decide)) (by rfl) mG kG bG .nil pass0 (za0 (pv 0) za4)))
  (za2 (za8 (i:=2) scRs.nd rfl (Or.inl rfl) zjh)
  (za2 (za8 (i:=3) scRs.nd rfl (Or.inl rfl) (zar za4))
  (za2 (zbs PassesOwn.never rfl (zc7 (by rfl) mr (za0 (zab zfi (by rfl) ml zav (za0 (pv 1) za4)) za4)) (zae (i:=4) scRs.nd rfl (Or.inl rfl))
   (za6 (zas (zjf (zhh hu (pv 4) (pv 2)))
    (za2 (za8 (i:=5) scRs.nd rfl (Or.inl rfl) (za9 G2 hr (by rfl) mG2 kG2 bG2 .nil pass0 (za0 (pv 4) (za0 (pv 1) za4))))
    (za2 (zbs PassesOwn.never rfl (zlr (pv 5)) (zae (i:=6) scRs.nd rfl (Or.inl rfl)) (za6 (zgf hu (pv 2) (pv 6) zgl rfl)))
    (za6 (zam (zap K PySem.F.plainAttrs_list PySem.F.slot_list_append PySem.F.type_list_append zal (pv 3) (za0 (pv 5) za4)))))) zad)))
  (za6 (zag (zak zd1 (by rfl) mt zc0 (za0 (pv 3) za4))))))),?_⟩
 refine⟨_,rfl,a,bs,ts,n,rfl,hT,T,hn,fun d H1 s1 nd hd=>?_⟩;intro sn hsn;refine⟨by show 0<=sizeLine; decide,fun ld hld=>?_⟩;have s2:Same H1 (upd H1 sn (.dK [])):=za5 hsn _;have s3:Same (upd H1 sn (.dK [])) (upd (upd H1 sn (.dK [])) ld (.lst [])):=za5 hld _;have dsn:d≠sn:=ne_of_none hd hsn;have lsn:ld≠sn:=fun z=>by rw[z,za1] at hld; cases hld
 have dld:d≠ld:=ne_of_none (s2 _ _ hd) hld;have fsn:H sn=none:=s1.free hsn;have fld:H ld=none:=(s1.trans s2).free hld;have hlenA:(kvI (aheadL ts)).length=n:=by rw[List.length_map,T.alen]
 try dsimp only
 try refine zaq ?_
 first | refine zb8 fun UL1 hUL1=>?_ | refine ze6 fun UL1 hUL1=>?_
 refine⟨_,rfl,d,_,rfl,s3 _ _ (s2 _ _ hd),((kvI (aheadL ts)).length:Int),rfl,by omega,by omega,?_⟩;rw[show(((kvI (aheadL ts)).length:Int)).toNat=n by omega];refine zcs (n:=n) (fun i σ H2=>∃st rg en cs,σ=[some (.ref a),some (.ref d),some (.ref sn),some (.ref ld),st,rg,en]/\Same H H2/\H2 d=some (.dK (kvI (aheadL ts)))/\H2 sn=some (.dK (kvT (landsF (nxt ts) i).flatten)) /\
  H2 ld=some (.lst (cs.map V.ref))/\RowsA H2 cs (landsF (nxt ts) i)) ⟨none,none,none,[],rfl,s1.trans (s2.trans s3),s3 _ _ (s2 _ _ hd),?_,za1,⟨rfl,fun i b row e1 e2=>by simp at e1⟩⟩ ?_ ?_
 ·rw[upd_ne (Ne.symm lsn),za1];rfl
 ·rintro i σ H2 hi ⟨st,rg,en,cs,rfl,sm,hd2,hsn2,hld2,hR⟩;have hin:InR n (i:Int):=⟨by omega,by omega⟩;have L:=zc8 PM i (by omega);refine⟨_,rfl,_,rfl,sn,_,rfl,DGet.k (k:=Sum.inl ((0:Int)+(i:Nat))) hsn2,_,rfl,?_⟩;rw[zdi,show(0:Int)+(i:Nat)=(i:Int) by omega];by_cases hm:(i:Int)∈(landsF (nxt ts) i).flatten
  ·rw[if_pos hm];have e0:=zkt hm;refine iteF ⟨_,_,_,cs,rfl,sm,hd2,?_,hld2,?_⟩
   ·rw[hsn2,e0]
   ·rw[e0];exact hR
  ·rw[if_neg hm];refine iteT ?_;have e1:=zku hm;refine⟨_,rfl,_,rfl,(i:Int),d,ts,n,rfl,hd2,T,hn,hin,fun r H3 s4 nr hr3=>?_⟩;have sm3:=sm.trans s4;have rsn:r≠sn:=fun z=>by rw[z,hsn2] at nr; cases nr
   have ll:=zmk PM (i:=i+1) (by omega);rw[e1,List.flatten_append,List.length_append,List.length_append] at ll;simp only[List.flatten_cons,List.flatten_nil,List.append_nil,List.length_singleton] at ll
   try dsimp only
   try refine zaq ?_
   first | refine zb8 fun UL2 hUL2=>?_ | refine ze6 fun UL2 hUL2=>?_
   refine⟨_,rfl,r,rfl,⟨_,SqT.of hr3⟩,?_⟩;refine ze9 (xs:=(ring (nxt ts) i).map V.int) (fun k σ H4=>∃en,σ=[some (.ref a),some (.ref d),some (.ref sn),some (.ref ld),some (.int (i:Int)),some (.ref r),en]/\SameB sn H3 H4/\H4 sn=some (.dK (kvT ((landsF (nxt ts) i).flatten++(ring (nxt ts) i).take k))))
    ⟨en,rfl,SameB.refl _ _,by rw[List.take_zero,List.append_nil]; exact s4 _ _ hsn2⟩ (fun k σ H4 _ ⟨_,_,sb,_⟩=>SqT.of (sb _ _ rsn hr3)) ?_ ?_
   ·rintro k x σ H4 hx ⟨en4,rfl,sb,hs4⟩;obtain⟨e,rfl,he⟩:=zfe hx;have fr:e∉(landsF (nxt ts) i).flatten++(ring (nxt ts) i).take k:=by
     have nd2:=(zc8 PM (i+1) (by omega)).nd;rw[e1] at nd2;have hii:(landsF (nxt ts) i++[ring (nxt ts) i])[(landsF (nxt ts) i).length]?=some (ring (nxt ts) i):=by
      rw[List.getElem?_append_right (Nat.le_refl _),Nat.sub_self];rfl
     have:=zhw nd2 hii he
     rw[List.take_append_of_le_length (Nat.le_refl _),List.take_length] at this;exact this
    refine⟨_,rfl,_,rfl,sn,_,rfl,DPut.k (k:=Sum.inl e) hs4 ?_,?_⟩
    ·rw[List.length_map,List.length_append,List.length_take];exact szl (by omega)
    ·refine⟨_,rfl,sb.put _,?_⟩;rw[za1,zln fr,List.append_assoc,zau he]
   ·rintro σ H4 ⟨en4,rfl,sb,hs4⟩;subst hUL2;rw[List.length_map,List.take_length] at hs4;have hld4:H4 ld=some (.lst (cs.map V.ref)):=sb _ _ lsn (s4 _ _ hld2);refine⟨_,rfl,.inl ⟨rfl,_,SqL.of hld4⟩,_,rfl,ld,_,_,rfl,rfl,hld4,by rw[List.length_map,hR.1]; exact szl (by omega),?_⟩;have tups:∀c ys,H3 c=some (.tup ys)->(upd H4 ld (.lst (cs.map V.ref++[.ref r]))) c=some (.tup ys):=fun c ys e=>by
     have n1:c≠sn:=fun z=>by rw[z,s4 _ _ hsn2] at e; cases e
     have n2:c≠ld:=fun z=>by rw[z,s4 _ _ hld2] at e; cases e
     rw[upd_ne n2];exact sb _ _ n1 e
    refine⟨_,_,_,cs++[r],rfl,?_,?_,?_,?_,?_⟩
    ·exact(sb.same sm3 fsn).up fld _
    ·rw[upd_ne dld];exact sb _ _ dsn (s4 _ _ hd2)
    ·rw[upd_ne (Ne.symm lsn),hs4,e1,List.flatten_append];simp
    ·rw[za1,List.map_append];rfl
    ·rw[e1];exact(hR.keep fun c ys e=>s4 _ _ e).snoc tups (tups _ _ hr3)
 ·rintro σ H2 ⟨st,rg,en,cs,rfl,sm,hd2,hsn2,hld2,hR⟩;subst hUL1;refine⟨_,rfl,ld,_,rfl,.inl ⟨SqL.of hld2,fun p hp=>?_⟩⟩;exact q p cs _ (sm.trans (za5 hp _)) (sm.free hp) za1 (hR.keep fun c ys e=>za5 hp _ _ _ e)
end
abbrev Rope:Type:=Nat×Nat×Rat
def RopeR(H:Hp)(b:Addr)(r:Rope):Prop:=∃e,H b=some (.tup [.int (r.1:Int),.int (r.2.1:Int),.ref e])/\FrR H e r.2.2
theorem zf8:Mo RopeR:=fun s ⟨e,h1,h2⟩=>⟨e,s _ _ h1,s _ _ h2⟩
theorem t3_0(x y z:V):atI [x,y,z] 0=some x:=zaf (j:=0) rfl
theorem t3_1(x y z:V):atI [x,y,z] 1=some y:=zaf (j:=1) rfl
theorem t3_2(x y z:V):atI [x,y,z] 2=some z:=zaf (j:=2) rfl
theorem at0{x y:V}:atI [x,y] 0=some x:=zaf (j:=0) rfl
theorem at1{x y:V}:atI [x,y] 1=some y:=zaf (j:=1) rfl
structure EaseK(q:Rat):Prop where
 pos:0<q.num
 top:q.num<10 ^ 40
 bot:(q.den:Int)<10 ^ 40
section
variable {P:Program} {w:World} {K:PySem.W.Frag} {mg:Str->Option Value} {base:Heap} {f g h f1 f2 f3 f4:Addr} {fd gd hd d1 d2 d3 d4:FuncData}
inductive SpGcdR(vs:List V)(H:Hp)(Q:VK):Prop
 | mk (a b:Int) (h_0:vs=[.int a,.int b]) (h_1:Q (.int (Int.gcd a b:Int)) H):SpGcdR vs H Q
def spGcd:Sp:=fun vs H Q _=>SpGcdR vs H Q
theorem scIE:FnScope ["ease","beyond","number"] ["ease"] (defScope zcm):=⟨rfl,rfl,rfl,by decide +kernel,rfl,by decide +kernel,by decide +kernel⟩
theorem scCN:FnScope ["places","ropes"] ["places","ropes"] (defScope zay):=⟨rfl,rfl,rfl,by decide +kernel,rfl,by decide +kernel,by decide +kernel⟩
theorem sIxT2{n:Nat}(h:2<=n):HT.sIx n n (some 2)=2:=by simp[HT.sIx]; omega
theorem scCR:FnScope ["places","number","rope","place"] ["places","number","rope"] (defScope zbm):=⟨rfl,rfl,rfl,by decide +kernel,rfl,by decide +kernel,by decide +kernel⟩
end
def begL(t:List Int):List Int:=t.drop (t.idxOf (leastL t))++t.take (t.idxOf (leastL t))
theorem zmh{t:List Int}{m:Int}(hm:m∈t)(h:∀a∈t,m<=a):leastL t=m:=by
 obtain⟨h1,h2⟩:=zda (l:=t) (List.ne_nil_of_mem hm)
 have:=h _ h1
 have:=h2 _ hm
 omega
theorem zk5(xs:List V){j:Nat}(h:j<=xs.length):cutV xs none (some (j:Int))=xs.take j:=by
 unfold cutV;have e1:HT.sIx xs.length 0 none=0:=rfl;have e2:HT.sIx xs.length xs.length (some (j:Int))=j:=by simp[HT.sIx]; rw[if_neg (by omega)]; omega
 rw[e1,e2]; simp
theorem zpv(xs:List V){j:Nat}(h:j<=xs.length):cutV xs (some (j:Int)) none=xs.drop j:=by
 unfold cutV;have e1:HT.sIx xs.length 0 (some (j:Int))=j:=by simp[HT.sIx]; rw[if_neg (by omega)]; omega
 have e2:HT.sIx xs.length xs.length none=xs.length:=rfl;rw[e1,e2,List.take_of_length_le]; simp
theorem szle{n:Nat}(h:n<=100000):n<=sizeLine:=Nat.le_of_lt (szl h)
theorem sIx_nat{n j d:Nat}(h:j<=n):HT.sIx n d (some (j:Int))=j:=by simp[HT.sIx]; rw[if_neg (by omega)]; omega
section
variable {P:Program} {w:World} {K:PySem.W.Frag} {mg:Str->Option Value} {base:Heap} {f g h f1 f2 f3 f4:Addr} {fd gd hd d1 d2 d3 d4:FuncData}
inductive SpBegR(vs:List V)(H:Hp)(Q:VK):Prop
 | mk (a:Addr) (t:List Int) (h_0:vs=[.ref a]) (h_1:H a=some (.tup (t.map V.int))) (h_2:t≠[]) (h_3:t.length<=1000) (h_4:∀p H',Same H H'->H' p=some (.tup ((begL t).map V.int))->Q (.ref p) H'):SpBegR vs H Q
def spBeg:Sp:=fun vs H Q _=>SpBegR vs H Q
theorem scBe:FnScope ["turn","cut"] ["turn"] (defScope zbc):=⟨rfl,rfl,rfl,by decide +kernel,rfl,by decide +kernel,by decide +kernel⟩
theorem ok_beg(F:Fun K "begun_least" "begun_least" zbc f fd)(mn:mg "min" = none):FnOk P w K mg base CX0 1 f fd ["turn"] spBeg:=by
 refine F.ok scBe (fun vs H Q E h=>?_) (fun cdv A outer s H vs Q E hr h=>?_)
 ·obtain⟨a,t,rfl,_⟩:=h;rfl
 obtain⟨a,t,rfl,ha,ht,hl,q⟩:=h;refine⟨_,za2 (za8 (i:=1) scBe.nd rfl (Or.inl rfl) (pe_bmT PySem.F.plainAttrs_tuple PySem.F.slot_tuple_index PySem.F.type_tuple_index zmc (pv 0) (za0 (zab (znf rfl) (by rfl) mn zqs (za0 (pv 0) za4)) za4)))
  (za6 (zag (za7 zin (zbz (slTA (K:=K)) (pv 0) (zch (pv 1)) zci) (zbz (slTA (K:=K)) (pv 0) zci (zch (pv 1)))))),?_⟩
 have tl:0<t.length:=List.length_pos_iff.mpr ht;refine⟨_,rfl,⟨a,_,rfl,ha⟩,_,rfl,a,t,rfl,ha,tl,fun m mm mle=>?_⟩;refine⟨a,t,m,rfl,rfl,ha,mm,?_⟩;have em:=zmh mm mle;have hc:t.idxOf m<t.length:=List.idxOf_lt_length_iff.mpr mm;have eb:begL t=t.drop (t.idxOf m)++t.take (t.idxOf m):=by unfold begL; rw[em]
 generalize t.idxOf m=c at hc eb;refine⟨_,rfl,_,rfl,_,rfl,a,_,rfl,SqT.of ha,fun z=>?_,fun z p hp=>?_⟩
 ·
  have c0:c=0:=by rw[sIx_nat (by rw[List.length_map]; omega)] at z; exact z.1
  subst c0;refine⟨_,rfl,_,rfl,_,rfl,a,_,rfl,SqT.of ha,fun z2=>?_,fun z2 p2 hp2=>?_⟩
  ·have:=z2.2
   rw[sIx_nat (Nat.zero_le _),List.length_map] at this;omega
  ·refine⟨a,p2,_,[],rfl,rfl,SqT.of (za5 hp2 _ _ _ ha),?_,?_,?_,fun _=>?_,fun z3=>absurd rfl z3⟩
   ·rw[show cutV (t.map V.int) none (some ((0:Nat):Int))=[] by rw[zk5 _ (Nat.zero_le _)]; rfl]; exact SqT.of za1
   ·intro z4
    have:=congrArg List.length z4
    simp at this;exact ht this
   ·rw[List.length_map]; exact szle (by simp; omega)
   ·refine q a _ (za5 hp2 _) ?_;rw[eb];simpa using za5 hp2 _ _ _ ha
 ·have ec:cutV (t.map V.int) (some (c:Int)) none=(t.drop c).map V.int:=by rw[zpv _ (by rw[List.length_map]; omega),List.map_drop]
  rw[ec];have s1:=za5 hp (.tup ((t.drop c).map V.int));have g1:(upd H p (.tup ((t.drop c).map V.int))) p=some (.tup ((t.drop c).map V.int)):=za1;generalize upd H p (.tup ((t.drop c).map V.int))=H1 at s1 g1;have cn:c≠0:=fun e=>z (by subst e; rw[sIx_nat (Nat.zero_le _)]; exact⟨rfl,rfl⟩)
  refine⟨_,rfl,_,rfl,_,rfl,a,_,rfl,SqT.of (s1 _ _ ha),fun z2=>?_,fun z2 p2 hp2=>?_⟩
  ·have:=z2.2
   rw[sIx_nat (by rw[List.length_map]; omega),List.length_map] at this;omega
  ·have ec2:cutV (t.map V.int) none (some (c:Int))=(t.take c).map V.int:=by rw[zk5 _ (by rw[List.length_map]; omega),List.map_take]
   rw[ec2];have s2:=za5 hp2 (.tup ((t.take c).map V.int));have g2:(upd H1 p2 (.tup ((t.take c).map V.int))) p2=some (.tup ((t.take c).map V.int)):=za1;generalize upd H1 p2 (.tup ((t.take c).map V.int))=H2 at s2 g2;refine⟨p,p2,_,_,rfl,rfl,SqT.of (s2 _ _ g1),SqT.of g2,?_,?_,fun z3=>?_,fun _ p3 hp3=>?_⟩
   ·intro z4
    have:=congrArg List.length z4
    simp at this;omega
   ·simp; exact szle (by omega)
   ·have:=congrArg List.length z3
    rw[List.length_map,List.length_take] at this;have e0:([]:List V).length=0:=rfl;omega
   ·refine q p3 _ (s1.trans (s2.trans (za5 hp3 _))) ?_;rw[za1,eb,List.map_append]
end
def IntsT(H:Hp)(b:Addr)(ns:List Int):Prop:=H b=some (.tup (ns.map V.int))
theorem zbr:Mo IntsT:=fun s h=>s _ _ h
theorem IntsT.del{H:Hp}{a b:Addr}{t:List Int}{ys:List V}(h:IntsT H b t)(e:H a=some (.lst ys)):IntsT (del H a) b t:=zd6 h fun z=>by rw[z] at h; unfold IntsT at h; rw[e] at h; cases h
def addT(l:List Int)(e:Int):List Int:=if e∈l then l else l++[e]
theorem zge(l:List Int)(e:Int):putK (kvT l) (Sum.inl e:Key) (.bl true)=kvT (addT l e):=by
 unfold addT;by_cases h:e∈l
 ·rw[if_pos h];have a:valV (kvT l) (Sum.inl e:Key)=some (.bl true):=by rw[zdi,if_pos h]
  unfold putK;rw[zee,a,if_pos (show(some (V.bl true)).isSome=true from rfl)];unfold kvT;rw[List.map_map];refine List.map_congr_left fun x _=>?_
  show(if (Sum.inl x:Key)=Sum.inl e then ((Sum.inl x:Key),V.bl true) else (Sum.inl x,V.bl true))=_;split <;> rfl
 ·rw[if_neg h,zln h]
theorem mem_addT{l:List Int}{e x:Int}:x∈addT l e↔x∈l\/x=e:=by
 unfold addT;split
 ·rename_i h
  constructor
  ·exact .inl
  ·rintro(z | rfl)
   ·exact z
   ·exact h
 ·simp
theorem zs9{l:List Int}{e:Int}(h:l.Nodup):(addT l e).Nodup:=by
 unfold addT;split
 ·exact h
 ·rename_i z
  rw[List.nodup_append];exact⟨h,by simp,fun a ha b hb=>by rw[List.mem_singleton] at hb; subst hb; exact fun q=>z (q ▸ ha)⟩
theorem zeq(l:List Int)(e:Int):l.length<=(addT l e).length/\((addT l e).length=l.length->addT l e=l):=by
 unfold addT;split
 ·exact⟨Nat.le_refl _,fun _=>rfl⟩
 ·refine⟨by simp,fun h=>?_⟩;simp at h
structure LedK(n:Nat)(s:Int)(rs:List Rope)(l:List Int):Prop where
 nd:l.Nodup
 inn:∀x∈l,InR n x
 st:s∈l
 least:∀S:Int->Prop,S s->(∀r∈rs,(S r.1↔S r.2.1))->∀x∈l,S x
theorem LedK.len{n:Nat}{s:Int}{rs:List Rope}{l:List Int}(k:LedK n s rs l):l.length<=n:=zf9 n _ k.nd k.inn
theorem LedK.add{n:Nat}{s:Int}{rs:List Rope}{l:List Int}(k:LedK n s rs l){r:Rope}(hr:r∈rs)(h:(r.1:Int)∈l\/(r.2.1:Int)∈l){e:Int}(he:e=r.1\/e=r.2.1)(hi:InR n e):LedK n s rs (addT l e):=by
 refine⟨zs9 k.nd,fun x hx=>?_,mem_addT.mpr (.inl k.st),fun S h0 hc x hx=>?_⟩
 ·rcases mem_addT.mp hx with z | rfl
  ·exact k.inn x z
  ·exact hi
 ·rcases mem_addT.mp hx with z | rfl
  ·exact k.least S h0 hc x z
  ·have:=hc r hr
   rcases h with h | h <;> have h2:=k.least S h0 hc _ h <;> rcases he with rfl | rfl
   ·exact h2
   ·exact this.mp h2
   ·exact this.mpr h2
   ·exact h2
section
variable {P:Program} {w:World} {K:PySem.W.Frag} {mg:Str->Option Value} {base:Heap} {f g h f1 f2 f3 f4:Addr} {fd gd hd d1 d2 d3 d4:FuncData}
inductive SpToldR(vs:List V)(H:Hp)(Q:VK):Prop
 | mk (a:Addr) (ts:List (List Int)) (h_0:vs=[.ref a]) (h_1:TupR IntsT H a ts) (h_2:ts.length<=1000) (h_3:(∀t∈ts,t≠[]/\t.length<=1000)) (h_4:∀p H',Same H H'->TupR IntsT H' p (ts.map begL)->Q (.ref p) H'):SpToldR vs H Q
def spTold:Sp:=fun vs H Q _=>SpToldR vs H Q
theorem scTo:FnScope ["turns"] ["turns"] (defScope zbh):=⟨rfl,rfl,rfl,by decide +kernel,rfl,by decide +kernel,by decide +kernel⟩
theorem ndTurn:(["turn"]:List Str).Nodup:=by decide +kernel
theorem zrt(F:Fun K "told_turns" "told_turns" zbh f fd)(G:FnOk P w K mg base CX0 1 g gd ["turn"] spBeg)(bG:Binds K gd ["turn"] [])(kG:PySem.W.keepIn K (.ref g)=true)(mG:mg "begun_least" = some (.ref g))(mt:mg "tuple" = none):FnOk P w K mg base CX0 2 f fd ["turns"] spTold:=by
 refine F.ok scTo (fun vs H Q E h=>?_) (fun cdv A outer s H vs Q E hr h=>?_)
 ·obtain⟨a,ts,rfl,_⟩:=h;rfl
 obtain⟨a,ts,rfl,⟨bs,ha,hB⟩,hl,ht,q⟩:=h;refine⟨_,za6 (zag (zak (callTup (K:=K)) (by rfl) mt zc0 (za0 (zgj (Nc:=["turn"]) (cap:=[]) (g:=gName 0) (te:=tCall spBeg [] E0 (tCons (tVar 0) tNil)) rfl (piTup (K:=K) (pv 0))
   (zd0 rfl rfl (by decide +kernel) (by decide +kernel) (List.forall_mem_nil _) rfl (List.forall_mem_nil _)) (fun C fp pins s' H'=>zae (i:=0) ndTurn rfl (Or.inl rfl))
   (fun C fp pins s' H'=>za9 G hr (by rfl) mG kG bG .nil pass0 (za0 (pv 0) za4))) za4))),?_⟩
 have lb:bs.length=ts.length:=hB.1;refine⟨_,rfl,a,rfl,⟨_,SqT.of ha⟩,fun acc hacc=>?_⟩;refine zc1 (zgb ha) (by rw[List.length_map]; omega) hacc (fun i ys σ hp=>∃ds:List Addr,ys=ds.map V.ref/\At IntsT hp ds ((ts.map begL).take i)/\∃u,σ=[u]) ⟨[],rfl,At.nil,none,rfl⟩ ?_ ?_
 ·rintro i ys σ H3 x H4 hi sm hacc2 ⟨ds,rfl,hD,u,rfl⟩ ⟨rfl,hx⟩ Cc hC;obtain⟨c,t,rfl,_,hy,hc⟩:=hB.ref hx;obtain⟨t1,t2⟩:=ht t (List.mem_of_getElem? hy);refine⟨_,rfl,c,t,rfl,sm _ _ hc,t1,t2,fun p H5 s5 hp=>?_⟩;refine hC _ _ _ s5 ⟨ds++[p],by simp,?_,_,rfl⟩;have ec:(ts.map begL)[i]?=some (begL t):=by rw[List.getElem?_map,hy]; rfl
  rw[zau ec];exact(hD.keep zbr (zeu acc s5)).snoc (IntsT.del (t:=begL t) hp (s5 _ _ hacc2))
 ·rintro ys σ H4 s4 ha4 hl4 ⟨gs,rfl,hG,u,rfl⟩;rw[List.length_map,lb,List.take_of_length_le (by rw[List.length_map]; exact Nat.le_refl _)] at hG;refine⟨acc,_,rfl,.inl ⟨SqL.of ha4,fun p hp=>?_⟩⟩;have sp:=za5 hp (.tup (gs.map V.ref));exact q p _ (s4.trans sp) ⟨gs,za1,(hG.keep zbr (zeb H4 acc)).keep zbr sp⟩
theorem scFl:FnScope ["places","ropes","turns","lands"] ["places","ropes","turns"] (defScope zbn):=⟨rfl,rfl,rfl,by decide +kernel,rfl,by decide +kernel,by decide +kernel⟩
inductive SpLedR(vs:List V)(H:Hp)(Q:VK):Prop
 | mk (s:Int) (a:Addr) (n:Nat) (rs:List Rope) (h_0:vs=[.int s,.ref a]) (h_1:InR n s) (h_2:n<=100) (h_3:TupR RopeR H a rs) (h_4:(∀r∈rs,r.1<n/\r.2.1<n)) (h_5:∀d l H',Same H H'->H' d=some (.dK (kvT l))->LedK n s rs l->(∀r∈rs,((r.1:Int)∈l↔(r.2.1:Int)∈l))->Q (.ref d) H'):SpLedR vs H Q
def spLed:Sp:=fun vs H Q _=>SpLedR vs H Q
theorem scLd:FnScope ["start","ropes","met","before","rope"] ["start","ropes"] (defScope zde):=⟨rfl,rfl,rfl,by decide +kernel,rfl,by decide +kernel,by decide +kernel⟩
theorem ok_led(F:Fun K "led_to" "led_to" zde f fd)(ml:mg "len" = none):FnOk P w K mg base CX0 1 f fd ["start","ropes"] spLed:=by
 refine F.ok scLd (fun vs H Q E h=>?_) (fun cdv A outer s H vs Q E hr h=>?_)
 ·obtain⟨s,a,n,rs,rfl,_⟩:=h;rfl
 obtain⟨s0,a,n,rs,rfl,hs,hn,⟨bs,ha,hB⟩,hrs,q⟩:=h;have hu:=zkx hr;refine⟨_,za2 (za8 (i:=2) scLd.nd rfl (Or.inl rfl) (zro (zom (pv 0) zgl zrm) rfl rfl (by simp) (by decide)))
  (za2 (za8 (i:=3) scLd.nd rfl (Or.inl rfl) za3)
  (za2 (zds PassesOwn.never (zac zf1 (pv 3) (zab zfi (by rfl) ml zav (za0 (pv 2) za4)) (nomark _))
   (za2 (za8 (i:=3) scLd.nd rfl (Or.inl rfl) (zab zfi (by rfl) ml zav (za0 (pv 2) za4)))
   (za6 (zbs PassesOwn.never rfl (piTup (K:=K) (pv 1)) (zae (i:=4) scLd.nd rfl (Or.inl rfl))
    (za6 (zas (PW.pt (zkk (zjf (zqf hu (zai (ixT (K:=K)) (pv 4) za3 (fun _ _=>rfl)) (pv 2))) (zfp (zjf (zqf hu (zai (ixT (K:=K)) (pv 4) za3 (fun _ _=>rfl)) (pv 2))))))
     (za2 (zgf hu (pv 2) (zai (ixT (K:=K)) (pv 4) za3 (fun _ _=>rfl)) zgl rfl) (za6 (zgf hu (pv 2) (zai (ixT (K:=K)) (pv 4) za3 (fun _ _=>rfl)) zgl rfl))) zad))))))
  (za6 (zag (pv 2))))),?_⟩
 intro d hd;refine⟨_,rfl,za1,[(Sum.inl s0,.bl true)],rfl,by show 1<=15; decide,?_⟩;have s1:Same H (upd (upd H d (.dK [])) d (.dK (mergeK [] [(Sum.inl s0,.bl true)]))):=(za5 hd _).up hd _;have e1:(upd (upd H d (.dK [])) d (.dK (mergeK [] [((Sum.inl s0:Key),V.bl true)]))) d=some (.dK (kvT [s0])):=za1;generalize upd (upd H d (.dK [])) d (.dK (mergeK [] [((Sum.inl s0:Key),V.bl true)]))=H1 at s1 e1;refine zdm (fun σ H2=>∃(l:List Int) (b:Nat) (u:Option V),σ=[some (.int s0),some (.ref a),some (.ref d),some (.int (b:Int)),u]/\Same H H2/\H2 d=some (.dK (kvT l))/\LedK n s0 rs l/\b<=l.length/\(b=l.length->∀r∈rs,((r.1:Int)∈l↔(r.2.1:Int)∈l)))
  (fun σ _=>match σ with | [_,_,_,some (.int b),_]=>n+1-b.toNat | _=>0) ⟨[s0],0,none,rfl,s1,e1,⟨by simp,fun x hx=>by rw[List.mem_singleton] at hx; subst hx; exact hs,by simp,fun S h0 _ x hx=>by rw[List.mem_singleton] at hx; subst hx; exact h0⟩,Nat.zero_le _,fun z=>by simp at z⟩ ?_ ?_
 ·rintro σ H2 ⟨l,b,u,rfl,sm,hd2,k,hb,hcl⟩;refine⟨_,rfl,_,rfl,d,_,rfl,hd2,_,_,rfl,rfl,_,rfl,?_⟩;rw[List.length_map];by_cases hlt:b<l.length
  ·refine iteDT (by omega) ?_;refine⟨_,rfl,d,_,rfl,hd2,?_⟩;rw[List.length_map]
   try dsimp only
   try refine zaq ?_
   first | refine zb8 fun UL2 hUL2=>?_ | refine ze6 fun UL2 hUL2=>?_
   refine⟨_,rfl,a,rfl,⟨_,SqT.of (sm _ _ ha)⟩,?_⟩;refine ze9 (xs:=bs.map V.ref) (fun i σ H3=>∃(l':List Int) (u:Option V),σ=[some (.int s0),some (.ref a),some (.ref d),some (.int ((l.length:Nat):Int)),u]/\Same H H3/\H3 d=some (.dK (kvT l'))/\LedK n s0 rs l'/\l.length<=l'.length/\(l.length=l'.length->l'=l/\∀r∈rs.take i,((r.1:Int)∈l↔(r.2.1:Int)∈l)))
    ⟨l,u,rfl,sm,hd2,k,Nat.le_refl _,fun _=>⟨rfl,by simp⟩⟩ (fun i σ H3 _ ⟨_,_,_,s3,_⟩=>SqT.of (s3 _ _ ha)) ?_ ?_
   ·rintro i x σ H3 hx ⟨l',u',rfl,s3,hd3,k3,le3,cl3⟩;obtain⟨c,r,rfl,_,hy,e,hc,he⟩:=hB.ref hx;have hrm:r∈rs:=List.mem_of_getElem? hy;obtain⟨r1,r2⟩:=hrs r hrm;have hc3:=s3 _ _ hc;have in1:InR n (r.1:Int):=⟨by omega,by omega⟩;have in2:InR n (r.2.1:Int):=⟨by omega,by omega⟩;have go:∀(hin:(r.1:Int)∈l'\/(r.2.1:Int)∈l'),∃l2,LedK n s0 rs (addT l' r.1)/\(addT (addT l' r.1) r.2.1)=l2/\LedK n s0 rs l2/\l.length<=l2.length/\(l.length=l2.length->l2=l/\∀r∈rs.take (i+1),((r.1:Int)∈l↔(r.2.1:Int)∈l)):=by
     intro hin;have ka:=k3.add hrm hin (.inl rfl) in1;have kb:=ka.add hrm (.inl (mem_addT.mpr (.inr rfl))) (.inr rfl) in2;refine⟨_,ka,rfl,kb,?_,fun hl=>?_⟩
     ·have:=(zeq l' r.1).1
      have:=(zeq (addT l' r.1) r.2.1).1
      omega
     ·have a1:=zeq l' r.1;have a2:=zeq (addT l' r.1) r.2.1;have b1:=a1.2 (by omega);have b2:=a2.2 (by omega);obtain⟨rfl,c2⟩:=cl3 (by omega);refine⟨by rw[b2,b1],fun r' hr'=>?_⟩;rw[zau hy] at hr';rcases List.mem_append.mp hr' with z | z
      ·exact c2 r' z
      ·rw[List.mem_singleton] at z;subst z;have m1:(r'.1:Int)∈l':=by rw[<-b1]; exact mem_addT.mpr (.inr rfl)
       have m2:(r'.2.1:Int)∈l':=by rw[b1] at b2; rw[<-b2]; exact mem_addT.mpr (.inr rfl)
       exact⟨fun _=>m2,fun _=>m1⟩
    refine⟨_,rfl,c,_,_,_,rfl,rfl,SqT.of hc3,t3_0 _ _ _,_,rfl,d,_,rfl,DGet.k (k:=Sum.inl (r.1:Int)) hd3,_,rfl,?_⟩;have cd:c≠d:=fun z=>by rw[z,hd3] at hc3; cases hc3
    have sz3:(kvT l').length<sizeLine:=by rw[List.length_map]; have:=k3.len; exact szl (by omega)
    have fin:∀(hin:(r.1:Int)∈l'\/(r.2.1:Int)∈l') (o:HO),∃(l'':List Int) (u:Option V),[some (.int s0),some (.ref a),some (.ref d),some (.int ((l.length:Nat):Int)),some (V.ref c)]=[some (.int s0),some (.ref a),some (.ref d),some (.int ((l.length:Nat):Int)),u]/\Same H (upd (upd H3 d o) d (.dK (putK (kvT (addT l' r.1)) (Sum.inl (r.2.1:Int):Key) (.bl true))))/\(upd (upd H3 d o) d (.dK (putK (kvT (addT l' r.1)) (Sum.inl (r.2.1:Int):Key) (.bl true)))) d=some (.dK (kvT l''))/\LedK n s0 rs l''/\l.length<=l''.length/\(l.length=l''.length->l''=l/\∀r∈rs.take (i+1),((r.1:Int)∈l↔(r.2.1:Int)∈l)):=by
     intro hin o;obtain⟨l2,ka,e2,kb,c1,c2⟩:=go hin;refine⟨l2,_,rfl,(s3.up hd _).up hd _,?_,kb,c1,c2⟩;rw[za1,zge,e2]
    have puts:∀(hin:(r.1:Int)∈l'\/(r.2.1:Int)∈l'),LedK n s0 rs (addT l' r.1):=fun hin=>(go hin).elim fun _ z=>z.1
    rw[zdi];by_cases h1:(r.1:Int)∈l'
    ·rw[if_pos h1];refine iteT (iteT ?_);refine⟨_,rfl,_,rfl,c,_,_,_,rfl,rfl,SqT.of hc3,t3_0 _ _ _,d,_,rfl,DPut.k (k:=Sum.inl (r.1:Int)) hd3 sz3,?_⟩;rw[zge];refine⟨_,rfl,_,rfl,c,_,_,_,rfl,rfl,SqT.of (by rw[upd_ne cd]; exact hc3),t3_1 _ _ _,d,_,rfl,DPut.k (k:=Sum.inl (r.2.1:Int)) za1 (by rw[List.length_map]; have:=(puts (.inl h1)).len; exact szl (by omega)),?_⟩;exact fin (.inl h1) _
    ·rw[if_neg h1];refine iteF ?_;refine⟨_,rfl,c,_,_,_,rfl,rfl,SqT.of hc3,t3_1 _ _ _,_,rfl,d,_,rfl,DGet.k (k:=Sum.inl (r.2.1:Int)) hd3,_,rfl,?_⟩;rw[zdi];by_cases h2:(r.2.1:Int)∈l'
     ·rw[if_pos h2];refine iteT ?_;refine⟨_,rfl,_,rfl,c,_,_,_,rfl,rfl,SqT.of hc3,t3_0 _ _ _,d,_,rfl,DPut.k (k:=Sum.inl (r.1:Int)) hd3 sz3,?_⟩;rw[zge];refine⟨_,rfl,_,rfl,c,_,_,_,rfl,rfl,SqT.of (by rw[upd_ne cd]; exact hc3),t3_1 _ _ _,d,_,rfl,DPut.k (k:=Sum.inl (r.2.1:Int)) za1 (by rw[List.length_map]; have:=(puts (.inr h2)).len; exact szl (by omega)),?_⟩;exact fin (.inr h2) _
     ·rw[if_neg h2];refine iteF ?_;refine⟨l',_,rfl,s3,hd3,k3,le3,fun z=>?_⟩;obtain⟨rfl,c2⟩:=cl3 z;refine⟨rfl,fun r' hr'=>?_⟩;rw[zau hy] at hr';rcases List.mem_append.mp hr' with z | z
      ·exact c2 r' z
      ·rw[List.mem_singleton] at z;subst z;exact⟨fun z=>absurd z h1,fun z=>absurd z h2⟩
   ·rintro σ H3 ⟨l',u',rfl,s3,hd3,k3,le3,cl3⟩;subst hUL2;rw[List.length_map,hB.1,List.take_length] at cl3;refine⟨⟨l',l.length,_,rfl,s3,hd3,k3,le3,fun z=>?_⟩,?_⟩
    ·obtain⟨rfl,c2⟩:=cl3 z;exact c2
    ·have:=k.len
     show n+1-((l.length:Nat):Int).toNat<n+1-((b:Nat):Int).toNat;omega
  ·refine iteDF (by omega) ?_;exact⟨_,rfl,q d l H2 sm hd2 k (hcl (by omega))⟩
 ·rintro σ H2 Q1 Q2 hq ⟨v,e,v',e',d',kv,z1,z2,y,y2,z3,z4,b,z5,z⟩;exact⟨v,e,v',e',d',kv,z1,z2,y,y2,z3,z4,b,z5,hq _ _ z⟩
theorem scHa:FnScope ["places","ropes","met","place"] ["places","ropes"] (defScope zaz):=⟨rfl,rfl,rfl,by decide +kernel,rfl,by decide +kernel,by decide +kernel⟩
end
theorem nd_at{l:List Addr}(h:l.Nodup){i j:Nat}{b:Addr}(h1:l[i]?=some b)(h2:l[j]?=some b):i=j:=by
 obtain⟨i1,e1⟩:=List.getElem?_eq_some_iff.mp h1;obtain⟨j1,e2⟩:=List.getElem?_eq_some_iff.mp h2;have hp:=List.pairwise_iff_getElem.mp h;rcases Nat.lt_trichotomy i j with z | z | z
 ·exact absurd (e1.trans e2.symm) (hp i j i1 j1 z)
 ·exact z
 ·exact absurd (e2.trans e1.symm) (hp j i j1 i1 z)
structure TurnsM(H:Hp)(T:Addr)(bs:List Addr)(ts:List (List Int)):Prop where
 h1:H T=some (.lst (bs.map V.ref))
 rows:At IntsL H bs ts
 nd:(T :: bs).Nodup
theorem TurnsM.keep{H H':Hp}{T:Addr}{bs:List Addr}{ts:List (List Int)}(M:TurnsM H T bs ts)(s:Same H H'):TurnsM H' T bs ts:=⟨s _ _ M.h1,M.rows.keep ziq s,M.nd⟩
theorem TurnsM.put{H:Hp}{T b:Addr}{bs:List Addr}{ts:List (List Int)}{i:Nat}{t:List Int}(M:TurnsM H T bs ts)(hb:bs[i]?=some b):TurnsM (upd H b (.lst (t.map V.int))) T bs (ts.set i t):=by
 have bm:b∈bs:=List.mem_of_getElem? hb;obtain⟨n1,n2⟩:=List.nodup_cons.mp M.nd;have e1:T≠b:=fun z=>n1 (by rw[z]; exact bm)
 refine⟨by rw[upd_ne e1]; exact M.h1,⟨by rw[List.length_set]; exact M.rows.1,fun k c x q1 q2=>?_⟩,M.nd⟩;by_cases hk:i=k
 ·subst hk;rw[hb] at q1;cases q1;have hl:i<ts.length:=by rw[<-M.rows.1]; exact(List.getElem?_eq_some_iff.mp hb).1
  rw[List.getElem?_set_self hl] at q2;cases q2;exact za1
 ·rw[List.getElem?_set_ne hk] at q2;have ne:c≠b:=fun z=>hk (nd_at n2 hb (by rw[q1,z]))
  show upd H b _ c=_;rw[upd_ne ne];exact M.rows.2 k c x q1 q2
def endsL(hs:List Nat)(i:Nat):List Int:=((List.range hs.length).filter fun e=>decide (hs[e]?=some i)).map (fun e:Nat=>(e:Int))
theorem zg1(hs:List Nat)(p i:Nat):endsL (hs++[p]) i=if p=i then endsL hs i++[(hs.length:Int)] else endsL hs i:=by
 unfold endsL;rw[List.length_append,List.length_singleton,List.range_succ,List.filter_append,List.map_append];have e1:(List.range hs.length).filter (fun e=>decide ((hs++[p])[e]?=some i))=(List.range hs.length).filter fun e=>decide (hs[e]?=some i) :=
  List.filter_congr fun x hx=>by rw[List.getElem?_append_left (List.mem_range.mp hx)]
 have e2:(hs++[p])[hs.length]?=some p:=by simp
 rw[e1];by_cases h:p=i
 ·rw[if_pos h,List.filter_cons_of_pos (by rw[e2,h]; simp)]; rfl
 ·rw[if_neg h,List.filter_cons_of_neg (by rw[e2]; simpa using h)]; simp
theorem mem_endsL{hs:List Nat}{i:Nat}{x:Int}:x∈endsL hs i↔0<=x/\hs[x.toNat]?=some i:=by
 unfold endsL;rw[List.mem_map];constructor
 ·rintro⟨e,he,rfl⟩;rw[List.mem_filter] at he;exact⟨by omega,by simpa using he.2⟩
 ·rintro⟨h0,h1⟩;refine⟨x.toNat,List.mem_filter.mpr ⟨List.mem_range.mpr (List.getElem?_eq_some_iff.mp h1).1,by simpa using h1⟩,by omega⟩
theorem zgz(hs:List Nat)(i:Nat):(endsL hs i).Pairwise (· < ·):=by
 unfold endsL;rw[List.pairwise_map];refine List.Pairwise.imp (fun h=>by omega) (List.Pairwise.filter _ (List.pairwise_lt_range))
theorem zn1(hs:List Nat)(i:Nat):(endsL hs i).length<=hs.length:=by
 unfold endsL;rw[List.length_map];exact Nat.le_trans (List.length_filter_le _ _) (by simp)
theorem zmz(hs:List Nat){p n:Nat}(hp:p<n):(List.range n).map (endsL (hs++[p]))=((List.range n).map (endsL hs)).set p (endsL hs p++[(hs.length:Int)]):=by
 refine List.ext_getElem? fun k=>?_
 by_cases hk:p=k
 ·subst hk;rw[List.getElem?_set_self (by simpa using hp),List.getElem?_map,List.getElem?_range hp];show some _=_;rw[zg1,if_pos rfl]
 ·rw[List.getElem?_set_ne hk,List.getElem?_map,List.getElem?_map];rcases Nat.lt_or_ge k n with h | h
  ·rw[List.getElem?_range h];show some _=some _;rw[zg1,if_neg hk]
  ·rw[List.getElem?_eq_none (by simpa using h)];rfl
theorem zh7:∀{l m:List Int},l.Pairwise (·<=·)->m.Pairwise (· < ·)->l.Perm m->l=m
 | [],m,_,_,p=>(List.nil_perm.mp p).symm
 | a :: l,[],_,_,p=>by have:=p.length_eq; simp at this
 | a :: l,b :: m,h1,h2,p=>by
  obtain⟨a1,a2⟩:=List.pairwise_cons.mp h1;obtain⟨b1,b2⟩:=List.pairwise_cons.mp h2;have e:a=b:=by
   rcases List.mem_cons.mp (p.mem_iff.mp (List.mem_cons_self ..):a∈b :: m) with z | z
   ·exact z
   ·have hb:=b1 a z;rcases List.mem_cons.mp (p.mem_iff.mpr (List.mem_cons_self ..):b∈a :: l) with y | y
    ·exact y.symm
    ·have:=a1 b y; omega
  subst e;rw[zh7 a2 b2 ((List.perm_cons a).mp p)]
def hm0(rs:List Rope):List Nat:=rs.flatMap fun r=>[r.1,r.2.1]
def hm(rs:List Rope):List Nat:=hm0 rs++[0,1]
theorem zdb:∀rs:List Rope,(hm0 rs).length=2*rs.length
 | []=>rfl
 | r :: rs=>by show(r.1 :: r.2.1 :: hm0 rs).length=_; simp[zdb rs]; omega
theorem zql(rs:List Rope):(hm rs).length=2*rs.length+2:=by unfold hm; rw[List.length_append,zdb]; rfl
theorem zpf(rs:List Rope)(r:Rope):hm0 (rs++[r])=hm0 rs++[r.1]++[r.2.1]:=by unfold hm0; simp
structure NetW(n:Nat)(rs:List Rope)(ts:List (List Int)):Prop where
 m1:1<=rs.length
 m14:rs.length<=14
 n2:2<=n
 n15:n<=15
 len:ts.length=n
 tn:Turns (2*rs.length+2) ts
 ne:∀t∈ts,t≠[]
 ease:∀r∈rs,EaseK r.2.2/\r.1<n/\r.2.1<n
 home:∀(p:Nat) (t:List Int),ts[p]?=some t->∀x:Int,x∈t->(hm rs)[x.toNat]?=some p
 hang:∀S:Nat->Prop,S 0->(∀r∈rs,(S r.1↔S r.2.1))->∀p,p<n->S p
 flat:(n:Int)-rs.length-1+(landsF (nxt ts) (2*rs.length+2)).length=2
theorem zes{ts:List (List Int)}{t:List Int}(h:t∈ts):t.length<=ts.flatten.length:=by
 obtain⟨A,B,rfl⟩:=List.append_of_mem h;simp; omega
theorem NetW.tlen{n:Nat}{rs:List Rope}{ts:List (List Int)}(k:NetW n rs ts){t:List Int}(h:t∈ts):t.length<=30:=by
 have:=zes h
 rw[k.tn.len] at this
 have:=k.m14
 omega
theorem zqh{ts:List (List Int)}{t:List Int}(nd:ts.flatten.Nodup)(h:t∈ts):t.Nodup:=by
 obtain⟨A,B,rfl⟩:=List.append_of_mem h;rw[List.flatten_append,List.flatten_cons,List.nodup_append,List.nodup_append] at nd;exact nd.2.1.1
theorem NetW.perm{n:Nat}{rs:List Rope}{ts:List (List Int)}(k:NetW n rs ts){p:Nat}{t:List Int}(h:ts[p]?=some t):t.Perm (endsL (hm rs) p):=by
 have tm:=List.mem_of_getElem? h;refine(List.perm_ext_iff_of_nodup (zqh k.tn.nd tm) ((zgz _ _).imp fun h=>by omega)).mpr fun x=>?_
 rw[mem_endsL];constructor
 ·intro hx;exact⟨((k.tn.mem x).mp (List.mem_flatten.mpr ⟨t,tm,hx⟩)).1,k.home p t h x hx⟩
 ·rintro⟨h0,h1⟩;have hl:=(List.getElem?_eq_some_iff.mp h1).1;rw[zql] at hl;obtain⟨t',ht',hx⟩:=List.mem_flatten.mp ((k.tn.mem x).mpr ⟨h0,by omega⟩);obtain⟨j,hj,e⟩:=List.getElem_of_mem ht';have hj2:ts[j]?=some t':=by rw[List.getElem?_eq_getElem hj,e]
  have:=k.home j t' hj2 x hx
  rw[h1] at this;obtain rfl:p=j:=Option.some.inj this;rw[h] at hj2;cases hj2;exact hx
section
variable {P:Program} {w:World} {K:PySem.W.Frag} {mg:Str->Option Value} {base:Heap} {f g h f1 f2 f3 f4 f5 f6:Addr} {fd gd hd d1 d2 d3 d4 d5 d6:FuncData}
inductive SpEndsR(vs:List V)(H:Hp)(Q:VK):Prop
 | mk (n:Nat) (a:Addr) (rs:List Rope) (h_0:vs=[.int (n:Int),.ref a]) (h_1:2<=n) (h_2:n<=100) (h_3:rs.length<=100) (h_4:TupR RopeR H a rs) (h_5:(∀r∈rs,r.1<n/\r.2.1<n)) (h_6:∀p bs H',Same H H'->TurnsM H' p bs ((List.range n).map (endsL (hm rs)))->Q (.ref p) H'):SpEndsR vs H Q
def spEnds:Sp:=fun vs H Q _=>SpEndsR vs H Q
theorem scEn:FnScope ["places","ropes","ends","k","rope","outer"] ["places","ropes"] (defScope zcn):=⟨rfl,rfl,rfl,by decide +kernel,rfl,by decide +kernel,by decide +kernel⟩
theorem ndPl:(["place"]:List Str).Nodup:=by decide +kernel
theorem zs5(F:Fun K "ends_at" "ends_at" zcn f fd)(ml:mg "len" = none)(mr:mg "range" = none)(me:mg "enumerate" = none):FnOk P w K mg base CX0 1 f fd ["places","ropes"] spEnds:=by
 refine F.ok scEn (fun vs H Q E h=>?_) (fun cdv A outer s H vs Q E hr h=>?_)
 ·obtain⟨n,a,rs,rfl,_⟩:=h;rfl
 obtain⟨n,a,rs,rfl,n2,n100,hm100,⟨bs,ha,hB⟩,hrs,q⟩:=h;refine⟨_,za2 (zfq (i:=2) scEn.nd rfl (Or.inl rfl) (Nc:=["place"]) (cap:=[]) (g:=gName 0) (te:=tLst tNil) rfl (zc7 (by rfl) mr (za0 (pv 0) za4))
   (zd0 rfl rfl (by decide +kernel) (by decide +kernel) (List.forall_mem_nil _) rfl (List.forall_mem_nil _)) (fun C fp pins s' H'=>zae (i:=0) ndPl rfl (Or.inl rfl)) (fun C fp pins s' H'=>zar za4))
  (za2 (zbs PassesOwn.never rfl (zih (by rfl) me (za0 (pv 1) za4)) (pgTup (n:=2) (K:=K) rfl (zaw (zae (i:=3) scEn.nd rfl (Or.inl rfl)) (zaw (zae (i:=4) scEn.nd rfl (Or.inl rfl)) zdj)))
   (za2 (zam (zap K PySem.F.plainAttrs_list PySem.F.slot_list_append PySem.F.type_list_append zal (zai (ixL (K:=K)) (pv 2) (zai (ixT (K:=K)) (pv 4) za3 (fun _ _=>rfl)) (fun _ _=>rfl)) (za0 (za7 zcq za3 (pv 3)) za4)))
    (za6 (zam (zap K PySem.F.plainAttrs_list PySem.F.slot_list_append PySem.F.type_list_append zal (zai (ixL (K:=K)) (pv 2) (zai (ixT (K:=K)) (pv 4) za3 (fun _ _=>rfl)) (fun _ _=>rfl)) (za0 (za7 zb1 (za7 zcq za3 (pv 3)) za3) za4))))))
  (za2 (za8 (i:=5) scEn.nd rfl (Or.inl rfl) (zab (callLen (K:=K)) (by rfl) ml zav (za0 (pv 1) za4)))
  (za2 (zam (zap K PySem.F.plainAttrs_list PySem.F.slot_list_append PySem.F.type_list_append zal (zai (ixL (K:=K)) (pv 2) za3 (fun _ _=>rfl)) (za0 (za7 zcq za3 (pv 5)) za4)))
  (za2 (zam (zap K PySem.F.plainAttrs_list PySem.F.slot_list_append PySem.F.type_list_append zal (zai (ixL (K:=K)) (pv 2) za3 (fun _ _=>rfl)) (za0 (za7 zb1 (za7 zcq za3 (pv 5)) za3) za4)))
  (za6 (zag (pv 2))))))),?_⟩
 refine⟨_,rfl,(n:Int),rfl,by omega,by omega,fun acc hacc=>?_⟩;rw[show((n:Nat):Int).toNat=n by omega];refine zc1 zli (by omega) hacc (fun i ys σ hp=>∃ds:List Addr,ys=ds.map V.ref/\At IntsL hp ds (List.replicate i [])/\ds.Nodup/\(∀d∈ds,H d=none)/\∃u,σ=[u]) ⟨[],rfl,At.nil,by simp,by simp,none,rfl⟩ ?_ ?_
 ·rintro i ys σ H2 x H3 hi sm hacc2 ⟨ds,rfl,hD,nd,fr,u,rfl⟩ ⟨rfl,rfl⟩ Cc hC;refine⟨by show 0<=sizeLine; decide,fun l hl=>?_⟩;have s1:=za5 hl (.lst []);have lacc:l≠acc:=fun z=>by rw[z,hacc2] at hl; cases hl
  refine hC _ _ _ s1 ⟨ds++[l],by simp,?_,?_,?_,_,rfl⟩
  ·rw[List.replicate_succ'];exact(hD.keep ziq (zeu acc s1)).snoc (show IntsL _ l [] from by unfold IntsL; rw[zdh lacc]; exact za1)
  ·rw[List.nodup_append];refine⟨nd,by simp,fun x hx y hy z=>?_⟩;rw[List.mem_singleton] at hy;subst hy;subst z;obtain⟨k,hk,ek⟩:=List.getElem_of_mem hx;have hl2:k<(List.replicate i ([]:List Int)).length:=by rw[<-hD.1]; exact hk
   have h1:=hD.2 k x _ (by rw[List.getElem?_eq_getElem hk,ek]) (List.getElem?_eq_getElem hl2);rw[zeb _ _ _ _ h1] at hl; cases hl
  ·intro d hd';rcases List.mem_append.mp hd' with h' | h'
   ·exact fr d h'
   ·rw[List.mem_singleton] at h'; rw[h']; exact sm.free hl
 rintro ys σ1 H2 s2 hacc2 hl2 ⟨ds,rfl,hD,nd,fr,u,rfl⟩;have e0:(List.range n).map (endsL (hm0 []))=List.replicate n []:=by
  refine List.ext_getElem (by simp) fun i h1 h2=>?_
  simp[endsL,hm0]
 have M0:TurnsM H2 acc ds ((List.range n).map (endsL (hm0 []))):=by
  rw[e0];refine⟨hacc2,hD.keep ziq (zeb H2 acc),List.nodup_cons.mpr ⟨fun z=>?_,nd⟩⟩;obtain⟨k,hk,ek⟩:=List.getElem_of_mem z;have hl2:k<(List.replicate n ([]:List Int)).length:=by rw[<-hD.1]; exact hk
  have h1:=hD.2 k acc _ (by rw[List.getElem?_eq_getElem hk,ek]) (List.getElem?_eq_getElem hl2);unfold IntsL at h1;rw[zcg] at h1; cases h1
 have far:∀{H3:Hp} {b:Addr} {o:HO},Same H H3->b∈ds->Same H (upd H3 b o):=fun s hb=>s.up (fr _ hb) _
 have mul2:∀x:Int,CMul 2 x:=fun x=>.inl ⟨by decide,by decide⟩
 have one:∀{H3:Hp} {hs:List Nat} {p:Nat} (z:Int),z=hs.length->p<n->hs.length<=1000->TurnsM H3 acc ds ((List.range n).map (endsL hs))->∃b,atI (ds.map V.ref) (p:Int)=some (.ref b)/\b∈ds/\H3 b=some (.lst ((endsL hs p).map V.int))/\((endsL hs p).map V.int).length<sizeLine /\
   TurnsM (upd H3 b (.lst ((endsL hs p).map V.int++[.int z]))) acc ds ((List.range n).map (endsL (hs++[p]))):=by
  intro H3 hs p z ez hp hl M;subst ez;obtain⟨b,hb,hB⟩:=M.rows.get (show((List.range n).map (endsL hs))[p]?=some (endsL hs p) by rw[List.getElem?_map,List.getElem?_range hp]; rfl);refine⟨b,zaf (zd4 hb),List.mem_of_getElem? hb,hB,?_,?_⟩
  ·rw[List.length_map]; have:=zn1 hs p; exact szl (by omega)
  ·rw[zmz hs hp]
   have:=M.put (t:=endsL hs p++[(hs.length:Int)]) hb
   rw[List.map_append] at this;exact this
 try dsimp only
 try refine zaq ?_
 first | refine zb8 fun UL1 hUL1=>?_ | refine ze6 fun UL1 hUL1=>?_
 refine⟨_,rfl,a,_,rfl,s2 _ _ ha,?_⟩;refine zgx (xs:=bs.map V.ref) (fun i σ H3=>∃u v,σ=[some (.int n),some (.ref a),some (.ref acc),u,v,none]/\Same H H3/\TurnsM H3 acc ds ((List.range n).map (endsL (hm0 (rs.take i))))) ⟨none,none,rfl,s2,M0⟩ (fun i σ H3 _ ⟨_,_,_,s3,_⟩=>s3 _ _ ha) ?_ ?_
 ·rintro i x σ H3 p hx ⟨u1,u2,rfl,s3,M⟩ hp;obtain⟨c,r,rfl,_,hy,e,hc,he⟩:=hB.ref hx;obtain⟨r1,r2⟩:=hrs r (List.mem_of_getElem? hy);have sp:=za5 hp (.tup [.int i,.ref c]);have s4:=s3.trans sp;have hi:i<rs.length:=(List.getElem?_eq_some_iff.mp hy).1;have le:(hm0 (rs.take i)).length=2*i:=by rw[zdb,List.length_take]; omega
  obtain⟨b1,g1,g2,g3,g4,M1⟩:=one (2*(i:Int)) (by rw[le]; push_cast; rfl) r1 (by omega) (M.keep sp);obtain⟨b2,k1,k2,k3,k4,M2⟩:=one (2*(i:Int)+1) (by rw[List.length_append,le]; simp) r2 (by rw[List.length_append,le]; simp; omega) M1;refine⟨p,_,rfl,SqT.of za1,rfl,_,_,rfl,_,_,rfl,rfl,?_⟩;refine⟨_,rfl,_,rfl,c,_,_,_,rfl,rfl,SqT.of (s4 _ _ hc),t3_0 _ _ _,acc,_,_,_,rfl,rfl,SqL.of (M.keep sp).h1,g1,.inl ⟨rfl,_,SqL.of g3⟩,_,rfl,_,_,rfl,rfl,mul2 _,b1,_,_,rfl,rfl,g3,g4,?_⟩;refine⟨_,rfl,_,rfl,c,_,_,_,rfl,rfl,SqT.of (far s4 g2 _ _ hc),t3_1 _ _ _,acc,_,_,_,rfl,rfl,SqL.of M1.h1,k1,.inl ⟨rfl,_,SqL.of k3⟩,_,rfl,_,_,rfl,rfl,mul2 _,_,_,rfl,rfl,b2,_,_,rfl,rfl,k3,k4,?_⟩;refine⟨_,_,rfl,far (far s4 g2) k2,?_⟩;rw[zau hy,zpf];exact M2
 ·rintro σ H3 ⟨u1,u2,rfl,s3,M⟩;subst hUL1;rw[List.length_map,hB.1,List.take_length] at M;have le:(hm0 rs).length=2*rs.length:=zdb rs;obtain⟨b1,g1,g2,g3,g4,M1⟩:=one (p:=0) (2*((bs.map V.ref).length:Int)) (by rw[le,List.length_map,hB.1]; push_cast; rfl) (by omega) (by omega) M;obtain⟨b2,k1,k2,k3,k4,M2⟩:=one (p:=1) (2*((bs.map V.ref).length:Int)+1) (by rw[List.length_append,le,List.length_map,hB.1]; simp) (by omega) (by rw[List.length_append,le]; simp; omega) M1;refine⟨_,rfl,a,_,rfl,.inr (SqT.of (s3 _ _ ha)),?_⟩;refine⟨_,rfl,acc,_,_,_,rfl,rfl,SqL.of M.h1,g1,.inl ⟨rfl,_,SqL.of g3⟩,_,rfl,_,_,rfl,rfl,mul2 _,b1,_,_,rfl,rfl,g3,g4,?_⟩;refine⟨_,rfl,acc,_,_,_,rfl,rfl,SqL.of M1.h1,k1,.inl ⟨rfl,_,SqL.of k3⟩,_,rfl,_,_,rfl,rfl,mul2 _,_,_,rfl,rfl,b2,_,_,rfl,rfl,k3,k4,?_⟩;refine⟨_,rfl,q acc ds _ (far (far s3 g2) k2) ?_⟩
  have:hm rs=hm0 rs++[0]++[1]:=by unfold hm; simp
  rw[this];exact M2
theorem znj:bootBuiltins "sorted" = some (.builtin "sorted"):=by decide +kernel
theorem zdu{H H':Hp}{a:Addr}{ts:List (List Int)}(s:Same H H')(h:TupR IntsT H a ts):TupR IntsT H' a ts:=zhn (R:=IntsT) (fun s h=>zbr s h) s h
theorem scTu:FnScope ["places","ropes","turns","place","ends","turn"] ["places","ropes","turns"] (defScope zbb):=⟨rfl,rfl,rfl,by decide +kernel,rfl,by decide +kernel,by decide +kernel⟩
theorem scCk:FnScope ["places","ropes","turns","k","rope"] ["places","ropes","turns"] (defScope zco):=⟨rfl,rfl,rfl,by decide +kernel,rfl,by decide +kernel,by decide +kernel⟩
end
theorem zqu{i:Int}{n:Nat}(h:i.natAbs<2 ^ n)(hn:n<=8000):Big i:=Nat.lt_of_lt_of_le h (Nat.pow_le_pow_right (by decide) hn)
abbrev Gives(H:Hp)(Q:VK)(t b:Int):Prop:=∀p,H p=none->Q (.ref p) (upd H p (.tup [.int (frac t b).1,.int (frac t b).2]))
section
variable {P:Program} {w:World} {K:PySem.W.Frag} {mg:Str->Option Value} {base:Heap} {f g h:Addr} {fd gd hd:FuncData}
theorem znn{x:Int}{n:Nat}(h:Int.gcd x 0=n):(if x<0 then -x else x)=(n:Int):=by
 rw[<-h,Int.gcd_zero_right];split <;> omega
theorem scCP:FnScope ["one","other","rest"] ["one","other"] (defScope sCommon):=⟨rfl,rfl,rfl,by decide +kernel,rfl,by decide +kernel,by decide +kernel⟩
theorem zm2{f:Addr}{fd:FuncData}(F:Fun K "common_part" "common_part" sCommon f fd)(ma:mg "abs" = none):FnOk P w K mg base CX0 1 f fd ["one","other"] spGcd:=by
 refine F.ok scCP (fun vs H Q E h=>?_) (fun cdv A outer s H vs Q E hr h=>?_)
 ·obtain⟨a,b,rfl,_⟩:=h;rfl
 obtain⟨a,b,rfl,q⟩:=h;refine⟨_,za2 (zds PassesOwn.never (zac zhk (pv 1) za3 (nomark _))
   (za2 (za8 (i:=2) scCP.nd rfl (Or.inl rfl) (za7 zrq (pv 0) (pv 1)))
   (za2 (za8 (i:=0) scCP.nd rfl (Or.inl rfl) (pv 1))
   (za6 (za8 (i:=1) scCP.nd rfl (Or.inl rfl) (pv 2))))))
  (za6 (zag (zab zh1 (by rfl) ma PyProof.Rows.boot_abs (za0 (pv 0) za4)))),?_⟩
 refine zdm (fun σ H2=>∃x y r,σ=[some (.int x),some (.int y),r]/\H2=H/\Int.gcd x y=Int.gcd a b) (fun σ _=>match σ with | [_,some (.int y),_]=>y.natAbs | _=>0) ⟨a,b,none,rfl,rfl,rfl⟩ ?_ ?_
 ·rintro σ H2 ⟨x,y,r,rfl,rfl,g⟩;refine⟨_,rfl,rfl,_,rfl,?_⟩;by_cases hy:y=0
  ·refine iteNS (iv hy) ?_;subst hy;refine⟨_,rfl,x,rfl,?_⟩;rw[znn g];exact q
  ·refine iteNN (ivn hy) ?_;exact⟨_,rfl,_,rfl,_,_,rfl,rfl,hy,_,rfl,_,rfl,⟨y,x.fmod y,some (.int (x.fmod y)),rfl,rfl,(zjz x y).trans g⟩,zsj x y hy⟩
 ·rintro σ H2 Q1 Q2 hq ⟨v,e,sc,b,eb,z⟩;exact⟨v,e,sc,b,eb,hq _ _ z⟩
abbrev ScA(K:PySem.W.Frag)(H:Hp)(a:Addr)(ns:List Int):Prop:=SqL K H a (ns.map V.int)/\ns.length<=63
inductive SpCellR(K:PySem.W.Frag)(vs:List V)(H:Hp)(Q:VK):Prop
 | mk (a:Addr) (ns:List Int) (k:Int) (h_0:vs=[.ref a,.int k]) (h_1:ScA K H a ns) (h_2:0<=k) (h_3:∀z,Q (.int z) H):SpCellR K vs H Q
def spCell(K:PySem.W.Frag):Sp:=fun vs H Q _=>SpCellR K vs H Q
theorem scCe:FnScope ["_law_script","_law_k"] ["_law_script","_law_k"] (defScope zba):=⟨rfl,rfl,rfl,by decide +kernel,rfl,by decide +kernel,by decide +kernel⟩
theorem zs6(F:Fun K "_law_cell_at" "_law_cell_at" zba f fd)(ml:mg "len" = none):FnOk P w K mg base CX0 1 f fd ["_law_script","_law_k"] (spCell K):=by
 refine F.ok scCe (fun vs H Q E h=>?_) (fun cdv A outer s H vs Q E hr h=>?_)
 ·obtain⟨a,ns,k,rfl,_⟩:=h;rfl
 obtain⟨a,ns,k,rfl,⟨hS,hl⟩,h0,q⟩:=h;refine⟨_,za2 (zas (zac zf1 (pv 1) (zab (callLen (K:=K)) (by rfl) ml zav (za0 (pv 0) za4)) (nomark _)) (za6 (zag (zai (ixL (K:=K)) (pv 0) (pv 1) (fun _ _=>rfl)))) zad)
  (za6 (zag za3)),?_⟩
 refine⟨_,rfl,_,rfl,a,_,rfl,.inl hS,_,_,rfl,rfl,_,rfl,?_⟩;by_cases hk:k<(((ns.map V.int).length:Nat):Int)
 ·refine iteDT hk ?_;rw[List.length_map] at hk;have hk':k.toNat<ns.length:=by omega
  have e:atI (ns.map V.int) ((k.toNat:Nat):Int)=some (.int ns[k.toNat]):=zaf (by rw[List.getElem?_map,List.getElem?_eq_getElem hk']; rfl);rw[show((k.toNat:Nat):Int)=k by omega] at e;exact⟨_,rfl,_,rfl,a,_,_,_,rfl,rfl,hS,e,q _⟩
 ·refine iteDF hk ?_;exact q 0
abbrev Dr(z:Int):Prop:=0<=z/\z<2 ^ 300
inductive SpDrawnR(K:PySem.W.Frag)(vs:List V)(H:Hp)(Q:VK):Prop
 | mk (a:Addr) (ns:List Int) (k:Int) (h_0:vs=[.ref a,.int k]) (h_1:ScA K H a ns) (h_2:0<=k) (h_3:k<1000) (h_4:∀z H',Same H H'->Dr z->Q (.int z) H'):SpDrawnR K vs H Q
def spDrawn(K:PySem.W.Frag):Sp:=fun vs H Q _=>SpDrawnR K vs H Q
theorem scDr:FnScope ["_law_script","_law_k","_law_cell","_law_found"] ["_law_script","_law_k"] (defScope zbw):=⟨rfl,rfl,rfl,by decide +kernel,rfl,by decide +kernel,by decide +kernel⟩
theorem p60:(10:Int) ^ ((60:Int).toNat)=1000000000000000000000000000000000000000000000000000000000000:=by decide
theorem zp3(F:Fun K "_law_drawn" "_law_drawn" zbw f fd)(G:FnOk P w K mg base CX0 1 g gd ["_law_script","_law_k"] (spCell K))(bG:Binds K gd ["_law_script","_law_k"] [])(kG:PySem.W.keepIn K (.ref g)=true)(mG:mg "_law_cell_at" = some (.ref g))(mi:mg "int" = none):
  FnOk P w K mg base CX0 2 f fd ["_law_script","_law_k"] (spDrawn K):=by
 refine F.ok scDr (fun vs H Q E h=>?_) (fun cdv A outer s H vs Q E hr h=>?_)
 ·obtain⟨a,ns,k,rfl,_⟩:=h;rfl
 obtain⟨a,ns,k,rfl,hS,h0,h1,q⟩:=h;refine⟨_,za2 (za8 (i:=2) scDr.nd rfl (Or.inl rfl) (za7 zaj (za9 G hr (by rfl) mG kG bG .nil pass0 (za0 (pv 0) (za0 (pv 1) za4))) (za7 zjn za3 za3)))
  (za2 (zas (zac zd7 (za7 zaj (za9 G hr (by rfl) mG kG bG .nil pass0 (za0 (pv 0) (za0 za3 za4))) za3) za3 (nomark _))
   (za6 (zag (zai (ixL (K:=K)) (zar (za0 (pv 2) (za0 (za7 zat (pv 2) za3) za4))) (zak znh (by rfl) mi bt_int (za0 (zgk zd7 (pv 1) za3 (nomark _)) za4)) (fun _ _=>rfl)))) zad)
  (za2 (za8 (i:=3) scDr.nd rfl (Or.inl rfl) (za7 zaj (za7 zcq (za7 zb1 (za7 zb1 (pv 2) (za7 zcq za3 (pv 1))) za3) za3) za3))
  (za6 (zag (za7 zb1 (za7 zcq (pv 2) za3) (za7 zaj (za7 zcq (pv 3) za3) za3)))))),?_⟩
 refine⟨_,rfl,_,rfl,a,ns,k,rfl,hS,h0,fun z0=>?_⟩;refine⟨_,_,rfl,rfl,⟨by decide,by decide,by decide⟩,_,_,rfl,rfl,(show(0:Int)<10 ^ ((60:Int).toNat) by decide),?_⟩
 (try dsimp only)
 rw[p60];have c0:0<=z0 % 1000000000000000000000000000000000000000000000000000000000000:=Int.emod_nonneg _ (by decide);have c1:z0 % 1000000000000000000000000000000000000000000000000000000000000<1000000000000000000000000000000000000000000000000000000000000:=Int.emod_lt_of_pos _ (by decide);generalize z0 % 1000000000000000000000000000000000000000000000000000000000000=c at c0 c1;have p300:(2:Int) ^ 300=2037035976334486086268445688409378161051468393665936250636140449354381299763336706183397376:=by decide
 refine⟨_,rfl,a,ns,0,rfl,hS,Int.le_refl 0,fun z1=>?_⟩;refine⟨_,_,rfl,rfl,(show(0:Int)<2 by decide),rfl,_,rfl,?_⟩;refine ite2 (fun _=>?_) (fun _=>?_)
 ·refine⟨_,rfl,_,rfl,_,_,rfl,rfl,⟨by decide,by decide⟩,by show 2<=sizeLine; decide,fun l hl=>?_⟩;refine⟨_,rfl,rfl,.inr ⟨_,rfl,?_⟩⟩;have fin:∀(j:Int) (v:Int),atI [V.int c,V.int (c / 2)] j=some (.int v)->Dr v->rIxL K (.ref l) (.int j) (upd H l (.lst [.int c,.int (c / 2)])) Q:=fun j v e d =>
   ⟨l,_,j,_,rfl,rfl,SqL.of za1,e,q v _ (za5 hl _) d⟩
  by_cases hk:k=0
  ·rw[decide_eq_true (iv hk)];exact fin 1 (c / 2) at1 ⟨by omega,by rw[p300]; omega⟩
  ·rw[decide_eq_false (ivn hk)];exact fin 0 c at0 ⟨c0,by rw[p300]; omega⟩
 ·refine⟨_,rfl,_,rfl,_,_,rfl,rfl,.inl ⟨by decide,by decide⟩,_,_,rfl,rfl,_,_,rfl,rfl,_,_,rfl,rfl,.inr ⟨by decide,by decide⟩,_,_,rfl,rfl,(show(0:Int)<2147483647 by decide),?_⟩;refine⟨_,rfl,_,_,rfl,rfl,.inr ⟨by decide,by decide⟩,_,rfl,_,_,rfl,rfl,.inr ⟨by decide,by decide⟩,_,_,rfl,rfl,(show(0:Int)<2147483647 by decide),_,_,rfl,rfl,?_⟩;have d0:∀z:Int,0<=z % 2147483647:=fun z=>Int.emod_nonneg _ (by decide)
  have d1:∀z:Int,z % 2147483647<2147483647:=fun z=>Int.emod_lt_of_pos _ (by decide)
  refine q _ _ (Same.refl H) ⟨?_,?_⟩
  ·have:=d0 ((c+7919*k+1)*48271 % 2147483647*69621)
   omega
  ·have:=d1 ((c+7919*k+1)*48271 % 2147483647*69621)
   rw[p300];omega
theorem scCo:FnScope ["_law_one","_law_other","_law_rest"] ["_law_one","_law_other"] (defScope zbl):=⟨rfl,rfl,rfl,by decide +kernel,rfl,by decide +kernel,by decide +kernel⟩
theorem zqv(a:Int):(if a<0 then -a else a)=(a.natAbs:Int):=by split <;> omega
theorem zsf(a b:Int):Int.gcd (a.natAbs:Int) (b.natAbs:Int)=Int.gcd a b:=by
 unfold Int.gcd;simp
theorem zpq{x y:Int}(hy:0<y):Int.gcd y (x % y)=Int.gcd x y:=by
 have:=zjz x y
 rwa [Int.fmod_eq_emod_of_nonneg x (Int.le_of_lt hy)] at this
theorem zkm(F:Fun K "_law_common" "_law_common" zbl f fd)(ma:mg "abs" = none):FnOk P w K mg base CX0 1 f fd ["_law_one","_law_other"] spGcd:=by
 refine F.ok scCo (fun vs H Q E h=>?_) (fun cdv A outer s H vs Q E hr h=>?_)
 ·obtain⟨a,b,rfl,_⟩:=h;rfl
 obtain⟨a,b,rfl,q⟩:=h;refine⟨_,za2 (za8 (i:=0) scCo.nd rfl (Or.inl rfl) (zab zh1 (by rfl) ma zqt (za0 (pv 0) za4)))
  (za2 (za8 (i:=1) scCo.nd rfl (Or.inl rfl) (zab zh1 (by rfl) ma zqt (za0 (pv 1) za4)))
  (za2 (zds PassesOwn.never (zac zim (pv 1) za3 (nomark _))
   (za2 (za8 (i:=2) scCo.nd rfl (Or.inl rfl) (za7 zaj (pv 0) (pv 1)))
   (za2 (za8 (i:=0) scCo.nd rfl (Or.inl rfl) (pv 1))
   (za6 (za8 (i:=1) scCo.nd rfl (Or.inl rfl) (pv 2))))))
  (za6 (zag (pv 0))))),?_⟩
 refine⟨_,rfl,a,rfl,_,rfl,b,rfl,?_⟩;rw[zqv,zqv];refine zdm (fun σ H2=>∃x y r,σ=[some (.int x),some (.int y),r]/\H2=H/\0<=x/\0<=y/\Int.gcd x y=Int.gcd a b) (fun σ _=>match σ with | [_,some (.int y),_]=>y.natAbs | _=>0) ⟨_,_,none,rfl,rfl,by omega,by omega,zsf a b⟩ ?_ ?_
 ·rintro σ H2 ⟨x,y,r,rfl,rfl,x0,y0,gg⟩;refine⟨_,rfl,_,_,rfl,rfl,_,rfl,?_⟩;by_cases hy:0<y
  ·refine iteDT hy ?_;have m0:=Int.emod_nonneg x (Int.ne_of_gt hy);have m1:=Int.emod_lt_of_pos x hy;refine⟨_,rfl,_,rfl,_,_,rfl,rfl,hy,_,rfl,_,rfl,⟨y,x % y,some (.int (x % y)),rfl,rfl,y0,m0,(zpq hy).trans gg⟩,?_⟩;show(x % y).natAbs<y.natAbs;omega
  ·refine iteDF hy ?_;have e:y=0:=by omega
   subst e;refine⟨_,rfl,?_⟩
   have:=znn gg
   rw[if_neg (by omega)] at this;rw[this];exact q
 ·rintro σ H2 Q1 Q2 hq ⟨v,e,i,j,e1,e2,b,eb,z⟩;exact⟨v,e,i,j,e1,e2,b,eb,hq _ _ z⟩
inductive SpLowR(vs:List V)(H:Hp)(Q:VK):Prop
 | mk (t b:Int) (h_0:vs=[.int t,.int b]) (h_1:Big b) (h_2:b≠0) (h_3:Gives H Q t b):SpLowR vs H Q
def spLow:Sp:=fun vs H Q _=>SpLowR vs H Q
theorem scLo:FnScope ["_law_top","_law_bottom","_law_shared"] ["_law_top","_law_bottom"] (defScope zbj):=⟨rfl,rfl,rfl,by decide +kernel,rfl,by decide +kernel,by decide +kernel⟩
theorem zm1(F:Fun K "_law_lowest" "_law_lowest" zbj f fd)(G:FnOk P w K mg base CX0 1 g gd ["_law_one","_law_other"] spGcd)(bG:Binds K gd ["_law_one","_law_other"] [])(kG:PySem.W.keepIn K (.ref g)=true)(mG:mg "_law_common" = some (.ref g)):
  FnOk P w K mg base CX0 2 f fd ["_law_top","_law_bottom"] spLow:=by
 refine F.ok scLo (fun vs H Q E h=>?_) (fun cdv A outer s H vs Q E hr h=>?_)
 ·obtain⟨a,b,rfl,_⟩:=h;rfl
 obtain⟨t,b,rfl,hb,hz,h1⟩:=h;refine⟨_,za2 (za8 (i:=2) scLo.nd rfl (Or.inl rfl) (za9 G hr (by rfl) mG kG bG .nil pass0 (za0 (pv 0) (za0 (pv 1) za4))))
  (za2 (zas (zac zf1 (pv 1) za3 (nomark _)) (za6 (za8 (i:=2) scLo.nd rfl (Or.inl rfl) (pe_un zq1 (pv 2)))) zad)
  (za6 (zag (zb3 (za0 (za7 zeo (pv 0) (pv 2)) (za0 (za7 zeo (pv 1) (pv 2)) za4)))))),?_⟩
 refine⟨_,rfl,_,rfl,t,b,rfl,?_⟩;refine⟨_,rfl,_,_,rfl,rfl,_,rfl,?_⟩;have fin:∀part,part=Mth.part t b->tRet (tTup (tCons (tOp (rI CDivB fun i j=>V.int (i.fdiv j)) (tVar 0) (tVar 2)) (tCons (tOp (rI CDivB fun i j=>V.int (i.fdiv j)) (tVar 1) (tVar 2)) tNil)))
   { nx:=fun _ H'=>Q .non H',rt:=Q } [some (.int t),some (.int b),some (.int part)] H:=by
  rintro part rfl;have hp:CDivB t (Mth.part t b):=⟨zf0 t b hz,Nat.lt_of_le_of_lt (zlx t b hz) hb⟩;exact⟨_,rfl,_,rfl,_,_,rfl,rfl,hp,_,rfl,_,rfl,_,_,rfl,rfl,hp,by show 2<=sizeLine; decide,h1⟩
 by_cases hn:b<0
 ·refine iteDT hn ?_;exact⟨_,rfl,_,rfl,fin _ (by unfold Mth.part; rw[if_pos hn])⟩
 ·refine iteDF hn ?_;exact fin _ (by unfold Mth.part; rw[if_neg hn])
def AlkD(H:Hp):Nat->V->V->Prop
 | 0,v,u=>∃i:Int,v=.int i/\u=.int i
 | n+1,v,u=>(∃i:Int,v=.int i/\u=.int i)\/∃(p q:Addr) (xs ys:List V),v=.ref p/\u=.ref q/\H p=some (.tup xs)/\H q=some (.tup ys)/\xs.length=ys.length/\xs.length<=1000/\∀(i:Nat) (x y:V),xs[i]?=some x->ys[i]?=some y->AlkD H n x y
theorem AlkD.keep{H H':Hp}(s:Same H H'):∀{n:Nat} {v u:V},AlkD H n v u->AlkD H' n v u
 | 0,_,_,h=>h
 | n+1,v,u,h=>by
  rcases h with h | ⟨p,q,xs,ys,e1,e2,hp,hq,l1,l2,hh⟩
  ·exact .inl h
  ·exact .inr ⟨p,q,xs,ys,e1,e2,s _ _ hp,s _ _ hq,l1,l2,fun i x y a b=>(hh i x y a b).keep s⟩
theorem AlkD.up{H:Hp}:∀{n:Nat} {v u:V},AlkD H n v u->AlkD H (n+1) v u
 | 0,_,_,h=>.inl h
 | n+1,v,u,h=>by
  rcases h with h | ⟨p,q,xs,ys,e1,e2,hp,hq,l1,l2,hh⟩
  ·exact .inl h
  ·exact .inr ⟨p,q,xs,ys,e1,e2,hp,hq,l1,l2,fun i x y a b=>(hh i x y a b).up⟩
structure EaseS(q:Rat):Prop where
 k:EaseK q
 n:q.num<10 ^ 39
 d:(q.den:Int)<10 ^ 39
inductive SpLEaseR(vs:List V)(H:Hp)(Q:VK):Prop
 | mk (z:Int) (h_0:vs=[.int z]) (h_1:0<=z) (h_2:∀p H' q,Same H H'->FrR H' p q->EaseS q->Q (.ref p) H'):SpLEaseR vs H Q
def spLEase:Sp:=fun vs H Q _=>SpLEaseR vs H Q
theorem zsq{t b:Int}(ht:0<t)(ht2:t<10 ^ 39)(hb:0<b)(hb2:b<10 ^ 39):EaseS ((t:Rat) / (b:Rat)):=by
 have e:=zdx t b (by omega);have l1:=zmx t b (by omega);have l2:=zmw t b (by omega);have c:=zg0 t b;have d:=zk1 t b (by omega);rw[e] at l1 l2 c d;dsimp only at l1 l2 c d;generalize ((t:Rat) / (b:Rat))=q at l1 l2 c d;have n0:0<q.num:=by
  rcases Int.lt_or_le 0 q.num with h | h
  ·exact h
  ·have h1:0<t*(q.den:Int):=Int.mul_pos ht d;have h2:q.num*b<=0:=Int.mul_nonpos_of_nonpos_of_nonneg h (by omega);omega
 exact⟨⟨n0,by omega,by omega⟩,by omega,by omega⟩
theorem scLE:FnScope ["_law_cell"] ["_law_cell"] (defScope sLEase):=⟨rfl,rfl,rfl,by decide +kernel,rfl,by decide +kernel,by decide +kernel⟩
theorem zoy(F:Fun K "_law_ease" "_law_ease" sLEase f fd)(G:FnOk P w K mg base CX0 2 g gd ["_law_top","_law_bottom"] spLow)(bG:Binds K gd ["_law_top","_law_bottom"] [])(kG:PySem.W.keepIn K (.ref g)=true)(mG:mg "_law_lowest" = some (.ref g)):
  FnOk P w K mg base CX0 3 f fd ["_law_cell"] spLEase:=by
 refine F.ok scLE (fun vs H Q E h=>?_) (fun cdv A outer s H vs Q E hr h=>?_)
 ·obtain⟨z,rfl,_⟩:=h;rfl
 obtain⟨z,rfl,hz,q⟩:=h;refine⟨_,za2 (zas (zac zd7 (za7 zaj (pv 0) za3) za3 (nomark _)) (za6 (zag (zb3 (za0 za3 (za0 za3 za4))))) zad)
  (za2 (zas (zac zd7 (za7 zaj (pv 0) za3) za3 (nomark _))
   (za6 (zag (za9 G hr (by rfl) mG kG bG .nil pass0 (za0 (za7 zb1 za3 (za7 zaj (za7 zat (pv 0) za3) (za7 zd8 (za7 zjn za3 za3) za3))) (za0 (za7 zb1 za3 (za7 zaj (za7 zcq (za7 zat (pv 0) za3) za3) (za7 zd8 (za7 zjn za3 za3) za3))) za4))))) zad)
  (za6 (zag (za9 G hr (by rfl) mG kG bG .nil pass0 (za0 (za7 zb1 za3 (za7 zaj (za7 zat (pv 0) za3) za3)) (za0 (za7 zb1 za3 (za7 zaj (za7 zat (pv 0) za3) za3)) za4)))))),?_⟩
 have m4:(0:Int)<4:=by decide
 have d4:CDiv z 4:=⟨by decide,by decide⟩;have gv:∀t b:Int,0<t->t<10 ^ 39->0<b->b<10 ^ 39->spLow [.int t,.int b] H Q E:=by
  intro t b t0 t1 b0 b1;refine⟨t,b,rfl,?_,by omega,fun p hp=>q p _ ((t:Rat) / (b:Rat)) (za5 hp _) ?_ (zsq t0 t1 b0 b1)⟩
  ·refine zqu (n:=200) ?_ (by decide)
   have:(10:Int) ^ 39<2 ^ 200:=by decide
   have e2:((2:Int) ^ 200)=((2 ^ 200:Nat):Int):=by decide
   omega
  ·unfold FrR;rw[za1,zdx t b (by omega)]
 refine⟨_,rfl,_,_,rfl,rfl,m4,rfl,_,rfl,?_⟩;refine ite2 (fun _=>?_) (fun _=>?_)
 ·refine⟨by show 2<=sizeLine; decide,fun p hp=>?_⟩;exact q p _ 1 (za5 hp _) za1 ⟨⟨by decide,by decide,by decide⟩,by decide,by decide⟩
 refine⟨_,rfl,_,_,rfl,rfl,m4,rfl,_,rfl,?_⟩;refine ite2 (fun _=>?_) (fun _=>?_)
 ·have p39:(0:Int)<10 ^ ((39:Int).toNat)-1:=by decide
  have p40:(10:Int) ^ ((39:Int).toNat)-1<10 ^ 39:=by decide
  refine⟨_,rfl,_,_,rfl,rfl,d4,_,_,rfl,rfl,⟨by decide,by decide,by decide⟩,_,_,rfl,rfl,_,_,rfl,rfl,p39,_,_,rfl,rfl,?_⟩;refine⟨_,rfl,_,_,rfl,rfl,⟨by decide,by decide⟩,_,_,rfl,rfl,.inr ⟨by decide,by decide⟩,_,_,rfl,rfl,⟨by decide,by decide,by decide⟩,_,_,rfl,rfl,_,_,rfl,rfl,p39,_,_,rfl,rfl,?_⟩;generalize (10:Int) ^ ((39:Int).toNat)-1=m at p39 p40;have a1:=Int.emod_nonneg (z / 4) (Int.ne_of_gt p39);have a2:=Int.emod_lt_of_pos (z / 4) p39;have b1:=Int.emod_nonneg (z / 32*48271) (Int.ne_of_gt p39);have b2:=Int.emod_lt_of_pos (z / 32*48271) p39;exact gv _ _ (by omega) (by omega) (by omega) (by omega)
 ·refine⟨_,rfl,_,_,rfl,rfl,d4,_,_,rfl,rfl,(show(0:Int)<9 by decide),_,_,rfl,rfl,_,rfl,_,_,rfl,rfl,⟨by decide,by decide⟩,_,_,rfl,rfl,(show(0:Int)<9 by decide),_,_,rfl,rfl,?_⟩;have t40:(10:Int)<10 ^ 39:=by decide
  exact gv _ _ (by omega) (by omega) (by omega) (by omega)
end
abbrev natV(hs:List Nat):List V:=hs.map fun x:Nat=>V.int (x:Int)
structure GrM(H:Hp)(T h:Addr)(bs:List Addr)(ts:List (List Int))(hs:List Nat):Prop where
 tm:TurnsM H T bs ts
 hh:H h=some (.lst (natV hs))
 hn:h∉T :: bs
theorem GrM.keep{H H':Hp}{T h:Addr}{bs:List Addr}{ts:List (List Int)}{hs:List Nat}(M:GrM H T h bs ts hs)(s:Same H H'):GrM H' T h bs ts hs:=⟨M.tm.keep s,s _ _ M.hh,M.hn⟩
def Fr(T h:Addr)(bs:List Addr)(H H':Hp):Prop:=∀b o,b∉T :: h :: bs->H b=some o->H' b=some o
theorem Fr.refl{T h:Addr}{bs:List Addr}(H:Hp):Fr T h bs H H:=fun _ _ _ e=>e
theorem Fr.same{T h:Addr}{bs:List Addr}{H H':Hp}(s:Same H H'):Fr T h bs H H':=fun b o _ e=>s b o e
theorem Fr.trans{T h:Addr}{bs:List Addr}{H H1 H2:Hp}(a:Fr T h bs H H1)(b:Fr T h bs H1 H2):Fr T h bs H H2:=fun c o n e=>b c o n (a c o n e)
theorem Fr.up{T h:Addr}{bs:List Addr}{H:Hp}{x:Addr}(hx:x∈T :: h :: bs)(o:HO):Fr T h bs H (upd H x o):=fun c u n e=>by
 rw[upd_ne (fun z=>n (by rw[z]; exact hx))]; exact e
theorem GrM.hne{H:Hp}{T h:Addr}{bs:List Addr}{ts:List (List Int)}{hs:List Nat}(M:GrM H T h bs ts hs){b:Addr}(hb:b∈bs):h≠b:=fun z=>M.hn (by rw[z]; exact List.mem_cons_of_mem _ hb)
theorem GrM.turn{H:Hp}{T h b:Addr}{bs:List Addr}{ts:List (List Int)}{hs:List Nat}{i:Nat}{t:List Int}(M:GrM H T h bs ts hs)(hb:bs[i]?=some b):GrM (upd H b (.lst (t.map V.int))) T h bs (ts.set i t) hs :=
 ⟨M.tm.put hb,by rw[upd_ne (M.hne (List.mem_of_getElem? hb))]; exact M.hh,M.hn⟩
theorem GrM.homes{H:Hp}{T h:Addr}{bs:List Addr}{ts:List (List Int)}{hs:List Nat}(M:GrM H T h bs ts hs)(hs':List Nat):GrM (upd H h (.lst (natV hs'))) T h bs ts hs':=by
 refine⟨⟨?_,⟨M.tm.rows.1,fun i b x e1 e2=>?_⟩,M.tm.nd⟩,za1,M.hn⟩
 ·rw[upd_ne (fun z=>M.hn (by rw[z]; exact List.mem_cons_self ..))]; exact M.tm.h1
 ·show upd H h _ b=_;rw[upd_ne (Ne.symm (M.hne (List.mem_of_getElem? e1)))];exact M.tm.rows.2 i b x e1 e2
theorem GrM.more{H:Hp}{T h l:Addr}{bs:List Addr}{ts:List (List Int)}{hs:List Nat}{u:List Int}(M:GrM H T h bs ts hs)(hl:H l=none):GrM (upd (upd H l (.lst (u.map V.int))) T (.lst (bs.map V.ref++[.ref l]))) T h (bs++[l]) (ts++[u]) hs:=by
 have s1:=za5 hl (.lst (u.map V.int));have e1:(upd H l (.lst (u.map V.int))) l=some (.lst (u.map V.int)):=za1;have M1:=M.keep s1;generalize upd H l (.lst (u.map V.int))=H1 at s1 e1 M1;have lT:l≠T:=fun z=>by rw[z,M.tm.h1] at hl; cases hl
 have lh:h≠l:=fun z=>by rw[<-z,M.hh] at hl; cases hl
 have hT:h≠T:=fun z=>M.hn (by rw[z]; exact List.mem_cons_self ..)
 obtain⟨n1,n2⟩:=List.nodup_cons.mp M.tm.nd;have lb:l∉bs:=fun z=>by
  obtain⟨k,hk,ek⟩:=List.getElem_of_mem z;have hl2:k<ts.length:=by rw[<-M.tm.rows.1]; exact hk
  have:=M.tm.rows.2 k l ts[k] (by rw[List.getElem?_eq_getElem hk,ek]) (List.getElem?_eq_getElem hl2)
  unfold IntsL at this;rw[hl] at this; cases this
 refine⟨⟨by rw[za1]; simp,?_,?_⟩,by rw[upd_ne hT]; exact M1.hh,?_⟩
 ·have a1:=M1.tm.rows.snoc (b:=l) (x:=u) e1;refine⟨a1.1,fun i b x q1 q2=>?_⟩
  have:=a1.2 i b x q1 q2
  unfold IntsL at this ⊢;have bT:b≠T:=fun z=>by
   subst z;rcases List.mem_append.mp (List.mem_of_getElem? q1) with w | w
   ·exact n1 w
   ·exact lT (List.mem_singleton.mp w).symm
  rw[upd_ne bT]; exact this
 ·rw[List.nodup_cons];refine⟨fun z=>?_,?_⟩
  ·rcases List.mem_append.mp z with w | w
   ·exact n1 w
   ·exact lT (List.mem_singleton.mp w).symm
  ·rw[List.nodup_append];refine⟨n2,by simp,fun x hx y hy z=>?_⟩;rw[List.mem_singleton] at hy;subst hy; subst z;exact lb hx
 ·intro z;rcases List.mem_cons.mp z with w | w
  ·exact hT w
  ·rcases List.mem_append.mp w with w | w
   ·exact M.hn (List.mem_cons_of_mem _ w)
   ·exact lh (List.mem_singleton.mp w)
theorem zma{hs:List Nat}{i p:Nat}(h:hs[i]?=some p):atI (natV hs) ((i:Nat):Int)=some (.int (p:Int)):=zaf (by rw[List.getElem?_map,h]; rfl)
theorem zf5{hs:List Nat}{x:Int}{p:Nat}(h0:0<=x)(h:hs[x.toNat]?=some p):atI (natV hs) x=some (.int (p:Int)):=by
 have:=zma h
 rwa [show((x.toNat:Nat):Int)=x by omega] at this
theorem zi9{H:Hp}{T:Addr}{bs:List Addr}{ts:List (List Int)}{p:Nat}{t:List Int}(M:TurnsM H T bs ts)(h:ts[p]?=some t):∃b,bs[p]?=some b/\b∈bs/\atI (bs.map V.ref) ((p:Nat):Int)=some (.ref b)/\H b=some (.lst (t.map V.int)):=by
 obtain⟨b,hb,hB⟩:=M.rows.get h;exact⟨b,hb,List.mem_of_getElem? hb,zaf (zd4 hb),hB⟩
theorem zet{x:Int}:∀{t:List Int},x∈t->∃u1 u2,t=u1++x :: u2/\x∉u1
 | a :: t,h=>by
  by_cases e:x=a
  ·subst e; exact⟨[],t,rfl,by simp⟩
  ·rcases List.mem_cons.mp h with z | z
   ·exact absurd z e
   ·obtain⟨u1,u2,rfl,n⟩:=zet z;exact⟨a :: u1,u2,rfl,by simp[e,n]⟩
theorem zix{x:Int}{u2:List Int}:∀{u1:List Int},x∉u1->(u1++x :: u2).idxOf x=u1.length
 | [],_=>by simp
 | a :: u,h=>by
  have e:a≠x:=fun z=>h (by rw[z]; exact List.mem_cons_self ..)
  have:=zix (u2:=u2) (u1:=u) (fun z=>h (List.mem_cons_of_mem _ z))
  rw[List.cons_append,List.idxOf_cons,this,show(a == x)=false from beq_false_of_ne e];rfl
theorem zjq{x y:Int}{u:List Int}(h:x∉u):(u.map fun z=>if z=x then y else z)=u:=by
 conv=>rhs; rw[<-List.map_id u]
 refine List.map_congr_left fun z hz=>?_
 have:z≠x:=fun q=>h (by rw[<-q]; exact hz)
 rw[if_neg this]; rfl
theorem set_map{x y:Int}{t:List Int}(nd:t.Nodup)(h:x∈t):t.set (t.idxOf x) y=t.map fun z=>if z=x then y else z:=by
 obtain⟨u1,u2,rfl,n1⟩:=zet h;rw[zix n1,List.set_append_right _ _ (Nat.le_refl _),Nat.sub_self,List.set_cons_zero,List.map_append,List.map_cons,if_pos rfl,zjq n1];rw[List.nodup_append,List.nodup_cons] at nd;rw[zjq nd.2.1.1]
theorem _root_.Mth.Gn.at{ts:List (List Int)}{hs:List Nat}(g:Gn ts hs){x:Int}(h:InR hs.length x):∃p t,ts[p]?=some t/\x∈t/\hs[x.toNat]?=some p:=by
 obtain⟨t,ht,hx⟩:=List.mem_flatten.mp ((g.mem x).mpr h);obtain⟨p,hp,e⟩:=List.getElem_of_mem ht;have h2:ts[p]?=some t:=by rw[List.getElem?_eq_getElem hp,e]
 exact⟨p,t,h2,hx,g.home p t h2 x hx⟩
theorem pr_at{ts:List (List Int)}(nd:ts.flatten.Nodup){p:Nat}{t:List Int}{x:Int}(h:ts[p]?=some t)(hx:x∈t):pr ts x=prevAt t (t.idxOf x):=by
 refine ze3 nd (List.mem_flatten.mpr ⟨rowP t,List.mem_map.mpr ⟨t,List.mem_of_getElem? h,rfl⟩,?_⟩);unfold rowP;refine List.mem_map.mpr ⟨t.idxOf x,List.mem_range.mpr (List.idxOf_lt_length_iff.mpr hx),?_⟩;rw[List.getD_eq_getElem?_getD,List.getElem?_eq_getElem (List.idxOf_lt_length_iff.mpr hx),List.getElem_idxOf];rfl
theorem ziw(φ:Int->Int)(s:Int)(i:Nat):∀k,itn φ k (itn φ i s)=itn φ (k+i) s
 | 0=>by rw[Nat.zero_add]; rfl
 | k+1=>by
  rw[show k+1+i=(k+i)+1 by omega];show φ (itn φ k (itn φ i s))=φ (itn φ (k+i) s);rw[ziw φ s i k]
theorem zkg{φ:Int->Int}{n:Nat}(PM:Perm1 φ n){s a b:Int}(hs:InR n s)(ha:a∈ring φ s)(hb:b∈ring φ s):∃k,itn φ k a=b:=by
 obtain⟨i,hi,rfl⟩:=ringL_mem.mp ha;obtain⟨j,hj,rfl⟩:=ringL_mem.mp hb;have pp:=zdt PM hs;refine⟨(per φ s-i)+j,?_⟩;have e:itn φ (per φ s-i) (itn φ i s)=s:=by rw[ziw,show per φ s-i+i=per φ s by omega]; exact pp.2.1
 rw[show per φ s-i+j=j+(per φ s-i) by omega,<-ziw,e]
theorem xor40:∀k:Nat,k<40->Builtin.bitXor (k:Int) 1=oth (k:Int):=by decide
theorem xorI{x:Int}{n:Nat}(h:InR n x)(hn:n<=40):Builtin.bitXor x 1=oth x:=by
 obtain⟨h1,h2⟩:=h
 have:=xor40 x.toNat (by omega)
 rwa [show((x.toNat:Nat):Int)=x by omega] at this
section
variable {P:Program} {w:World} {K:PySem.W.Frag} {mg:Str->Option Value} {base:Heap} {f g h f1 f2 f3 f4:Addr} {fd gd hd d1 d2 d3 d4:FuncData}
inductive SpNextR(vs:List V)(H:Hp)(Q:VK):Prop
 | mk (T hA:Addr) (bs:List Addr) (ts:List (List Int)) (hs:List Nat) (e:Int) (h_0:vs=[.ref T,.ref hA,.int e]) (h_1:GrM H T hA bs ts hs) (h_2:Gn ts hs) (h_3:hs.length<=40) (h_4:InR hs.length e) (h_5:Q (.int (nxt ts e)) H):SpNextR vs H Q
def spNext:Sp:=fun vs H Q _=>SpNextR vs H Q
theorem scNx:FnScope ["_law_turns","_law_homes","_law_end","_law_turn"] ["_law_turns","_law_homes","_law_end"] (defScope sNext):=⟨rfl,rfl,rfl,by decide +kernel,rfl,by decide +kernel,by decide +kernel⟩
theorem zs1(F:Fun K "_law_next" "_law_next" sNext f fd):FnOk P w K mg base CX0 1 f fd ["_law_turns","_law_homes","_law_end"] spNext:=by
 refine F.ok scNx (fun vs H Q E h=>?_) (fun cdv A outer s H vs Q E hr h=>?_)
 ·obtain⟨T,hA,bs,ts,hs,e,rfl,_⟩:=h;rfl
 obtain⟨T,hA,bs,ts,hs,e,rfl,M,g,hl,he,q⟩:=h;refine⟨_,za2 (za8 (i:=3) scNx.nd rfl (Or.inl rfl) (zai (ixL (K:=K)) (pv 0) (zai (ixL (K:=K)) (pv 1) (za7 zjm (pv 2) za3) (fun _ _=>rfl)) (fun _ _=>rfl)))
  (za6 (zag (zai (ixL (K:=K)) (pv 3) (za7 zd8 (zap K PySem.F.plainAttrs_list PySem.F.slot_list_index PySem.F.type_list_index zgr (pv 3) (za0 (za7 zjm (pv 2) za3) za4)) za3) (fun _ _=>rfl)))),?_⟩
 have ho:=zcd g.ev he;obtain⟨p,t,hp,hx,hm⟩:=g.at ho;obtain⟨b,hb,bm,ab,hB⟩:=zi9 M.tm hp;have ex:=xorI he hl;have tl:t.length<=1000000:=by have:=zes (List.mem_of_getElem? hp); rw[g.turns.len] at this; omega
 refine⟨_,rfl,_,rfl,_,rfl,_,_,rfl,rfl,hA,_,_,_,rfl,rfl,SqL.of M.hh,(by rw[ex]; exact zf5 ho.1 hm),T,_,_,_,rfl,rfl,SqL.of M.tm.h1,ab,?_⟩;refine⟨_,rfl,_,rfl,.inl ⟨rfl,_,SqL.of hB⟩,_,rfl,_,_,rfl,rfl,b,t,_,rfl,rfl,hB,(by rw[ex]; exact hx),tl,?_⟩;rw[ex];refine⟨_,_,rfl,rfl,b,_,_,_,rfl,rfl,SqL.of hB,znl (List.idxOf_lt_length_iff.mpr hx),?_⟩;rw[<-pr_at g.nd hp hx,<-zb6];exact q
inductive SpLRingR(vs:List V)(H:Hp)(Q:VK):Prop
 | mk (T hA:Addr) (bs:List Addr) (ts:List (List Int)) (hs:List Nat) (e:Int) (h_0:vs=[.ref T,.ref hA,.int e]) (h_1:GrM H T hA bs ts hs) (h_2:Gn ts hs) (h_3:hs.length<=40) (h_4:InR hs.length e) (h_5:∀p H',Same H H'->H' p=some (.lst ((ring (nxt ts) e).map V.int))->Q (.ref p) H'):SpLRingR vs H Q
def spLRing:Sp:=fun vs H Q _=>SpLRingR vs H Q
theorem scLR:FnScope ["_law_turns","_law_homes","_law_start","_law_ring_here","_law_here"] ["_law_turns","_law_homes","_law_start"] (defScope zc5):=⟨rfl,rfl,rfl,by decide +kernel,rfl,by decide +kernel,by decide +kernel⟩
theorem zox(F:Fun K "_law_ring" "_law_ring" zc5 f fd)(G:FnOk P w K mg base CX0 1 g gd ["_law_turns","_law_homes","_law_end"] spNext)(bG:Binds K gd ["_law_turns","_law_homes","_law_end"] [])(kG:PySem.W.keepIn K (.ref g)=true)(mG:mg "_law_next" = some (.ref g)):
  FnOk P w K mg base CX0 2 f fd ["_law_turns","_law_homes","_law_start"] spLRing:=by
 refine F.ok scLR (fun vs H Q E h=>?_) (fun cdv A outer s H vs Q E hr h=>?_)
 ·obtain⟨T,hA,bs,ts,hs,e,rfl,_⟩:=h;rfl
 obtain⟨T,hA,bs,ts,hs,s0,rfl,M,g,hn,hs0,q⟩:=h;have PM:=g.turns.perm;have PE:=zdt PM hs0;refine⟨_,za2 (za8 (i:=3) scLR.nd rfl (Or.inl rfl) (zar (za0 (pv 2) za4)))
  (za2 (za8 (i:=4) scLR.nd rfl (Or.inl rfl) (za9 G hr (by rfl) mG kG bG .nil pass0 (za0 (pv 0) (za0 (pv 1) (za0 (pv 2) za4)))))
  (za2 (zds PassesOwn.never (zac zhk (pv 4) (pv 2) (nomark _))
   (za2 (zam (zap K PySem.F.plainAttrs_list PySem.F.slot_list_append PySem.F.type_list_append zal (pv 3) (za0 (pv 4) za4)))
    (za6 (za8 (i:=4) scLR.nd rfl (Or.inl rfl) (za9 G hr (by rfl) mG kG bG .nil pass0 (za0 (pv 0) (za0 (pv 1) (za0 (pv 4) za4))))))))
  (za6 (zag (pv 3))))),?_⟩
 refine⟨_,rfl,by show 1<=sizeLine; decide,fun l hl=>?_⟩;refine⟨_,rfl,_,rfl,_,rfl,T,hA,bs,ts,hs,s0,rfl,M.keep (za5 hl _),g,hn,hs0,?_⟩;refine zdm (fun σ H2=>∃j,1<=j/\j<=per (nxt ts) s0/\σ=[some (.ref T),some (.ref hA),some (.int s0),some (.ref l),some (.int (itn (nxt ts) j s0))]/\Same H H2/\H2 l=some (.lst ((ringL (nxt ts) s0 j).map V.int)))
  (fun _ H2=>match H2 l with | some (.lst xs)=>per (nxt ts) s0-xs.length | _=>0) ⟨1,Nat.le_refl _,PE.1,rfl,za5 hl _,za1⟩ ?_ ?_
 ·rintro σ H2 ⟨j,j1,j2,rfl,sm,hl2⟩;refine⟨_,rfl,_,rfl,rfl,_,rfl,?_⟩;by_cases he:itn (nxt ts) j s0=s0
  ·refine iteNS (iv he) ?_;have hj:j=per (nxt ts) s0:=by
    rcases Nat.lt_or_ge j (per (nxt ts) s0) with z | z
    ·exact absurd he (PE.2.2 j j1 z)
    ·omega
   subst hj;exact⟨_,rfl,q l _ sm hl2⟩
  ·refine iteNN (ivn he) ?_;have hj:j<per (nxt ts) s0:=by
    rcases Nat.lt_or_ge j (per (nxt ts) s0) with z | z
    ·exact z
    ·exact absurd (by rw[show j=per (nxt ts) s0 by omega]; exact PE.2.1) he
   have hpl:=zqe PM hs0;have hlen:(ringL (nxt ts) s0 j).length=j:=zew;refine⟨_,rfl,.inl ⟨rfl,_,SqL.of hl2⟩,_,rfl,l,_,_,rfl,rfl,hl2,by rw[List.length_map,hlen]; exact szl (by omega),?_⟩;have sm2:=sm.up hl (.lst ((ringL (nxt ts) s0 j).map V.int++[.int (itn (nxt ts) j s0)]));refine⟨_,rfl,_,rfl,_,rfl,T,hA,bs,ts,hs,_,rfl,M.keep sm2,g,hn,zd5 PM hs0 j,?_⟩;refine⟨⟨j+1,by omega,hj,rfl,sm2,?_⟩,?_⟩
   ·rw[za1,zfn,List.map_append];rfl
   ·rw[za1,hl2];show per (nxt ts) s0-((ringL (nxt ts) s0 j).map V.int++[V.int (itn (nxt ts) j s0)]).length<per (nxt ts) s0-((ringL (nxt ts) s0 j).map V.int).length;rw[List.length_append,List.length_map,hlen,List.length_singleton];omega
 ·rintro σ H2 Q1 Q2 hq ⟨v,e,v',e',sc,b,eb,z⟩;exact⟨v,e,v',e',sc,b,eb,hq _ _ z⟩
inductive SpPutR(vs:List V)(H:Hp)(Q:VK):Prop
 | mk (T hA:Addr) (bs:List Addr) (ts:List (List Int)) (hs:List Nat) (s e:Int) (p:Nat) (t1 t2:List Int) (h_0:vs=[.ref T,.ref hA,.int s,.int e]) (h_1:GrM H T hA bs ts hs) (h_2:hs.length<=1000) (h_3:0<=s) (h_4:hs[s.toNat]?=some p) (h_5:ts[p]?=some (t1++s :: t2)) (h_6:s∉t1) (h_7:(t1++s :: t2).length<=1000) (h_8:∀H',Fr T hA bs H H'->GrM H' T hA bs (ts.set p (t1++e :: s :: t2)) (hs++[p])->Q .non H'):SpPutR vs H Q
def spPut:Sp:=fun vs H Q _=>SpPutR vs H Q
theorem scPu:FnScope ["_law_turns","_law_homes","_law_spot","_law_end","_law_turn"] ["_law_turns","_law_homes","_law_spot","_law_end"] (defScope zax):=⟨rfl,rfl,rfl,by decide +kernel,rfl,by decide +kernel,by decide +kernel⟩
theorem ok_put(F:Fun K "_law_put_ahead" "_law_put_ahead" zax f fd):FnOk P w K mg base CX0 1 f fd ["_law_turns","_law_homes","_law_spot","_law_end"] spPut:=by
 refine F.ok scPu (fun vs H Q E h=>?_) (fun cdv A outer s H vs Q E hr h=>?_)
 ·obtain⟨T,hA,bs,ts,hs,s,e,p,t1,t2,rfl,_⟩:=h;rfl
 obtain⟨T,hA,bs,ts,hs,s0,e,p,t1,t2,rfl,M,hl,h0,hm,hp,nm,tl,q⟩:=h;refine⟨_,za2 (za8 (i:=4) scPu.nd rfl (Or.inl rfl) (zai (ixL (K:=K)) (pv 0) (zai (ixL (K:=K)) (pv 1) (pv 2) (fun _ _=>rfl)) (fun _ _=>rfl)))
  (za2 (zam (zap K PySem.F.plainAttrs_list PySem.F.slot_list_insert PySem.F.type_list_insert zmb (pv 4) (za0 (zap K PySem.F.plainAttrs_list PySem.F.slot_list_index PySem.F.type_list_index zgr (pv 4) (za0 (pv 2) za4)) (za0 (pv 3) za4))))
  (za6 (zam (zap K PySem.F.plainAttrs_list PySem.F.slot_list_append PySem.F.type_list_append zal (pv 1) (za0 (zai (ixL (K:=K)) (pv 1) (pv 2) (fun _ _=>rfl)) za4))))),?_⟩
 obtain⟨b,hb,bm,ab,hB⟩:=zi9 M.tm hp;have ix:=zix (u2:=t2) nm;refine⟨_,rfl,_,rfl,_,rfl,hA,_,_,_,rfl,rfl,SqL.of M.hh,zf5 h0 hm,T,_,_,_,rfl,rfl,SqL.of M.tm.h1,ab,?_⟩;refine⟨_,rfl,.inl ⟨rfl,_,SqL.of hB⟩,_,rfl,.inl ⟨rfl,_,SqL.of hB⟩,_,rfl,b,t1++s0 :: t2,s0,rfl,rfl,hB,by simp,by omega,?_⟩;rw[ix];refine⟨_,rfl,b,_,(t1.length:Int),.int e,rfl,rfl,hB,by omega,by simp; omega,by rw[List.length_map]; omega,?_⟩;have e3:((t1++s0 :: t2).map V.int).take ((t1.length:Int)).toNat++V.int e :: ((t1++s0 :: t2).map V.int).drop ((t1.length:Int)).toNat=(t1++e :: s0 :: t2).map V.int:=by
  rw[Int.toNat_natCast,<-List.map_take,<-List.map_drop];simp
 rw[e3];have M1:=M.turn (t:=t1++e :: s0 :: t2) hb;have F1:Fr T hA bs H (upd H b (.lst ((t1++e :: s0 :: t2).map V.int))):=Fr.up (by simp[bm]) _;generalize upd H b (.lst ((t1++e :: s0 :: t2).map V.int))=H1 at M1 F1;refine⟨_,rfl,.inl ⟨rfl,_,SqL.of M1.hh⟩,_,rfl,_,rfl,hA,_,_,_,rfl,rfl,SqL.of M1.hh,zf5 h0 hm,hA,_,_,rfl,rfl,M1.hh,by rw[List.length_map]; exact szl (by omega),?_⟩;have M2:=M1.homes (hs++[p]);have e4:natV hs++[V.int (p:Int)]=natV (hs++[p]):=by simp[natV]
 rw[e4];exact q _ (F1.trans (Fr.up (by simp) _)) M2
end
section
variable {P:Program} {w:World} {K:PySem.W.Frag} {mg:Str->Option Value} {base:Heap} {f g h f1 f2 f3 f4:Addr} {fd gd hd d1 d2 d3 d4:FuncData}
inductive SpMoreR(vs:List V)(H:Hp)(Q:VK):Prop
 | mk (T hA:Addr) (bs:List Addr) (ts:List (List Int)) (hs:List Nat) (z:Int) (h_0:vs=[.ref T,.ref hA,.int z]) (h_1:GrM H T hA bs ts hs) (h_2:Gn ts hs) (h_3:hs.length<=36) (h_4:0<=z) (h_5:∀H' bs' ts' hs',Fr T hA bs H H'->(∀b∈bs',b∈bs\/H b=none)->GrM H' T hA bs' ts' hs'->Gn ts' hs'->hs'.length=hs.length+2->Q .non H'):SpMoreR vs H Q
def spMore:Sp:=fun vs H Q _=>SpMoreR vs H Q
theorem scMo:FnScope ["_law_turns","_law_homes","_law_cell","_law_end","_law_ring_here","_law_first","_law_second","_law_parted","_law_turn"] ["_law_turns","_law_homes","_law_cell"] (defScope zb4):=⟨rfl,rfl,rfl,by decide +kernel,rfl,by decide +kernel,by decide +kernel⟩
theorem zg7{ts:List (List Int)}{hs:List Nat}(g:Gn ts hs){p:Nat}{t:List Int}(h:ts[p]?=some t):t.length<=hs.length:=by
 have:=zes (List.mem_of_getElem? h)
 rwa [g.turns.len] at this
theorem _root_.Mth.Gn.tsl{ts:List (List Int)}{hs:List Nat}(g:Gn ts hs):ts.length<=hs.length:=by have:=g.few; omega
theorem zjv{n j:Nat}(h:j<n):ixN n ((j:Nat):Int)=some j:=by unfold ixN; rw[if_pos (by omega),if_pos (by omega)]; simp
theorem Fr.free{T hA l:Addr}{bs:List Addr}{H H':Hp}{ts:List (List Int)}{hs:List Nat}(F:Fr T hA bs H H')(M:GrM H' T hA bs ts hs)(hl:H' l=none):H l=none:=by
 cases e:H l with
 | none=>rfl
 | some o =>
  exfalso
  by_cases m:l∈T :: hA :: bs
  ·rcases List.mem_cons.mp m with z | z
   ·rw[z,M.tm.h1] at hl; cases hl
   ·rcases List.mem_cons.mp z with z | z
    ·rw[z,M.hh] at hl; cases hl
    ·obtain⟨k,hk,ek⟩:=List.getElem_of_mem z;have hl2:k<ts.length:=by rw[<-M.tm.rows.1]; exact hk
     have:=M.tm.rows.2 k l ts[k] (by rw[List.getElem?_eq_getElem hk,ek]) (List.getElem?_eq_getElem hl2)
     unfold IntsL at this;rw[hl] at this; cases this
  ·rw[F l o m e] at hl; cases hl
theorem pick{R:List Int}(h:0<R.length)(c:Int):∃a,a∈R/\atI (R.map V.int) (c % (((R.map V.int).length:Nat):Int))=some (.int a):=by
 rw[List.length_map];have h0:(0:Int)<(R.length:Int):=by omega
 have c0:=Int.emod_nonneg c (Int.ne_of_gt h0);have c1:=Int.emod_lt_of_pos c h0;generalize c % (R.length:Int)=d at c0 c1;have hd:d.toNat<R.length:=by omega
 refine⟨R[d.toNat],List.getElem_mem hd,?_⟩
 have:=zaf (xs:=R.map V.int) (at_int (List.getElem?_eq_getElem hd))
 rwa [show((d.toNat:Nat):Int)=d by omega] at this
set_option maxHeartbeats 1000000 in
theorem zs3 (F:Fun K "_law_one_more" "_law_one_more" zb4 f fd) (G1:FnOk P w K mg base CX0 2 f1 d1 ["_law_turns","_law_homes","_law_start"] spLRing) (b1:Binds K d1 ["_law_turns","_law_homes","_law_start"] []) (k1:PySem.W.keepIn K (.ref f1)=true) (m1:mg "_law_ring" = some (.ref f1))
  (G2:FnOk P w K mg base CX0 1 f2 d2 ["_law_turns","_law_homes","_law_spot","_law_end"] spPut) (b2:Binds K d2 ["_law_turns","_law_homes","_law_spot","_law_end"] []) (k2:PySem.W.keepIn K (.ref f2)=true) (m2:mg "_law_put_ahead" = some (.ref f2)) (ml:mg "len" = none) :
  FnOk P w K mg base CX0 3 f fd ["_law_turns","_law_homes","_law_cell"] spMore:=by
 refine F.ok scMo (fun vs H Q E h=>?_) (fun cdv A outer s H vs Q E hr h=>?_)
 ·obtain⟨T,hA,bs,ts,hs,z,rfl,_⟩:=h;rfl
 obtain⟨T,hA,bs,ts,hs,z,rfl,M,g,hl,z0,q⟩:=h;have hr1:=hr.mono (show 1<=2 by decide);refine⟨_,za2 (za8 (i:=3) scMo.nd rfl (Or.inl rfl) (zab (callLen (K:=K)) (by rfl) ml zav (za0 (pv 1) za4)))
  (za2 (za8 (i:=4) scMo.nd rfl (Or.inl rfl) (za9 G1 hr (by rfl) m1 k1 b1 .nil pass0 (za0 (pv 0) (za0 (pv 1) (za0 (za7 zaj (za7 zat (pv 2) za3) (pv 3)) za4)))))
  (za2 (za8 (i:=5) scMo.nd rfl (Or.inl rfl) (za7 zjm (zai (ixL (K:=K)) (pv 4) (za7 zaj (za7 zat (pv 2) za3) (zab (callLen (K:=K)) (by rfl) ml zav (za0 (pv 4) za4))) (fun _ _=>rfl)) za3))
  (za2 (za8 (i:=6) scMo.nd rfl (Or.inl rfl) (za7 zjm (zai (ixL (K:=K)) (pv 4) (za7 zaj (za7 zat (pv 2) za3) (zab (callLen (K:=K)) (by rfl) ml zav (za0 (pv 4) za4))) (fun _ _=>rfl)) za3))
  (za6 (zas (zac zd7 (za7 zaj (pv 2) za3) za3 (nomark _))
   (za2 (zam (za9 G2 hr1 (by rfl) m2 k2 b2 .nil pass0 (za0 (pv 0) (za0 (pv 1) (za0 (pv 5) (za0 (pv 3) za4))))))
   (za2 (zam (zap K PySem.F.plainAttrs_list PySem.F.slot_list_append PySem.F.type_list_append zal (pv 1) (za0 (zab (callLen (K:=K)) (by rfl) ml zav (za0 (pv 0) za4)) za4)))
   (za6 (zam (zap K PySem.F.plainAttrs_list PySem.F.slot_list_append PySem.F.type_list_append zal (pv 0) (za0 (zar (za0 (za7 zb1 (pv 3) za3) za4)) za4))))))
   (za6 (zas (zac zf1 (za7 zaj (pv 2) za3) za3 (nomark _))
    (za2 (zam (za9 G2 hr1 (by rfl) m2 k2 b2 .nil pass0 (za0 (pv 0) (za0 (pv 1) (za0 (pv 5) (za0 (pv 3) za4))))))
    (za6 (zam (za9 G2 hr1 (by rfl) m2 k2 b2 .nil pass0 (za0 (pv 0) (za0 (pv 1) (za0 (pv 6) (za0 (za7 zb1 (pv 3) za3) za4))))))))
    (za2 (za8 (i:=7) scMo.nd rfl (Or.inl rfl) (za7 zb1 za3 (za7 zcq za3 (za7 zaj (za7 zat (pv 2) za3) (za7 zd8 (za7 zat (pv 3) za3) za3)))))
    (za2 (za8 (i:=8) scMo.nd rfl (Or.inl rfl) (zai (ixL (K:=K)) (pv 0) (zai (ixL (K:=K)) (pv 1) (pv 7) (fun _ _=>rfl)) (fun _ _=>rfl)))
    (za2 (zfr (za7 zb1 (pv 3) za3) (zjg (pv 8) (zap K PySem.F.plainAttrs_list PySem.F.slot_list_index PySem.F.type_list_index zgr (pv 8) (za0 (pv 7) za4)) zej))
    (za2 (zam (zap K PySem.F.plainAttrs_list PySem.F.slot_list_append PySem.F.type_list_append zal (pv 1) (za0 (zab (callLen (K:=K)) (by rfl) ml zav (za0 (pv 0) za4)) za4)))
    (za2 (zam (zap K PySem.F.plainAttrs_list PySem.F.slot_list_append PySem.F.type_list_append zal (pv 1) (za0 (zai (ixL (K:=K)) (pv 1) (pv 7) (fun _ _=>rfl)) za4)))
    (za2 (zfr (zab (callLen (K:=K)) (by rfl) ml zav (za0 (pv 0) za4)) (zjg (pv 1) (pv 7) zej))
    (za6 (zam (zap K PySem.F.plainAttrs_list PySem.F.slot_list_append PySem.F.type_list_append zal (pv 0) (za0 (zar (za0 (pv 7) (za0 (pv 3) za4))) za4))))))))))))))))),?_⟩
 have ev:=g.ev;have n4:=g.n4;have PM:=g.turns.perm;have tsl:=g.tsl;have ln:(natV hs).length=hs.length:=List.length_map ..;have m4:(0:Int)<4:=by decide
 have mul2:∀x:Int,CMul 2 x:=fun x=>.inl ⟨by decide,by decide⟩
 have npos:(0:Int)<(hs.length:Int):=by omega
 refine⟨_,rfl,hA,_,rfl,.inl (SqL.of M.hh),?_⟩;rw[ln];have c0:InR hs.length (z / 4 % (hs.length:Int)):=⟨Int.emod_nonneg _ (Int.ne_of_gt npos),Int.emod_lt_of_pos _ npos⟩;refine⟨_,rfl,_,rfl,_,rfl,_,_,rfl,rfl,⟨by decide,by decide⟩,_,rfl,_,_,rfl,rfl,npos,T,hA,bs,ts,hs,_,rfl,M,g,by omega,c0,fun rp H1 s1 hrp=>?_⟩;have Rm:=zcp PM c0;have hreach:∀{a b:Int},a∈ring (nxt ts) (z / 4 % (hs.length:Int))->b∈ring (nxt ts) (z / 4 % (hs.length:Int))->InR hs.length a/\∃k,itn (nxt ts) k a=b:=fun ha hb=>⟨zgc PM c0 ha,zkg PM c0 ha hb⟩
 have M1:=M.keep s1;generalize ring (nxt ts) (z / 4 % (hs.length:Int))=R at hrp Rm hreach;have Rl:0<R.length:=List.length_pos_of_mem Rm;have Rl2:(0:Int)<(((R.map V.int).length:Nat):Int):=by rw[List.length_map]; omega
 obtain⟨a,am,ea⟩:=pick Rl (z / 120);obtain⟨b,bm,eb⟩:=pick Rl (z / 3600);obtain⟨aR,kb⟩:=hreach am bm;obtain⟨bR,_⟩:=hreach bm am;have oa:=zcd ev aR;have ob:=zcd ev bR;refine⟨_,rfl,_,rfl,_,_,rfl,rfl,⟨by decide,by decide⟩,_,rfl,rp,_,rfl,.inl (SqL.of hrp),_,_,rfl,rfl,Rl2,rp,_,_,_,rfl,rfl,SqL.of hrp,ea,_,_,rfl,rfl,?_⟩
 (try dsimp only)
 rw[xorI aR (by omega)];refine⟨_,rfl,_,rfl,_,_,rfl,rfl,⟨by decide,by decide⟩,_,rfl,rp,_,rfl,.inl (SqL.of hrp),_,_,rfl,rfl,Rl2,rp,_,_,_,rfl,rfl,SqL.of hrp,eb,_,_,rfl,rfl,?_⟩
 (try dsimp only)
 rw[xorI bR (by omega)];obtain⟨p,t,hp,hx,hm⟩:=g.at oa;obtain⟨t1,t2,rfl,nm⟩:=zet hx;have tl:=zg7 g hp;have pl:p<ts.length:=(List.getElem?_eq_some_iff.mp hp).1;have F1:Fr T hA bs H H1:=Fr.same s1;refine⟨_,rfl,_,_,rfl,rfl,m4,rfl,_,rfl,?_⟩;refine ite2 (fun _=>?_) (fun _=>?_)
 ·
  refine⟨_,rfl,_,rfl,_,rfl,_,rfl,T,hA,bs,ts,hs,oth a,(hs.length:Int),p,t1,t2,rfl,M1,by omega,oa.1,hm,hp,nm,by omega,fun H2 F2 M2=>?_⟩;have F12:=F1.trans F2;refine⟨_,rfl,.inl ⟨rfl,_,SqL.of M2.hh⟩,_,rfl,T,_,rfl,.inl (SqL.of M2.tm.h1),hA,_,_,rfl,rfl,M2.hh,by rw[List.length_map,List.length_append]; exact szl (by simp; omega),?_⟩;have el:(((bs.map V.ref).length:Nat):Int)=(ts.length:Int):=by rw[List.length_map,M.tm.rows.1]
  have e4:natV (hs++[p])++[V.int (((bs.map V.ref).length:Nat):Int)]=natV (hs++[p]++[ts.length]):=by rw[el]; simp[natV]
  rw[e4];have M3:=M2.homes (hs++[p]++[ts.length]);have F13:=F12.trans (Fr.up (T:=T) (h:=hA) (bs:=bs) (H:=H2) (x:=hA) (by simp) (.lst (natV (hs++[p]++[ts.length]))));generalize upd H2 hA (.lst (natV (hs++[p]++[ts.length])))=H3 at M3 F13;refine⟨_,rfl,.inl ⟨rfl,_,SqL.of M3.tm.h1⟩,_,rfl,_,_,rfl,rfl,by show 1<=sizeLine; decide,fun l hl=>?_⟩;have s4:=za5 hl (.lst [.int ((hs.length:Int)+1)]);refine⟨T,_,_,rfl,rfl,s4 _ _ M3.tm.h1,by rw[List.length_map,M.tm.rows.1]; exact szl (by omega),?_⟩;have fl:=F13.free M3 hl;have M4:=M3.more (u:=[(hs.length:Int)+1]) hl;refine q _ (bs++[l]) _ _ ((F13.trans (Fr.same s4)).trans (Fr.up (by simp) _)) (fun c hc=>?_) M4 (g.hung hp) (by simp);rcases List.mem_append.mp hc with w | w
  ·exact .inl w
  ·exact .inr (by rw[List.mem_singleton.mp w]; exact fl)
 refine⟨_,rfl,_,_,rfl,rfl,m4,_,_,rfl,rfl,_,rfl,?_⟩;refine ite2 (fun _=>?_) (fun _=>?_)
 ·
  refine⟨_,rfl,_,rfl,_,rfl,_,rfl,T,hA,bs,ts,hs,oth a,(hs.length:Int),p,t1,t2,rfl,M1,by omega,oa.1,hm,hp,nm,by omega,fun H2 F2 M2=>?_⟩;have F12:=F1.trans F2;obtain⟨p2,t',hp2,hx2,hm2⟩:=g.at ob;have gu:∃u,(ts.set p (t1++(hs.length:Int) :: oth a :: t2))[p2]?=some u/\oth b∈u/\u.length<=hs.length+1:=by
   by_cases e:p=p2
   ·subst e;refine⟨_,List.getElem?_set_self pl,?_,?_⟩
    ·rw[hp] at hp2;cases hp2;rcases List.mem_append.mp hx2 with w | w
     ·exact List.mem_append_left _ w
     ·exact List.mem_append_right _ (List.mem_cons_of_mem _ w)
    ·simp at tl ⊢; omega
   ·exact⟨t',by rw[List.getElem?_set_ne e]; exact hp2,hx2,by have:=zg7 g hp2; omega⟩
  obtain⟨u,hu,hxu,ul⟩:=gu;obtain⟨u1,u2,rfl,nu⟩:=zet hxu;have hm2':(hs++[p])[(oth b).toNat]?=some p2:=by rw[List.getElem?_append_left (List.getElem?_eq_some_iff.mp hm2).1]; exact hm2
  refine⟨_,rfl,_,rfl,_,rfl,_,rfl,_,_,rfl,rfl,T,hA,bs,_,_,oth b,(hs.length:Int)+1,p2,u1,u2,rfl,M2,by simp; omega,ob.1,hm2',hu,nu,by omega,fun H3 F3 M3=>?_⟩;exact q _ bs _ _ (F12.trans F3) (fun c hc=>.inl hc) M3 (g.chord aR kb hp hu) (by simp)
 ·
  have half:(0:Int)<(hs.length:Int) / 2-1:=by omega
  refine⟨_,rfl,_,_,rfl,rfl,⟨by decide,by decide⟩,_,rfl,_,_,rfl,rfl,⟨by decide,by decide⟩,_,_,rfl,rfl,_,_,rfl,rfl,half,_,_,rfl,rfl,mul2 _,_,_,rfl,rfl,?_⟩
  (try dsimp only)
  have d0:=Int.emod_nonneg (z / 4) (Int.ne_of_gt half);have d1:=Int.emod_lt_of_pos (z / 4) half;have er:∃r:Nat,1<=r/\3+2*(z / 4 % ((hs.length:Int) / 2-1))=2*(r:Int)+1:=⟨((z / 4 % ((hs.length:Int) / 2-1))+1).toNat,by omega,by omega⟩;have pR:InR hs.length (3+2*(z / 4 % ((hs.length:Int) / 2-1))):=⟨by omega,by omega⟩;generalize 3+2*(z / 4 % ((hs.length:Int) / 2-1))=pe at er pR;obtain⟨r,r1,er⟩:=er;obtain⟨pp,tt,hpp,px,pm⟩:=g.at pR;have ttl:=zg7 g hpp;have ppl:pp<ts.length:=(List.getElem?_eq_some_iff.mp hpp).1;obtain⟨bb,hbb,bbm,abb,hBB⟩:=zi9 M1.tm hpp;have ttn:=zqh g.nd (List.mem_of_getElem? hpp);have ixl:tt.idxOf pe<tt.length:=List.idxOf_lt_length_iff.mpr px;refine⟨_,rfl,_,rfl,_,rfl,hA,_,_,_,rfl,rfl,SqL.of M1.hh,zf5 pR.1 pm,T,_,_,_,rfl,rfl,SqL.of M1.tm.h1,abb,?_⟩;refine⟨_,rfl,_,_,rfl,rfl,_,rfl,_,rfl,.inl ⟨rfl,_,SqL.of hBB⟩,_,rfl,bb,tt,pe,rfl,rfl,hBB,px,by omega,bb,_,_,tt.idxOf pe,rfl,rfl,hBB,by rw[List.length_map]; exact zjv ixl,?_⟩;rw[show(tt.map V.int).set (tt.idxOf pe) (V.int ((hs.length:Int)+1))=(tt.map fun x=>if x=pe then (hs.length:Int)+1 else x).map V.int by rw[<-set_map ttn px,List.map_set]];have M2:=M1.turn (t:=tt.map fun x=>if x=pe then (hs.length:Int)+1 else x) hbb;have F2:=F1.trans (Fr.up (T:=T) (h:=hA) (bs:=bs) (H:=H1) (x:=bb) (by simp[bbm]) (.lst ((tt.map fun x=>if x=pe then (hs.length:Int)+1 else x).map V.int)));generalize upd H1 bb (.lst ((tt.map fun x=>if x=pe then (hs.length:Int)+1 else x).map V.int))=H2 at M2 F2;have el:(((bs.map V.ref).length:Nat):Int)=(ts.length:Int):=by rw[List.length_map,M.tm.rows.1]
  refine⟨_,rfl,.inl ⟨rfl,_,SqL.of M2.hh⟩,_,rfl,T,_,rfl,.inl (SqL.of M2.tm.h1),hA,_,_,rfl,rfl,M2.hh,by rw[List.length_map]; exact szl (by omega),?_⟩;rw[show natV hs++[V.int (((bs.map V.ref).length:Nat):Int)]=natV (hs++[ts.length]) by rw[el]; simp[natV]];have M3:=M2.homes (hs++[ts.length]);have F3:=F2.trans (Fr.up (T:=T) (h:=hA) (bs:=bs) (H:=H2) (x:=hA) (by simp) (.lst (natV (hs++[ts.length]))));generalize upd H2 hA (.lst (natV (hs++[ts.length])))=H3 at M3 F3;have pm3:(hs++[ts.length])[pe.toNat]?=some pp:=by rw[List.getElem?_append_left (List.getElem?_eq_some_iff.mp pm).1]; exact pm
  refine⟨_,rfl,.inl ⟨rfl,_,SqL.of M3.hh⟩,_,rfl,_,rfl,hA,_,_,_,rfl,rfl,SqL.of M3.hh,zf5 pR.1 pm3,hA,_,_,rfl,rfl,M3.hh,by rw[List.length_map]; exact szl (by simp; omega),?_⟩;rw[show natV (hs++[ts.length])++[V.int (pp:Int)]=natV (hs++[ts.length]++[pp]) by simp[natV]];have M4:=M3.homes (hs++[ts.length]++[pp]);have F4:=F3.trans (Fr.up (T:=T) (h:=hA) (bs:=bs) (H:=H3) (x:=hA) (by simp) (.lst (natV (hs++[ts.length]++[pp]))));generalize upd H3 hA (.lst (natV (hs++[ts.length]++[pp])))=H4 at M4 F4;have ixp:ixN (natV (hs++[ts.length]++[pp])).length pe=some pe.toNat:=by
   have:=zjv (n:=(natV (hs++[ts.length]++[pp])).length) (j:=pe.toNat) (by have:=pR.2; have:=pR.1; simp[natV]; omega)
   rwa [show((pe.toNat:Nat):Int)=pe by have:=pR.1; omega] at this
  refine⟨_,rfl,T,_,rfl,.inl (SqL.of M4.tm.h1),_,rfl,_,rfl,hA,_,_,pe.toNat,rfl,rfl,M4.hh,ixp,?_⟩;rw[show(natV (hs++[ts.length]++[pp])).set pe.toNat (V.int (((bs.map V.ref).length:Nat):Int))=natV ((hs++[ts.length]++[pp]).set pe.toNat ts.length) by rw[el]; unfold natV; rw[List.map_set]];have M5:=M4.homes ((hs++[ts.length]++[pp]).set pe.toNat ts.length);have F5:=F4.trans (Fr.up (T:=T) (h:=hA) (bs:=bs) (H:=H4) (x:=hA) (by simp) (.lst (natV ((hs++[ts.length]++[pp]).set pe.toNat ts.length))));generalize upd H4 hA (.lst (natV ((hs++[ts.length]++[pp]).set pe.toNat ts.length)))=H5 at M5 F5;refine⟨_,rfl,.inl ⟨rfl,_,SqL.of M5.tm.h1⟩,_,rfl,_,rfl,by show 2<=sizeLine; decide,fun l hl=>?_⟩;have s6:=za5 hl (.lst [.int pe,.int (hs.length:Int)]);refine⟨T,_,_,rfl,rfl,s6 _ _ M5.tm.h1,by rw[List.length_map,M.tm.rows.1]; exact szl (by omega),?_⟩;have fl:=F5.free M5 hl;have M6:=M5.more (u:=[pe,(hs.length:Int)]) hl;refine q _ (bs++[l]) _ _ ((F5.trans (Fr.same s6)).trans (Fr.up (by simp) _)) (fun c hc=>?_) M6 (g.part r1 er hpp px) (by simp);rcases List.mem_append.mp hc with w | w
  ·exact .inl w
  ·exact .inr (by rw[List.mem_singleton.mp w]; exact fl)
end
def rho(m:Nat)(x:Int):Int:=(x-2) % (2*(m:Int)+2)
theorem zdr{m:Nat}{x:Int}(h:InR (2*m+2) x)(h2:2<=x):rho m x=x-2:=by
 obtain⟨h0,h1⟩:=h;unfold rho;exact Int.emod_eq_of_lt (by omega) (by push_cast at h1; omega)
theorem zdq{m:Nat}{x:Int}(h:InR (2*m+2) x)(h2:x<2):rho m x=x+2*m:=by
 obtain⟨h0,h1⟩:=h;unfold rho
 have:(x-2) % (2*(m:Int)+2)=(x-2+(2*(m:Int)+2)) % (2*(m:Int)+2):=by rw[Int.add_emod_right]
 rw[this,Int.emod_eq_of_lt (by omega) (by omega)];omega
theorem zq8{m:Nat}{x:Int}(h:InR (2*m+2) x):InR (2*m+2) (rho m x):=by
 have:=h.1
 have:=h.2
 by_cases h2:2<=x
 ·rw[zdr h h2]; exact⟨by omega,by omega⟩
 ·rw[zdq h (by omega)]; exact⟨by omega,by push_cast; omega⟩
theorem zlk{m:Nat}{x y:Int}(hx:InR (2*m+2) x)(hy:InR (2*m+2) y)(e:rho m x=rho m y):x=y:=by
 obtain⟨x0,x1⟩:=hx;obtain⟨y0,y1⟩:=hy;push_cast at x1 y1;by_cases h2:2<=x <;> by_cases h3:2<=y
 ·rw[zdr ⟨x0,by push_cast; omega⟩ h2,zdr ⟨y0,by push_cast; omega⟩ h3] at e; omega
 ·rw[zdr ⟨x0,by push_cast; omega⟩ h2,zdq ⟨y0,by push_cast; omega⟩ (by omega)] at e; omega
 ·rw[zdq ⟨x0,by push_cast; omega⟩ (by omega),zdr ⟨y0,by push_cast; omega⟩ h3] at e; omega
 ·rw[zdq ⟨x0,by push_cast; omega⟩ (by omega),zdq ⟨y0,by push_cast; omega⟩ (by omega)] at e; omega
def sig(m:Nat)(x:Int):Int:=if x<2*m then x+2 else x-2*m
theorem zq5{m:Nat}{x:Int}(h:InR (2*m+2) x):InR (2*m+2) (sig m x)/\rho m (sig m x)=x:=by
 obtain⟨x0,x1⟩:=h;push_cast at x1;unfold sig;split
 ·have a:InR (2*m+2) (x+2):=⟨by omega,by push_cast; omega⟩;exact⟨a,by rw[zdr a (by omega)]; omega⟩
 ·have a:InR (2*m+2) (x-2*m):=⟨by omega,by push_cast; omega⟩;exact⟨a,by rw[zdq a (by omega)]; omega⟩
theorem zrp{m:Nat}{x:Int}(h:InR (2*m+2) x):oth (rho m x)=rho m (oth x):=by
 have ho:=zcd (n:=2*m+2) (by omega) h;have h0:=h.1;have h1:=h.2;by_cases h2:2<=x
 ·have h3:2<=oth x:=by unfold oth; split <;> omega
  rw[zdr h h2,zdr ho h3];unfold oth; split <;> split <;> omega
 ·have h3:oth x<2:=by unfold oth; split <;> omega
  rw[zdq h (by omega),zdq ho h3];unfold oth; split <;> split <;> omega
theorem zms:∀{rs:List Rope} {k:Nat} {r:Rope},rs[k]?=some r->(hm0 rs)[2*k]?=some r.1/\(hm0 rs)[2*k+1]?=some r.2.1
 | r0 :: rs,0,r,h=>by cases h; exact⟨rfl,rfl⟩
 | r0 :: rs,k+1,r,h=>by
  have:=zms (rs:=rs) (k:=k) (r:=r) (by simpa using h)
  rw[show 2*(k+1)=2*k+1+1 by omega];exact this
theorem gn_net {ts:List (List Int)} {hs:List Nat} {m:Nat} {rs:List Rope} (g:Gn ts hs) (hl:hs.length=2*m+2) (h14:m<=14) (hr:rs.length=m)
  (hk:∀(k:Nat) (r:Rope),rs[k]?=some r->hs[2*k+2]?=some r.1/\hs[2*k+3]?=some r.2.1/\EaseK r.2.2):NetW ts.length rs (ts.map fun t=>t.map (rho m)):=by
 have n4:=g.n4;have few:=g.few;have inx:∀x∈ts.flatten,InR (2*m+2) x:=fun x hx=>by have:=(g.mem x).mp hx; rwa [hl] at this
 have inj:∀x∈ts.flatten,∀y∈ts.flatten,rho m x=rho m y->x=y:=fun x hx y hy=>zlk (inx x hx) (inx y hy)
 obtain⟨nd',pm'⟩:=pr_map (ts:=ts) (ρ:=rho m) g.nd inj;have mem':∀x,x∈(ts.map fun t=>t.map (rho m)).flatten↔InR (2*m+2) x:=by
  intro x;rw[zdy,List.mem_map];constructor
  ·rintro⟨y,hy,rfl⟩;exact zq8 (inx y hy)
  ·intro hx;obtain⟨s1,s2⟩:=zq5 hx;exact⟨_,(g.mem _).mpr (by rw[hl]; exact s1),s2⟩
 have T:Turns (2*m+2) (ts.map fun t=>t.map (rho m)):=⟨nd',mem',by omega⟩;have home_lt:∀{j p:Nat},hs[j]?=some p->p<ts.length:=by
  intro j p h;have hj:=(List.getElem?_eq_some_iff.mp h).1;obtain⟨p',t,h1,_,h2⟩:=g.at (x:=(j:Int)) ⟨by omega,by omega⟩;rw[show((j:Int)).toNat=j by omega,h] at h2;cases h2;exact(List.getElem?_eq_some_iff.mp h1).1
 have hmd:∀j:Nat,j<2*m->(hm0 rs)[j]?=hs[j+2]?:=by
  intro j hj;have hk2:j / 2<rs.length:=by omega
  obtain⟨a1,a2⟩:=zms (List.getElem?_eq_getElem hk2);obtain⟨b1,b2,_⟩:=hk _ _ (List.getElem?_eq_getElem hk2);rcases Nat.mod_two_eq_zero_or_one j with e | e
  ·rw[show 2*(j / 2)=j by omega] at a1 b1;rw[a1,b1]
  ·rw[show 2*(j / 2)+1=j by omega] at a2;rw[show 2*(j / 2)+3=j+2 by omega] at b2;rw[a2,b2]
 refine⟨by omega,by omega,g.two,by omega,by rw[List.length_map],by rw[hr]; exact T,?_,?_,?_,?_,?_⟩
 ·intro t' ht';obtain⟨t,ht,rfl⟩:=List.mem_map.mp ht';intro z;exact g.ne t ht (by simpa using z)
 ·intro r hr';obtain⟨k,hk2,e⟩:=List.getElem_of_mem hr';obtain⟨b1,b2,b3⟩:=hk k r (by rw[List.getElem?_eq_getElem hk2,e]);exact⟨b3,home_lt b1,home_lt b2⟩
 ·intro p t' ht' x hx;rw[List.getElem?_map] at ht';cases e:ts[p]? with
  | none=>rw[e] at ht'; cases ht'
  | some t =>
   rw[e] at ht';cases ht';obtain⟨y,hy,rfl⟩:=List.mem_map.mp hx;have hm1:=g.home p t e y hy;have iy:=inx y (List.mem_flatten.mpr ⟨t,List.mem_of_getElem? e,hy⟩);have y0:=iy.1;have y1:=iy.2;have l0:(hm0 rs).length=2*m:=by rw[zdb,hr]
   unfold hm;by_cases h2:2<=y
   ·rw[zdr iy h2,List.getElem?_append_left (by rw[l0]; omega),hmd _ (by omega),show(y-2).toNat+2=y.toNat by omega];exact hm1
   ·rw[zdq iy (by omega),List.getElem?_append_right (by rw[l0]; omega),l0,show(y+2*(m:Int)).toNat-2*m=y.toNat by omega];obtain⟨lo0,lo1⟩:=g.lo
    have:y=0\/y=1:=by omega
    rcases this with rfl | rfl
    ·rw[show(0:Int).toNat=0 from rfl] at hm1 ⊢;rw[lo0] at hm1;exact hm1
    ·rw[show(1:Int).toNat=1 from rfl] at hm1 ⊢;rw[lo1] at hm1;exact hm1
 ·intro S h0 hS p hp;refine g.hang S h0 (fun k k1 p' q' e1 e2=>?_) p hp;have hj:=(List.getElem?_eq_some_iff.mp e1).1;have hk2:k-1<rs.length:=by omega
  obtain⟨b1,b2,_⟩:=hk _ _ (List.getElem?_eq_getElem hk2);rw[show 2*(k-1)+2=2*k by omega,e1] at b1;rw[show 2*(k-1)+3=2*k+1 by omega,e2] at b2;cases b1;cases b2;exact hS _ (List.getElem_mem hk2)
 ·obtain⟨R,C,eR⟩:=g.flat;rw[hl] at C eR;have C2:Cyc (nxt (ts.map fun t=>t.map (rho m))) (2*m+2) (R.map fun c=>c.map (rho m)):=by
   refine C.ren (σ:=sig m) (fun x hx=>zq8 hx) (fun x hx=>zq5 hx) (fun x y hx hy=>zlk hx hy) (fun x hx=>?_);have ho:=zcd (n:=2*m+2) (by omega) hx;rw[zb6,zrp hx,pm' _ ((g.mem _).mpr (by rw[hl]; exact ho)),zb6]
  have:=C2.count T.perm
  rw[List.length_map] at this;rw[hr,this];omega
theorem zl3{H:Hp}{l:Addr}{ys:List V}{o:HO}{gs:List Addr}{us:List (List Int)}(hl:H l=some (.lst ys))(h:At IntsT H gs us):At IntsT (upd H l o) gs us:=⟨h.1,fun i b x e1 e2=>by
 have:=h.2 i b x e1 e2
 unfold IntsT at this ⊢;rw[upd_ne (fun z=>by rw[z,hl] at this; cases this)];exact this⟩
theorem zo9{H:Hp}{b c:Addr}{ys:List V}{o:HO}{r:Rope}(hb:H b=some (.lst ys))(h:RopeR H c r):RopeR (upd H b o) c r:=by
 obtain⟨e,h1,h2⟩:=h;refine⟨e,by rw[upd_ne (fun z=>by rw[z,hb] at h1; cases h1)]; exact h1,?_⟩;unfold FrR at h2 ⊢;rw[upd_ne (fun z=>by rw[z,hb] at h2; cases h2)]; exact h2
theorem zhc{H:Hp}{b:Addr}{ys:List V}{o:HO}{cs:List Addr}{rs:List Rope}(hb:H b=some (.lst ys))(h:At RopeR H cs rs):At RopeR (upd H b o) cs rs:=⟨h.1,fun i c r e1 e2=>zo9 hb (h.2 i c r e1 e2)⟩
theorem GrM.far{H:Hp}{T h x:Addr}{bs:List Addr}{ts:List (List Int)}{hs:List Nat}{o:HO}(M:GrM H T h bs ts hs)(hx:x∉T :: h :: bs):GrM (upd H x o) T h bs ts hs:=by
 have n1:T≠x:=fun z=>hx (by simp[z])
 have n2:h≠x:=fun z=>hx (by simp[z])
 refine⟨⟨by rw[upd_ne n1]; exact M.tm.h1,⟨M.tm.rows.1,fun i b y e1 e2=>?_⟩,M.tm.nd⟩,by rw[upd_ne n2]; exact M.hh,M.hn⟩;show upd H x _ b=_;rw[upd_ne (fun z=>hx (by rw[<-z]; exact List.mem_cons_of_mem _ (List.mem_cons_of_mem _ (List.mem_of_getElem? e1))))];exact M.tm.rows.2 i b y e1 e2
theorem GrM.new{H:Hp}{T h x:Addr}{bs:List Addr}{ts:List (List Int)}{hs:List Nat}(M:GrM H T h bs ts hs)(hx:H x=none):x∉T :: h :: bs:=by
 intro m;rcases List.mem_cons.mp m with z | z
 ·rw[z,M.tm.h1] at hx; cases hx
 ·rcases List.mem_cons.mp z with z | z
  ·rw[z,M.hh] at hx; cases hx
  ·obtain⟨k,hk,ek⟩:=List.getElem_of_mem z;have hl2:k<ts.length:=by rw[<-M.tm.rows.1]; exact hk
   have:=M.tm.rows.2 k x ts[k] (by rw[List.getElem?_eq_getElem hk,ek]) (List.getElem?_eq_getElem hl2)
   unfold IntsL at this;rw[hx] at this; cases this
section
variable {P:Program} {w:World} {K:PySem.W.Frag} {mg:Str->Option Value} {base:Heap} {f g h f1 f2 f3 f4:Addr} {fd gd hd d1 d2 d3 d4:FuncData}
inductive SpGrownR(K:PySem.W.Frag)(vs:List V)(H:Hp)(Q:VK):Prop
 | mk (a:Addr) (ns:List Int) (st m:Nat) (h_0:vs=[.ref a,.int (st:Int),.int (m:Int)]) (h_1:ScA K H a ns) (h_2:st<=100) (h_3:1<=m) (h_4:m<=14) (h_5:∀p ra ta n rs ts H',Same H H'->H' p=some (.tup [.int ((n:Nat):Int),.ref ra,.ref ta])->TupR RopeR H' ra rs->TupR IntsT H' ta ts->NetW n rs ts->rs.length=m->(∀r∈rs,EaseS r.2.2)->Q (.ref p) H'):SpGrownR K vs H Q
def spGrown(K:PySem.W.Frag):Sp:=fun vs H Q _=>SpGrownR K vs H Q
theorem scGr:FnScope ["_law_script","_law_start","_law_many","_law_turns","_law_homes","_law_k","_law_ropes","_law_ease_here","_law_renamed","_law_turn"] ["_law_script","_law_start","_law_many"] (defScope zbv):=⟨rfl,rfl,rfl,by decide +kernel,rfl,by decide +kernel,by decide +kernel⟩
theorem ndEM:(["_law_end","_law_many"]:List Str).Nodup:=by decide +kernel
set_option maxHeartbeats 1000000 in
seal L2.PSs L2.PS L2.PE L2.PA in
theorem zp0 (F:Fun K "_law_grown" "_law_grown" zbv f fd) (G1:FnOk P w K mg base CX0 3 f1 d1 ["_law_turns","_law_homes","_law_cell"] spMore) (b1:Binds K d1 ["_law_turns","_law_homes","_law_cell"] []) (k1:PySem.W.keepIn K (.ref f1)=true) (m1:mg "_law_one_more" = some (.ref f1))
  (G2:FnOk P w K mg base CX0 2 f2 d2 ["_law_script","_law_k"] (spDrawn K)) (b2:Binds K d2 ["_law_script","_law_k"] []) (k2:PySem.W.keepIn K (.ref f2)=true) (m2:mg "_law_drawn" = some (.ref f2))
  (G3:FnOk P w K mg base CX0 3 f3 d3 ["_law_cell"] spLEase) (b3:Binds K d3 ["_law_cell"] []) (k3:PySem.W.keepIn K (.ref f3)=true) (m3:mg "_law_ease" = some (.ref f3)) (ml:mg "len" = none) (mr:mg "range" = none) (mt:mg "tuple" = none) :
  FnOk P w K mg base CX0 4 f fd ["_law_script","_law_start","_law_many"] (spGrown K):=by
 refine F.ok scGr (fun vs H Q E h=>?_) (fun cdv A outer s H vs Q E hr h=>?_)
 ·obtain⟨a,ns,st,m,rfl,_⟩:=h;rfl
 obtain⟨a,ns,st,m,rfl,hS,hst,m1',m14,q⟩:=h;have hr2:=hr.mono (show 2<=3 by decide);refine⟨_,za2 (za8 (i:=3) scGr.nd rfl (Or.inl rfl) (zar (za0 (zar (za0 za3 (za0 za3 za4))) (za0 (zar (za0 za3 (za0 za3 za4))) za4))))
  (za2 (za8 (i:=4) scGr.nd rfl (Or.inl rfl) (zar (za0 za3 (za0 za3 (za0 za3 (za0 za3 za4))))))
  (za2 (zbs PassesOwn.never rfl (zc7 (by rfl) mr (za0 (za7 zd8 (pv 2) za3) za4)) (zae (i:=5) scGr.nd rfl (Or.inl rfl))
   (za6 (zam (za9 G1 hr (by rfl) m1 k1 b1 .nil pass0 (za0 (pv 3) (za0 (pv 4) (za0 (za9 G2 hr2 (by rfl) m2 k2 b2 .nil pass0 (za0 (pv 0) (za0 (za7 zb1 (pv 1) (pv 5)) za4))) za4)))))))
  (za2 (za8 (i:=6) scGr.nd rfl (Or.inl rfl) (zar za4))
  (za2 (zbs PassesOwn.never rfl (zc7 (by rfl) mr (za0 (pv 2) za4)) (zae (i:=5) scGr.nd rfl (Or.inl rfl))
   (za2 (za8 (i:=7) scGr.nd rfl (Or.inl rfl) (za9 G3 hr (by rfl) m3 k3 b3 .nil pass0 (za0 (za9 G2 hr2 (by rfl) m2 k2 b2 .nil pass0 (za0 (pv 0) (za0 (za7 zb1 (za7 zb1 (pv 1) (pv 2)) (pv 5)) za4))) za4)))
   (za6 (zam (zap K PySem.F.plainAttrs_list PySem.F.slot_list_append PySem.F.type_list_append zal (pv 6) (za0 (zb3 (za0 (zai (ixL (K:=K)) (pv 4) (za7 zb1 (za7 zcq za3 (pv 5)) za3) (fun _ _=>rfl)) (za0 (zai (ixL (K:=K)) (pv 4) (za7 zb1 (za7 zcq za3 (pv 5)) za3) (fun _ _=>rfl)) (za0 (pv 7) za4)))) za4))))))
  (za2 (za8 (i:=8) scGr.nd rfl (Or.inl rfl) (zar za4))
  (za2 (zbs PassesOwn.never rfl (piLst (K:=K) (pv 3)) (zae (i:=9) scGr.nd rfl (Or.inl rfl))
   (za6 (zam (zap K PySem.F.plainAttrs_list PySem.F.slot_list_append PySem.F.type_list_append zal (pv 8) (za0 (zak (callTup (K:=K)) (by rfl) mt zc0 (za0 (zgj (Nc:=["_law_end","_law_many"]) (cap:=[(1,2)]) (g:=gName 0)
    (te:=tOp (rI (fun _ j=>0<j) fun i j=>.int (i % j)) (tOp (rI0 fun i j=>.int (i-j)) (tVar 0) (tC (.int 2))) (tOp (rI0 fun i j=>.int (i+j)) (tOp (rI CMul fun i j=>.int (i*j)) (tC (.int 2)) (tVar 1)) (tC (.int 2)))) rfl (piLst (K:=K) (pv 9))
    (zd0 rfl rfl (by decide +kernel) (by decide +kernel) (List.forall_mem_cons.mpr ⟨⟨rfl,rfl⟩,List.forall_mem_nil _⟩) rfl (List.forall_mem_cons.mpr ⟨⟨_,_,rfl,rfl,rfl,rfl,rfl⟩,List.forall_mem_nil _⟩)) (fun C fp pins s' H'=>zae (i:=0) ndEM rfl (Or.inl rfl))
    (fun C fp pins s' H'=>za7 zaj (za7 zd8 (pv 0) za3) (za7 zb1 (za7 zcq za3 (pv 1)) za3))) za4)) za4)))))
  (za6 (zag (zb3 (za0 (zab (callLen (K:=K)) (by rfl) ml zav (za0 (pv 3) za4)) (za0 (zak (callTup (K:=K)) (by rfl) mt zc0 (za0 (pv 6) za4)) (za0 (zak (callTup (K:=K)) (by rfl) mt zc0 (za0 (pv 8) za4)) za4)))))))))))),?_⟩
 refine⟨by show 2<=sizeLine; decide,fun l1 h1=>⟨by show 2<=sizeLine; decide,fun l2 h2=>⟨by show 2<=sizeLine; decide,fun T hT=>⟨by show 4<=sizeLine; decide,fun hA hh=>?_⟩⟩⟩⟩;have sa:=za5 h1 (.lst [.int 0,.int 2]);have ea:(upd H l1 (.lst [.int 0,.int 2])) l1=some (.lst [.int 0,.int 2]):=za1;generalize upd H l1 (.lst [.int 0,.int 2])=Ha at sa ea h2 hT hh;have sb:=za5 h2 (.lst [.int 1,.int 3]);have eb:(upd Ha l2 (.lst [.int 1,.int 3])) l2=some (.lst [.int 1,.int 3]):=za1;generalize upd Ha l2 (.lst [.int 1,.int 3])=Hb at sb eb hT hh;have sc:=za5 hT (.lst [.ref l1,.ref l2]);have ec:(upd Hb T (.lst [.ref l1,.ref l2])) T=some (.lst [.ref l1,.ref l2]):=za1;generalize upd Hb T (.lst [.ref l1,.ref l2])=Hc at sc ec hh;have sd:=za5 hh (.lst [.int 0,.int 1,.int 0,.int 1]);have ed:(upd Hc hA (.lst [.int 0,.int 1,.int 0,.int 1])) hA=some (.lst [.int 0,.int 1,.int 0,.int 1]):=za1;generalize upd Hc hA (.lst [.int 0,.int 1,.int 0,.int 1])=Hd at sd ed;have n12:l1≠l2:=ne_of_none ea h2;have n1T:l1≠T:=ne_of_none (sb _ _ ea) hT;have n2T:l2≠T:=ne_of_none eb hT;have n1h:l1≠hA:=ne_of_none (sc _ _ (sb _ _ ea)) hh;have n2h:l2≠hA:=ne_of_none (sc _ _ eb) hh;have nTh:T≠hA:=ne_of_none ec hh;have sab:=sa.trans sb;have sabc:=sab.trans sc;have s0:=sabc.trans sd;have M0:GrM Hd T hA [l1,l2] [[0,2],[1,3]] [0,1,0,1]:=by
  refine⟨⟨sd _ _ ec,⟨rfl,fun i b x e1 e2=>?_⟩,?_⟩,ed,?_⟩
  ·match i,e1,e2 with
   | 0,e1,e2=>cases e1; cases e2; exact sd _ _ (sc _ _ (sb _ _ ea))
   | 1,e1,e2=>cases e1; cases e2; exact sd _ _ (sc _ _ eb)
  ·simp[n12,Ne.symm n1T,Ne.symm n2T]
  ·simp[Ne.symm nTh,Ne.symm n1h,Ne.symm n2h]
 have fr0:∀b∈T :: hA :: [l1,l2],H b=none:=by
  intro b hb;simp at hb;rcases hb with rfl | rfl | rfl | rfl
  ·exact sab.free hT
  ·exact sabc.free hh
  ·exact h1
  ·exact sa.free h2
 refine⟨_,rfl,_,_,rfl,rfl,((m:Int)-1),rfl,by omega,by omega,?_⟩;rw[show((m:Int)-1).toNat=m-1 by omega];refine zcs (n:=m-1) (fun i σ H2=>∃u bs ts hs,σ=[some (.ref a),some (.int (st:Int)),some (.int (m:Int)),some (.ref T),some (.ref hA),u,none,none,none,none]/\Same H H2/\(∀b∈T :: hA :: bs,H b=none)/\GrM H2 T hA bs ts hs/\Gn ts hs/\hs.length=4+2*i)
  ⟨none,[l1,l2],[[0,2],[1,3]],[0,1,0,1],rfl,s0,fr0,M0,Gn.first,rfl⟩ ?_ ?_
 ·rintro i σ H2 hi ⟨u,bs,ts,hs,rfl,s2,fr,M,g,hl⟩;refine⟨_,rfl,_,rfl,_,rfl,_,rfl,_,rfl,_,_,rfl,rfl,a,ns,_,rfl,⟨s2.seq hS.1,hS.2⟩,by omega,by omega,fun z H3 s3 dz=>?_⟩;refine⟨T,hA,bs,ts,hs,z,rfl,M.keep s3,g,by omega,dz.1,fun H4 bs' ts' hs' F4 fb M4 g4 l4=>?_⟩;have s23:=s2.trans s3;refine⟨_,bs',ts',hs',rfl,fun b o e=>F4 b o (fun hb=>by rw[fr b hb] at e; cases e) (s23 b o e),fun b hb=>?_,M4,g4,by omega⟩;rcases List.mem_cons.mp hb with w | w
  ·exact fr b (by simp[w])
  ·rcases List.mem_cons.mp w with w | w
   ·exact fr b (by simp[w])
   ·rcases fb b w with y | y
    ·exact fr b (by simp[y])
    ·exact s23.free y
 rintro σ H2 ⟨u,bs,ts,hs,rfl,s2,fr,M,g,hl⟩;have hl':hs.length=2*m+2:=by omega
 clear hl;have mul2:∀x:Int,CMul 2 x:=fun x=>.inl ⟨by decide,by decide⟩
 refine⟨by show 0<=sizeLine; decide,fun R hR=>?_⟩;have sR:=za5 hR (.lst []);have eR:(upd H2 R (.lst [])) R=some (.lst []):=za1;have RN:=M.new hR;have MR:=M.keep sR;generalize upd H2 R (.lst [])=H3 at sR eR MR;have s3:=s2.trans sR;have fR:H R=none:=s2.free hR;refine⟨_,rfl,(m:Int),rfl,by omega,by omega,?_⟩;rw[show(m:Int).toNat=m by omega];refine zcs (n:=m) (fun i σ H4=>∃u v cs rs,σ=[some (.ref a),some (.int (st:Int)),some (.int (m:Int)),some (.ref T),some (.ref hA),u,some (.ref R),v,none,none]/\Same H H4/\GrM H4 T hA bs ts hs/\H4 R=some (.lst (cs.map V.ref))/\At RopeR H4 cs rs/\rs.length=i /\
   ∀(k:Nat) (r:Rope),rs[k]?=some r->hs[2*k+2]?=some r.1/\hs[2*k+3]?=some r.2.1/\EaseS r.2.2)
  ⟨u,none,[],[],rfl,s3,MR,eR,At.nil,rfl,by simp⟩ ?_ ?_
 ·rintro i σ H4 hi ⟨u1,u2,cs,rs,rfl,s4,M4,e4,r4,l4,hk⟩;refine⟨_,rfl,_,rfl,_,rfl,_,_,rfl,rfl,_,rfl,_,_,rfl,rfl,a,ns,_,rfl,⟨s4.seq hS.1,hS.2⟩,by omega,by omega,fun z H5 s5 dz=>?_⟩;refine⟨z,rfl,dz.1,fun e H6 qq s6 he ek=>?_⟩;have s46:=s5.trans s6;have M6:=M4.keep s46;have hi1:2*i+2<hs.length:=by omega
  have hi2:2*i+3<hs.length:=by omega
  have a1:atI (natV hs) (2*((0:Int)+(i:Nat))+2)=some (.int ((hs[2*i+2]:Nat):Int)):=by
   have:=zma (List.getElem?_eq_getElem hi1)
   rwa [show((2*i+2:Nat):Int)=2*((0:Int)+(i:Nat))+2 by omega] at this
  have a2:atI (natV hs) (2*((0:Int)+(i:Nat))+3)=some (.int ((hs[2*i+3]:Nat):Int)):=by
   have:=zma (List.getElem?_eq_getElem hi2)
   rwa [show((2*i+3:Nat):Int)=2*((0:Int)+(i:Nat))+3 by omega] at this
  refine⟨_,rfl,.inl ⟨rfl,_,SqL.of (s46 _ _ e4)⟩,_,rfl,_,rfl,_,_,rfl,rfl,mul2 _,_,_,rfl,rfl,hA,_,_,_,rfl,rfl,SqL.of M6.hh,a1,_,rfl,_,rfl,_,_,rfl,rfl,mul2 _,_,_,rfl,rfl,hA,_,_,_,rfl,rfl,SqL.of M6.hh,a2,_,rfl,by show 3<=sizeLine; decide,fun p hp=>?_⟩;have sp:=za5 hp (.tup [.int ((hs[2*i+2]:Nat):Int),.int ((hs[2*i+3]:Nat):Int),.ref e]);have ep:(upd H6 p (.tup [.int ((hs[2*i+2]:Nat):Int),.int ((hs[2*i+3]:Nat):Int),.ref e])) p=some (.tup [.int ((hs[2*i+2]:Nat):Int),.int ((hs[2*i+3]:Nat):Int),.ref e]):=za1;have s47:=s46.trans sp;have M7:=M6.keep sp;have he7:=mo_fr sp he;refine⟨R,_,_,rfl,rfl,s47 _ _ e4,by rw[List.length_map,r4.1]; exact szl (by omega),?_⟩;generalize upd H6 p (.tup [.int ((hs[2*i+2]:Nat):Int),.int ((hs[2*i+3]:Nat):Int),.ref e])=H7 at ep s47 M7 he7;refine⟨_,_,cs++[p],rs++[(hs[2*i+2],hs[2*i+3],qq)],rfl,(s4.trans s47).up fR _,M7.far RN,by rw[za1]; simp,?_,by simp[l4],?_⟩
  ·exact zhc (s47 _ _ e4) ((r4.keep zf8 s47).snoc ⟨e,ep,he7⟩)
  ·intro k r hkr;rcases Nat.lt_or_ge k rs.length with w | w
   ·rw[List.getElem?_append_left w] at hkr;exact hk k r hkr
   ·have hk2:k<rs.length+1:=by have:=(List.getElem?_eq_some_iff.mp hkr).1; simpa using this
    have:k=i:=by omega
    subst this;rw[List.getElem?_append_right w,l4,Nat.sub_self] at hkr;cases hkr;exact⟨List.getElem?_eq_getElem hi1,List.getElem?_eq_getElem hi2,ek⟩
 rintro σ H4 ⟨u1,u2,cs,rs,rfl,s4,M4,e4,r4,l4,hk⟩;have N:=gn_net g hl' m14 l4 fun k r e=>⟨(hk k r e).1,(hk k r e).2.1,(hk k r e).2.2.k⟩
 have es:∀r∈rs,EaseS r.2.2:=fun r hr=>by
  obtain⟨k,e⟩:=List.mem_iff_getElem?.mp hr;exact(hk k r e).2.2
 refine⟨by show 0<=sizeLine; decide,fun W hW=>?_⟩;have sW:=za5 hW (.lst []);have eW:(upd H4 W (.lst [])) W=some (.lst []):=za1;have WN:=M4.new hW;have MW:=M4.keep sW;have WR:R≠W:=ne_of_none e4 hW;have rW:=r4.keep zf8 sW;have eR2:=sW _ _ e4;generalize upd H4 W (.lst [])=H5 at sW eW MW rW eR2;have s5:=s4.trans sW;have fW:H W=none:=s4.free hW;have lbs:bs.length=ts.length:=M.tm.rows.1;refine⟨_,rfl,T,rfl,⟨_,SqL.of MW.tm.h1⟩,?_⟩;refine zpl (xs:=bs.map V.ref) (fun i σ H6=>∃u gs,σ=[some (.ref a),some (.int (st:Int)),some (.int (m:Int)),some (.ref T),some (.ref hA),u1,some (.ref R),u2,some (.ref W),u]/\Same H H6/\GrM H6 T hA bs ts hs/\H6 R=some (.lst (cs.map V.ref))/\At RopeR H6 cs rs/\H6 W=some (.lst (gs.map V.ref))/\At IntsT H6 gs ((ts.map fun t=>t.map (rho m)).take i))
  ⟨none,[],rfl,s5,MW,eR2,rW,eW,At.nil⟩ (fun i σ H6 _ ⟨_,_,_,_,M6,_⟩=>SqL.of M6.tm.h1) ?_ ?_
 ·rintro i x σ H6 hx ⟨u,gs,rfl,s6,M6,eR6,r6,eW6,a6⟩;obtain⟨b,t,rfl,hb,hy,hB⟩:=M6.tm.rows.ref hx;have tl:=zg7 g hy;have hi:i<ts.length:=(List.getElem?_eq_some_iff.mp hy).1;have tsl:=g.tsl;refine⟨_,rfl,.inl ⟨rfl,_,SqL.of eW6⟩,_,rfl,b,rfl,⟨_,SqL.of hB⟩,fun acc hacc=>?_⟩;refine zc1 (zek hB) (by rw[List.length_map]; omega) hacc (fun j ys σ hp=>ys=((t.map (rho m)).take j).map V.int/\∃u,σ=[u,some (.int (m:Int))]) ⟨rfl,none,rfl⟩ ?_ ?_
  ·rintro j ys σ H7 x H8 hj sm hacc2 ⟨rfl,u,rfl⟩ ⟨rfl,hx⟩ Cc hC;obtain⟨e,rfl,he⟩:=zfe hx;refine⟨_,rfl,_,_,rfl,rfl,_,rfl,_,_,rfl,rfl,mul2 _,_,_,rfl,rfl,_,_,rfl,rfl,by omega,?_⟩;refine hC _ _ _ (Same.refl _) ⟨?_,_,rfl⟩;have ee:(t.map (rho m))[j]?=some (rho m e):=by rw[List.getElem?_map,he]; rfl
   rw[zau ee,List.map_append];rfl
  ·rintro ys σ H7 s7 ha7 _ ⟨rfl,u,rfl⟩;rw[List.length_map,List.take_of_length_le (by rw[List.length_map]; exact Nat.le_refl _)] at ha7;refine⟨acc,_,rfl,.inl ⟨SqL.of ha7,fun p hp=>?_⟩⟩;have sp:=za5 hp (.tup ((t.map (rho m)).map V.int));have ep:IntsT (upd H7 p (.tup ((t.map (rho m)).map V.int))) p (t.map (rho m)):=za1;have s67:=s7.trans sp;refine⟨W,_,_,rfl,rfl,s67 _ _ eW6,by rw[List.length_map,a6.1,List.length_take]; exact szl (by omega),?_⟩;generalize upd H7 p (.tup ((t.map (rho m)).map V.int))=H8 at ep s67;have ec:(ts.map fun t=>t.map (rho m))[i]?=some (t.map (rho m)):=by rw[List.getElem?_map,hy]; rfl
   refine⟨_,gs++[p],rfl,(s6.trans s67).up fW _,(M6.keep s67).far WN,by rw[upd_ne WR]; exact s67 _ _ eR6,zhc (s67 _ _ eW6) (r6.keep zf8 s67),by rw[za1]; simp,?_⟩;rw[zau ec];exact zl3 (s67 _ _ eW6) ((a6.keep zbr s67).snoc ep)
 ·rintro σ H6 ⟨u,gs,rfl,s6,M6,eR6,r6,eW6,a6⟩;rw[List.length_map,lbs,List.take_of_length_le (by rw[List.length_map]; exact Nat.le_refl _)] at a6;refine⟨_,rfl,T,_,rfl,.inl (SqL.of M6.tm.h1),_,rfl,R,_,rfl,.inl ⟨SqL.of eR6,fun p1 hp1=>?_⟩⟩;have s7:=za5 hp1 (.tup (cs.map V.ref));have e7:(upd H6 p1 (.tup (cs.map V.ref))) p1=some (.tup (cs.map V.ref)):=za1;have eW7:=s7 _ _ eW6;generalize upd H6 p1 (.tup (cs.map V.ref))=H7 at s7 e7 eW7;refine⟨_,rfl,W,_,rfl,.inl ⟨SqL.of eW7,fun p2 hp2=>?_⟩⟩;have s8:=za5 hp2 (.tup (gs.map V.ref));have e8:(upd H7 p2 (.tup (gs.map V.ref))) p2=some (.tup (gs.map V.ref)):=za1;generalize upd H7 p2 (.tup (gs.map V.ref))=H8 at s8 e8;refine⟨by show 3<=sizeLine; decide,fun p hp=>?_⟩;have s9:=za5 hp (.tup [.int (((bs.map V.ref).length:Nat):Int),.ref p1,.ref p2]);have el:(((bs.map V.ref).length:Nat):Int)=((ts.length:Nat):Int):=by rw[List.length_map,lbs]
  refine q p p1 p2 ts.length rs _ _ (s6.trans (s7.trans (s8.trans s9))) ?_ ⟨cs,s9 _ _ (s8 _ _ e7),r6.keep zf8 (s7.trans (s8.trans s9))⟩ ⟨gs,s9 _ _ e8,a6.keep zbr (s7.trans (s8.trans s9))⟩ N l4 es;rw[za1,el]
end
theorem ze1{H1 H2:Hp}{e:Addr}{o1:HO}(he:H1 e=none)(k:∀b o,b≠e->(upd H1 e o1) b=some o->H2 b=some o):Same H1 (del H2 e):=fun b o q=>by
 have ne:b≠e:=ne_of_none q he;rw[zdh ne];exact k b o ne (by rw[upd_ne ne]; exact q)
abbrev bmV:List Value:=[.type "ValueError",.type "Exception",.type "BaseException",.type "object"]
def Rch(rs:List Rope)(p:Nat):Prop:=∀S:Nat->Prop,S 0->(∀r∈rs,(S r.1↔S r.2.1))->S p
theorem zri{n:Nat}{rs:List Rope}{l:List Int}(k:LedK n 0 rs l)(cl:∀r∈rs,((r.1:Int)∈l↔(r.2.1:Int)∈l))(p:Nat):(p:Int)∈l↔Rch rs p:=by
 constructor
 ·intro h S h0 hc
  have:=k.least (fun x=>S x.toNat) h0 (fun r hr=>by show S ((r.1:Int)).toNat↔S ((r.2.1:Int)).toNat; simpa using hc r hr) _ h
  simpa using this
 ·intro h;exact h (fun q=>(q:Int)∈l) k.st cl
def EzOk(t b:Int):Prop:=1<=t/\t<10 ^ 40/\1<=b/\b<10 ^ 40/\Int.gcd t b=1
instance (t b:Int):Decidable (EzOk t b):=by unfold EzOk; exact inferInstance
section
variable {P:Program} {w:World} {K:PySem.W.Frag} {mg:Str->Option Value} {base:Heap} {f g h f1 f2 f3 f4 f5 fI CR CL:Addr} {fd gd hd d1 d2 d3 d4 d5 dI:FuncData}
def spNRin(C:Addr):Sp:=fun vs H Q _=>∃(e t:Addr) (r y:V),vs=[.ref e,r,y]/\H e=some (excN e C t)/\∀d H',H d=none->H' e=some (excF e C t d)->H' d=some (.xd [("word",y),("rope",r)])->(∀b o,b≠e->H b=some o->H' b=some o)->Q .non H'
theorem scNRi:FnScope ["self","rope","word"] ["self","rope","word"] (defScope sNRInit):=⟨rfl,rfl,rfl,by decide +kernel,rfl,by decide +kernel,by decide +kernel⟩
theorem zry(F:Fun K "__init__" "NoRope.__init__" sNRInit f fd)(x1:XStore K CR "rope")(x2:XStore K CR "word"):FnOk P w K mg base CX0 1 f fd ["self","rope","word"] (spNRin CR):=by
 refine F.ok scNRi (fun vs H Q E h=>?_) (fun cdv A outer s H vs Q E hr h=>?_)
 ·obtain⟨e,t,r,y,rfl,_⟩:=h;rfl
 obtain⟨e,t,r,y,rfl,he,q⟩:=h;refine⟨_,za2 (ze2 (pv 0) (pv 1) rfl) (za6 (zoj (g:="rope") (pv 0) (pv 2) rfl)),?_⟩;refine⟨_,rfl,_,rfl,e,CR,t,rfl,he,x1,fun d hd=>?_⟩;have ed:e≠d:=ne_of_none he hd;refine⟨_,rfl,_,rfl,e,CR,t,d,r,rfl,?_,za1,x2,q d _ hd ?_ za1 fun b o n e'=>?_⟩
 ·rw[upd_ne ed,za1]
 ·rw[upd_ne ed,upd_ne ed,za1]
 ·have nd:=ne_of_none e' hd;rw[upd_ne nd,upd_ne nd,upd_ne n];exact e'
def spLoin(C:Addr):Sp:=fun vs H Q _=>∃(e t:Addr) (y:V),vs=[.ref e,y]/\H e=some (excN e C t)/\∀d H',H d=none->H' e=some (excF e C t d)->H' d=some (.xd [("place",y)])->(∀b o,b≠e->H b=some o->H' b=some o)->Q .non H'
theorem scLoi:FnScope ["self","place"] ["self","place"] (defScope sLoInit):=⟨rfl,rfl,rfl,by decide +kernel,rfl,by decide +kernel,by decide +kernel⟩
theorem zs4(F:Fun K "__init__" "Loose.__init__" sLoInit f fd)(x1:XStore K CL "place"):FnOk P w K mg base CX0 1 f fd ["self","place"] (spLoin CL):=by
 refine F.ok scLoi (fun vs H Q E h=>?_) (fun cdv A outer s H vs Q E hr h=>?_)
 ·obtain⟨e,t,y,rfl,_⟩:=h;rfl
 obtain⟨e,t,y,rfl,he,q⟩:=h;refine⟨_,za6 (ze2 (pv 0) (pv 1) rfl),?_⟩;refine⟨_,rfl,_,rfl,e,CL,t,rfl,he,x1,fun d hd=>?_⟩;have ed:e≠d:=ne_of_none he hd;refine q d _ hd ?_ za1 fun b o n e'=>?_
 ·rw[upd_ne ed,za1]
 ·rw[upd_ne (ne_of_none e' hd),upd_ne n];exact e'
def NRo(CR:Addr)(H:Hp)(E:XK)(k:Int)(word:Str):Prop:=∀d H',Same H H'->H' d=some (.xd [("word",.str word),("rope",.int k)])->E (.ref CR) (some d) H'
inductive SpHgR(CL:Addr)(vs:List V)(H:Hp)(Q:VK)(E:XK):Prop
 | mk (n:Nat) (a:Addr) (rs:List Rope) (h_0:vs=[.int (n:Int),.ref a]) (h_1:0<n) (h_2:n<=100) (h_3:TupR RopeR H a rs) (h_4:(∀r∈rs,r.1<n/\r.2.1<n)) (h_5:(∀p,p<n->Rch rs p)->∀H',Same H H'->Q .non H') (h_6:∀p d H',p<n->¬Rch rs p->(∀j,j<p->Rch rs j)->Same H H'->H' d=some (.xd [("place",.int (p:Int))])->E (.ref CL) (some d) H'):SpHgR CL vs H Q E
def spHg(CL:Addr):Sp:=fun vs H Q E=>SpHgR CL vs H Q E
theorem ok_hg (F:Fun K "check_hanging" "check_hanging" zaz f fd) (G:FnOk P w K mg base CX0 1 g gd ["start","ropes"] spLed) (bG:Binds K gd ["start","ropes"] []) (kG:PySem.W.keepIn K (.ref g)=true) (mG:mg "led_to" = some (.ref g)) (mr:mg "range" = none)
  (GI:FnOk P w K mg base CX0 1 fI dI ["self","place"] (spLoin CL)) (bI:Binds K dI ["self","place"] []) (iI:PySem.W.isFn K (.ref fI)=true) (mC:mg "Loose" = some (.ref CL)) (xC:excI K CL bmV "ValueError.__new__" fI=true):FnOk P w K mg base (CXr P w) 3 f fd ["places","ropes"] (spHg CL):=by
 refine okX F scHa (fun vs H Q E h=>?_) (fun cdv A outer s H vs Q E hr h=>?_)
 ·obtain⟨n,a,rs,rfl,_⟩:=h;rfl
 obtain⟨n,a,rs,rfl,n0,hn,hT,hrs,q,qE⟩:=h;have hu:=zkx hr;refine⟨_,za2 (za8 (i:=2) scHa.nd rfl (Or.inl rfl) (za9 G (hr.mono (by decide)) (by rfl) mG kG bG .nil pass0 (za0 za3 (za0 (pv 1) za4))))
  (za6 (zbs PassesOwn.leaving rfl (zc7 (by rfl) mr (za0 (pv 0) za4)) (zae (i:=3) scHa.nd rfl (Or.inl rfl))
   (za6 (zas (zjf (zhh hu (pv 3) (pv 2))) (za6 (zb0 (by rfl) mC xC PySem.F.excBase_ValueError rfl zao GI (hr.mono (by decide)) bI iI (za0 (pv 3) za4))) zad)))),?_⟩
 refine⟨_,rfl,0,a,n,rs,rfl,⟨by omega,by omega⟩,hn,hT,hrs,fun d l H1 s1 hd k cl=>?_⟩;have rc:=zri k cl;refine⟨_,rfl,(n:Int),rfl,by omega,by omega,?_⟩;rw[show((n:Int)).toNat=n by omega];refine zcs (n:=n) (fun i σ H2=>H2=H1/\(∃u,σ=[some (.int n),some (.ref a),some (.ref d),u])/\∀j,j<i->Rch rs j) ⟨rfl,⟨none,rfl⟩,fun j h=>by omega⟩ ?_ ?_
 ·rintro i σ H2 hi ⟨rfl,⟨u,rfl⟩,hj⟩;refine⟨_,rfl,_,rfl,d,_,rfl,DGet.k (k:=Sum.inl ((0:Int)+(i:Nat))) hd,_,rfl,?_⟩;rw[zdi,show(0:Int)+(i:Nat)=(i:Int) by omega];by_cases z:(i:Int)∈l
  ·rw[if_pos z];refine iteF ⟨rfl,⟨_,rfl⟩,fun j h=>?_⟩;rcases Nat.lt_or_ge j i with y | y
   ·exact hj j y
   ·obtain rfl:j=i:=by omega
    exact(rc j).mp z
  ·rw[if_neg z];refine iteT ?_;refine⟨_,rfl,by show 1<=sizeLine; decide,fun e t he=>?_⟩;refine⟨e,t,_,rfl,za1,fun d2 H' _ h1 h2 h3=>⟨rfl,d2,h1,qE i d2 _ hi (fun y=>z ((rc i).mpr y)) hj (s1.trans (ze1 he h3)) ?_⟩⟩;exact zd6 h2 fun y=>by rw[y,h1] at h2; cases h2
 ·rintro σ H2 ⟨rfl,⟨u,rfl⟩,hj⟩;exact q hj _ s1
inductive SpIsXR(vs:List V)(H:Hp)(Q:VK):Prop
 | mk (p:Addr) (t b:Int) (h_0:vs=[.ref p]) (h_1:H p=some (.tup [.int t,.int b])) (h_2:Q (.bl (decide (EzOk t b))) H):SpIsXR vs H Q
def spIsX:Sp:=fun vs H Q _=>SpIsXR vs H Q
theorem ok_isX(F:Fun K "is_ease" "is_ease" zcm f fd)(G:FnOk P w K mg base CX0 1 g gd ["one","other"] spGcd)(bG:Binds K gd ["one","other"] [])(kG:PySem.W.keepIn K (.ref g)=true)(mG:mg "common_part" = some (.ref g))(ml:mg "len" = none):
  FnOk P w K mg base CX0 2 f fd ["ease"] spIsX:=by
 refine F.ok scIE (fun vs H Q E h=>?_) (fun cdv A outer s H vs Q E hr h=>?_)
 ·obtain⟨p,t,b,rfl,_⟩:=h;rfl
 obtain⟨p,t,b,rfl,hp',k⟩:=h;refine⟨_,za2 (za8 (i:=1) scIE.nd rfl (Or.inl rfl) (za7 zjn za3 za3))
  (za2 (zas (zac zhk (zab (callLen (K:=K)) (by rfl) ml zav (za0 (pv 0) za4)) za3 (nomark _)) zex zad)
  (za2 (zbs PassesOwn.never rfl (piTup (K:=K) (pv 0)) (zae (i:=2) scIE.nd rfl (Or.inl rfl))
   (za6 (zas (PW.pt (zkk (zac zf1 (pv 2) za3 (nomark _)) (zfp (zac op_ge (pv 2) (pv 1) (nomark _))))) (za6 (zag zgl)) zad)))
  (za6 (zag (zgk zd7 (za9 G hr (by rfl) mG kG bG .nil pass0 (za0 (zai (ixT (K:=K)) (pv 0) za3 (fun _ _=>rfl)) (za0 (zai (ixT (K:=K)) (pv 0) za3 (fun _ _=>rfl)) za4))) za3 (nomark _)))))),?_⟩
 refine⟨_,_,rfl,rfl,⟨by decide,by decide,by decide⟩,?_⟩;refine⟨_,rfl,p,_,rfl,.inr (SqT.of hp'),rfl,_,rfl,iteF ?_⟩;refine⟨_,rfl,p,rfl,⟨_,SqT.of hp'⟩,?_⟩;have p40:(10:Int) ^ ((40:Int).toNat)=10 ^ 40:=rfl;refine ze9 (xs:=([t,b]:List Int).map V.int) (fun i σ H2=>H2=H/\(∃u,σ=[some (.ref p),some (.int (10 ^ ((40:Int).toNat))),u])/\∀(j:Nat) (z:Int),j<i->([t,b]:List Int)[j]?=some z->1<=z/\z<10 ^ 40) ⟨rfl,⟨none,rfl⟩,fun j z h=>by omega⟩ (fun i σ H2 _ ⟨e,_⟩=>by rw[e]; exact SqT.of hp') ?_ ?_
 ·rintro i x σ H2 hx ⟨rfl,⟨u,rfl⟩,hj⟩;obtain⟨z,rfl,hz⟩:=zfe hx;have bad:¬(1<=z/\z<10 ^ 40)->Q (.bl false) H2:=fun y=>by
   have:decide (EzOk t b)=false:=decide_eq_false fun ⟨a1,a2,a3,a4,_⟩=>y (by
    match i,hz with
    | 0,hz=>cases hz; exact⟨a1,a2⟩
    | 1,hz=>cases hz; exact⟨a3,a4⟩)
   rw[this] at k;exact k
  refine⟨_,rfl,_,_,rfl,rfl,_,rfl,?_⟩;by_cases z1:z<1
  ·exact iteDT z1 (bad (by omega))
  ·refine iteDF z1 ?_;refine⟨_,rfl,_,rfl,_,_,rfl,rfl,_,rfl,?_⟩;rw[p40];by_cases z2:10 ^ 40<=z
   ·exact iteDT z2 (bad (by omega))
   ·refine iteDF z2 ⟨rfl,⟨_,rfl⟩,fun j y h1 h2=>?_⟩;rcases Nat.lt_or_ge j i with q | q
    ·exact hj j y q h2
    ·obtain rfl:j=i:=by omega
     rw[hz] at h2;cases h2;omega
 ·rintro σ H2 ⟨rfl,⟨u,rfl⟩,hj⟩;have b1:=hj 0 t (by show 0<2; decide) rfl;have b2:=hj 1 b (by show 1<2; decide) rfl;refine⟨_,rfl,p,_,_,_,rfl,rfl,SqT.of hp',at0,_,rfl,p,_,_,_,rfl,rfl,SqT.of hp',at1,t,b,rfl,rfl,?_⟩;have e:decide (V.int ((Int.gcd t b:Nat):Int)=V.int 1)=decide (EzOk t b):=by
   by_cases y:Int.gcd t b=1
   ·rw[decide_eq_true (iv (by omega)),decide_eq_true (show EzOk t b from ⟨b1.1,b1.2,b2.1,b2.2,y⟩)]
   ·rw[decide_eq_false (ivn (by omega)),decide_eq_false fun z=>y z.2.2.2.2]
  rw[e];exact k
end
structure NetH(n:Nat)(rs:List Rope)(ts:List (List Int)):Prop where
 m14:rs.length<=14
 n2:2<=n
 n15:n<=15
 len:ts.length=n
 tn:Turns (2*rs.length+2) ts
 ne:∀t∈ts,t≠[]
 ease:∀r∈rs,EaseK r.2.2/\r.1<n/\r.2.1<n
 home:∀(p:Nat) (t:List Int),ts[p]?=some t->∀x:Int,x∈t->(hm rs)[x.toNat]?=some p
 hang:∀p,p<n->Rch rs p
theorem NetH.tlen{n:Nat}{rs:List Rope}{ts:List (List Int)}(k:NetH n rs ts){t:List Int}(h:t∈ts):t.length<=30:=by
 have h1:=zes h;have h2:=zf9 (2*rs.length+2) _ k.tn.nd fun x hx=>(k.tn.mem x).mp hx
 have:=k.m14
 omega
theorem zqn:∀{rs:List Rope} {i:Nat} {r:Rope},rs[i]?=some r->(hm0 rs)[2*i]?=some r.1/\(hm0 rs)[2*i+1]?=some r.2.1
 | [],_,_,h=>by simp at h
 | r0 :: rs,0,r,h=>by cases h; exact⟨rfl,rfl⟩
 | r0 :: rs,i+1,r,h=>zqn (rs:=rs) (i:=i) (by simpa using h)
theorem hm_at{rs:List Rope}{i:Nat}{r:Rope}(h:rs[i]?=some r):(hm rs)[2*i]?=some r.1/\(hm rs)[2*i+1]?=some r.2.1:=by
 have hi:=(List.getElem?_eq_some_iff.mp h).1;have l:=zdb rs;obtain⟨a,b⟩:=zqn h;unfold hm;exact⟨by rw[List.getElem?_append_left (by omega)]; exact a,by rw[List.getElem?_append_left (by omega)]; exact b⟩
theorem zqk(rs:List Rope):(hm rs)[2*rs.length]?=some 0/\(hm rs)[2*rs.length+1]?=some 1:=by
 have l:=zdb rs;unfold hm;exact⟨by rw[List.getElem?_append_right (by omega),l,Nat.sub_self]; rfl,by rw[List.getElem?_append_right (by omega),l,Nat.add_sub_cancel_left]; rfl⟩
theorem NetH.at{n:Nat}{rs:List Rope}{ts:List (List Int)}(k:NetH n rs ts){x p:Nat}(hx:x<2*rs.length+2)(h:(hm rs)[x]?=some p):∃t,ts[p]?=some t/\(x:Int)∈t:=by
 have hm':=(k.tn.mem (x:Int)).mpr ⟨by omega,by omega⟩;obtain⟨t,ht,hxt⟩:=List.mem_flatten.mp hm';obtain⟨q,hq⟩:=List.mem_iff_getElem?.mp ht
 have:=k.home q t hq _ hxt
 rw[Int.toNat_natCast,h] at this;cases this;exact⟨t,hq,hxt⟩
def rhoO(k:Nat)(x:Int):Int:=if (k:Int)<x / 2 then x-2 else x
def woT(k:Nat)(t:List Int):List Int:=(t.filter fun x=>decide (x / 2≠(k:Int))).map (rhoO k)
theorem zg5(k:Nat):∀ts:List (List Int),(ts.map (woT k)).flatten=(ts.flatten.filter fun x=>decide (x / 2≠(k:Int))).map (rhoO k)
 | []=>rfl
 | t :: ts=>by rw[List.map_cons,List.flatten_cons,List.flatten_cons,zg5 k ts,List.filter_append,List.map_append]; rfl
theorem zob{k:Nat}{x y:Int}(hx:x / 2≠(k:Int))(hy:y / 2≠(k:Int))(e:rhoO k x=rhoO k y):x=y:=by
 unfold rhoO at e;split at e <;> split at e <;> omega
theorem zly{m k:Nat}{ts:List (List Int)}(T:Turns (2*m+2) ts)(hk:k<m):Turns (2*(m-1)+2) (ts.map (woT k)):=by
 refine⟨?_,fun y=>?_,by omega⟩
 ·rw[zg5];refine zjp (T.nd.filter _) fun x hx y hy e=>?_
  exact zob (of_decide_eq_true (List.mem_filter.mp hx).2) (of_decide_eq_true (List.mem_filter.mp hy).2) e
 ·rw[zg5,List.mem_map];constructor
  ·rintro⟨x,hx,rfl⟩;obtain⟨h1,h2⟩:=List.mem_filter.mp hx;have h2:=of_decide_eq_true h2;obtain⟨a,b⟩:=(T.mem x).mp h1;push_cast at b;unfold rhoO;split
   ·exact⟨by omega,by push_cast; omega⟩
   ·exact⟨a,by push_cast; omega⟩
  ·rintro⟨a,b⟩;push_cast at b;by_cases z:y / 2<(k:Int)
   ·refine⟨y,List.mem_filter.mpr ⟨(T.mem y).mpr ⟨a,by push_cast; omega⟩,decide_eq_true (by omega)⟩,?_⟩;unfold rhoO;rw[if_neg (by omega)]
   ·refine⟨y+2,List.mem_filter.mpr ⟨(T.mem _).mpr ⟨by omega,by push_cast; omega⟩,decide_eq_true (by omega)⟩,?_⟩;unfold rhoO;rw[if_pos (by omega)];omega
theorem zpe{rs:List Rope}{k:Nat}(hk:k<rs.length){x:Nat}(hx:x / 2≠k):(hm (rs.eraseIdx k))[(rhoO k (x:Int)).toNat]?=(hm rs)[x]?:=by
 have e1:rs=rs.take k++rs[k] :: rs.drop (k+1):=by rw[List.getElem_cons_drop,List.take_append_drop]
 have e2:rs.eraseIdx k=rs.take k++rs.drop (k+1):=List.eraseIdx_eq_take_drop_succ ..;have l1:(hm0 (rs.take k)).length=2*k:=by rw[zdb,List.length_take]; omega
 have h1:hm (rs.eraseIdx k)=hm0 (rs.take k)++(hm0 (rs.drop (k+1))++[0,1]):=by rw[e2]; unfold hm hm0; rw[List.flatMap_append,List.append_assoc]
 have h2:hm rs=hm0 (rs.take k)++(rs[k].1 :: rs[k].2.1 :: (hm0 (rs.drop (k+1))++[0,1])):=by
  conv=>lhs; rw[e1]
  unfold hm hm0;rw[List.flatMap_append,List.append_assoc,List.flatMap_cons];rfl
 rw[h1,h2];unfold rhoO;by_cases z:x / 2<k
 ·rw[if_neg (by omega),Int.toNat_natCast,List.getElem?_append_left (by omega),List.getElem?_append_left (by omega)]
 ·have g1:(hm0 (rs.take k)++(hm0 (rs.drop (k+1))++[0,1]))[((x:Int)-2).toNat]?=(hm0 (rs.drop (k+1))++[0,1])[((x:Int)-2).toNat-2*k]?:=by rw[List.getElem?_append_right (by omega),l1]
  have g2:(hm0 (rs.take k)++(rs[k].1 :: rs[k].2.1 :: (hm0 (rs.drop (k+1))++[0,1])))[x]?=(rs[k].1 :: rs[k].2.1 :: (hm0 (rs.drop (k+1))++[0,1]))[x-2*k]?:=by rw[List.getElem?_append_right (by omega),l1]
  rw[if_pos (by omega),g1,g2,show x-2*k=((x:Int)-2).toNat-2*k+1+1 by omega,List.getElem?_cons_succ,List.getElem?_cons_succ]
theorem NetH.wo_ne{n:Nat}{rs:List Rope}{ts:List (List Int)}(N:NetH n rs ts){k:Nat}(hk:k<rs.length)(hg:∀p,p<n->Rch (rs.eraseIdx k) p):∀t∈ts,woT k t≠[]:=by
 intro t ht;obtain⟨p,hp⟩:=List.mem_iff_getElem?.mp ht;have pn:p<n:=by rw[<-N.len]; exact(List.getElem?_eq_some_iff.mp hp).1
 have fin:∀x:Nat,x<2*rs.length+2->x / 2≠k->(hm rs)[x]?=some p->woT k t≠[]:=fun x h1 h2 h3=>by
  obtain⟨t',ht',hx⟩:=N.at h1 h3;rw[hp] at ht';cases ht';refine List.ne_nil_of_mem (a:=rhoO k (x:Int)) ?_;exact List.mem_map.mpr ⟨_,List.mem_filter.mpr ⟨hx,decide_eq_true (by omega)⟩,rfl⟩
 obtain⟨o0,o1⟩:=zqk rs;by_cases p0:p=0
 ·exact fin (2*rs.length) (by omega) (by omega) (by rw[o0,p0])
 by_cases p1:p=1
 ·exact fin (2*rs.length+1) (by omega) (by omega) (by rw[o1,p1])
 have:∃r∈rs.eraseIdx k,r.1=p\/r.2.1=p:=Classical.byContradiction fun z=>by
  refine hg p pn (fun q=>q≠p) (Ne.symm p0) (fun r hr=>?_) rfl;have a:r.1≠p:=fun e=>z ⟨r,hr,.inl e⟩
  have b:r.2.1≠p:=fun e=>z ⟨r,hr,.inr e⟩
  exact⟨fun _=>b,fun _=>a⟩
 obtain⟨r,hr,hrp⟩:=this;obtain⟨i,hi⟩:=List.mem_iff_getElem?.mp hr;rw[List.getElem?_eraseIdx] at hi;have key:∀j:Nat,j≠k->rs[j]?=some r->woT k t≠[]:=fun j jk hj=>by
  have jl:=(List.getElem?_eq_some_iff.mp hj).1;obtain⟨g1,g2⟩:=hm_at hj;rcases hrp with e | e
  ·exact fin (2*j) (by omega) (by omega) (by rw[g1,e])
  ·exact fin (2*j+1) (by omega) (by omega) (by rw[g2,e])
 split at hi
 ·exact key i (by omega) hi
 ·exact key (i+1) (by omega) hi
theorem NetH.out{n:Nat}{rs:List Rope}{ts:List (List Int)}(N:NetH n rs ts){k:Nat}(hk:k<rs.length)(hg:∀p,p<n->Rch (rs.eraseIdx k) p):NetH n (rs.eraseIdx k) (ts.map (woT k)):=by
 have l:(rs.eraseIdx k).length=rs.length-1:=List.length_eraseIdx_of_lt hk;have m14:=N.m14;refine⟨by omega,N.n2,N.n15,by rw[List.length_map]; exact N.len,by rw[l]; exact zly N.tn hk,fun t ht=>?_,fun r hr=>N.ease r (List.mem_of_mem_eraseIdx hr),fun p t hp y hy=>?_,hg⟩
 ·obtain⟨t',ht',rfl⟩:=List.mem_map.mp ht;exact N.wo_ne hk hg t' ht'
 ·rw[List.getElem?_map] at hp;obtain⟨t',ht',rfl⟩:=Option.map_eq_some_iff.mp hp;obtain⟨x,hx,rfl⟩:=List.mem_map.mp hy;obtain⟨h1,h2⟩:=List.mem_filter.mp hx;have h2:=of_decide_eq_true h2;have x0:0<=x:=((N.tn.mem x).mp (List.mem_flatten.mpr ⟨t',List.mem_of_getElem? ht',h1⟩)).1;obtain⟨z,rfl⟩:=Int.eq_ofNat_of_zero_le x0
  have:=N.home p t' ht' _ h1
  rw[Int.toNat_natCast] at this;rw[zpe hk (by omega)];exact this
theorem ez_rat{t b:Int}(h:EzOk t b):EaseK ((t:Rat) / (b:Rat))/\((t:Rat) / (b:Rat)).num=t/\(((t:Rat) / (b:Rat)).den:Int)=b:=by
 obtain⟨h1,h2,h3,h4,h5⟩:=h;have e:=zdx t b (by omega);have f:frac t b=(t,b):=by
  have p1:Mth.part t b=1:=by unfold Mth.part; rw[if_neg (by omega),h5]; rfl
  unfold frac;rw[p1,Int.fdiv_one,Int.fdiv_one]
 rw[f] at e;have e1:=(congrArg Prod.fst e).symm;have e2:=(congrArg Prod.snd e).symm;dsimp only at e1 e2;exact⟨⟨by rw[e1]; omega,by rw[e1]; exact h2,by rw[e2]; exact h4⟩,e1,e2⟩
def nearS(l:List Nat)(r:Rope):List Nat:=if decide (r.1∈l)=decide (r.2.1∈l) then l else l++[r.1,r.2.1]
theorem zm9{l:List Nat}{r:Rope}{x:Nat}(h:x∈l):x∈nearS l r:=by
 unfold nearS;split
 ·exact h
 ·exact List.mem_append_left _ h
structure Near(n:Nat)(rs:List Rope)(l:List Nat):Prop where
 st:0∈l
 rch:∀x∈l,Rch rs x
theorem Near.step{n:Nat}{rs:List Rope}{l:List Nat}(k:Near n rs l){r:Rope}(hr:r∈rs):Near n rs (nearS l r):=by
 refine⟨zm9 k.st,fun x hx=>?_⟩;unfold nearS at hx;split at hx
 ·exact k.rch x hx
 ·rename_i z
  have z':¬(r.1∈l↔r.2.1∈l):=fun q=>z (by rw[Bool.eq_iff_iff,decide_eq_true_eq,decide_eq_true_eq]; exact q)
  rcases List.mem_append.mp hx with hx | hx
  ·exact k.rch x hx
  ·have both:Rch rs r.1/\Rch rs r.2.1:=by
    by_cases y:r.1∈l
    ·exact⟨k.rch _ y,fun S h0 hc=>(hc r hr).mp (k.rch _ y S h0 hc)⟩
    ·have y2:r.2.1∈l:=Classical.byContradiction fun q=>z' ⟨fun a=>absurd a y,fun a=>absurd a q⟩
     exact⟨fun S h0 hc=>(hc r hr).mpr (k.rch _ y2 S h0 hc),k.rch _ y2⟩
   simp only[List.mem_cons,List.not_mem_nil,or_false] at hx;rcases hx with rfl | rfl
   ·exact both.1
   ·exact both.2
abbrev Raw:=Int×Int×Int×Int
def RawR(H:Hp)(b:Addr)(r:Raw):Prop:=∃e,H b=some (.tup [.int r.1,.int r.2.1,.ref e])/\H e=some (.tup [.int r.2.2.1,.int r.2.2.2])
theorem zd9:Mo RawR:=fun s ⟨e,h1,h2⟩=>⟨e,s _ _ h1,s _ _ h2⟩
def okPl(n:Int)(r:Raw):Prop:=(0<=r.1/\r.1<n)/\(0<=r.2.1/\r.2.1<n)
instance (n:Int) (r:Raw):Decidable (okPl n r):=by unfold okPl; exact inferInstance
def okRp(n:Int)(r:Raw):Prop:=okPl n r/\EzOk r.2.2.1 r.2.2.2
def toRp(r:Raw):Rope:=(r.1.toNat,r.2.1.toNat,(r.2.2.1:Rat) / (r.2.2.2:Rat))
theorem zoh{H:Hp}{b:Addr}{r:Raw}{n:Int}(h:RawR H b r)(k:okRp n r):RopeR H b (toRp r):=by
 obtain⟨e,h1,h2⟩:=h;obtain⟨⟨⟨a1,a2⟩,a3,a4⟩,z⟩:=k;obtain⟨_,en,ed⟩:=ez_rat z;refine⟨e,?_,?_⟩
 ·show H b=some (.tup [.int ((r.1.toNat:Nat):Int),.int ((r.2.1.toNat:Nat):Int),.ref e]);rw[Int.toNat_of_nonneg a1,Int.toNat_of_nonneg a3];exact h1
 ·show H e=some (.tup [.int ((r.2.2.1:Rat) / (r.2.2.2:Rat)).num,.int (((r.2.2.1:Rat) / (r.2.2.2:Rat)).den:Int)]);rw[en,ed];exact h2
def ofRp(r:Rope):Raw:=((r.1:Int),(r.2.1:Int),r.2.2.num,(r.2.2.den:Int))
theorem zoa{H:Hp}{b:Addr}{r:Rope}(h:RopeR H b r):RawR H b (ofRp r):=h
theorem zki{H:Hp}{a:Addr}{rs:List Raw}{n:Int}(h:TupR RawR H a rs)(k:∀r∈rs,okRp n r):TupR RopeR H a (rs.map toRp):=by
 obtain⟨bs,h1,hl,hB⟩:=h;refine⟨bs,h1,by rw[List.length_map]; exact hl,fun i b r e1 e2=>?_⟩;rw[List.getElem?_map] at e2;obtain⟨r',hr,rfl⟩:=Option.map_eq_some_iff.mp e2;exact zoh (hB i b r' e1 hr) (k r' (List.mem_of_getElem? hr))
def X1(C:Addr)(fl:Str)(H:Hp)(E:XK)(y:V):Prop:=∀d H',Same H H'->H' d=some (.xd [(fl,y)])->E (.ref C) (some d) H'
def sp1(C:Addr)(fl:Str):Sp:=fun vs H Q _=>∃(e t:Addr) (y:V),vs=[.ref e,y]/\H e=some (excN e C t)/\∀d H',H d=none->H' e=some (excF e C t d)->H' d=some (.xd [(fl,y)])->(∀b o,b≠e->H b=some o->H' b=some o)->Q .non H'
theorem rz1{C:Addr}{fl:Str}{H:Hp}{E:XK}{y:V}(q:X1 C fl H E y):([y]:List V).length<=sizeLine/\∀e t,H e=none->sp1 C fl (.ref e :: [y]) (upd H e (excN e C t)) (fun v H2=>v=.non/\∃d,H2 e=some (excF e C t d)/\E (.ref C) (some d) (del H2 e)) E0:=by
 refine⟨by show 1<=sizeLine; decide,fun e t he=>?_⟩;refine⟨e,t,y,rfl,za1,fun d H' _ h1 h2 h3=>⟨rfl,d,h1,q d _ (ze1 he h3) ?_⟩⟩;exact zd6 h2 fun z=>by rw[z,h1] at h2; cases h2
theorem rz2{C:Addr}{H:Hp}{E:XK}{k:Int}{word:Str}(q:NRo C H E k word):([.int k,.str word]:List V).length<=sizeLine/\∀e t,H e=none->spNRin C (.ref e :: [.int k,.str word]) (upd H e (excN e C t)) (fun v H2=>v=.non/\∃d,H2 e=some (excF e C t d)/\E (.ref C) (some d) (del H2 e)) E0:=by
 refine⟨by show 2<=sizeLine; decide,fun e t he=>?_⟩;refine⟨e,t,_,_,rfl,za1,fun d H' _ h1 h2 h3=>⟨rfl,d,h1,q d _ (ze1 he h3) ?_⟩⟩;exact zd6 h2 fun z=>by rw[z,h1] at h2; cases h2
section
variable {P:Program} {w:World} {K:PySem.W.Frag} {mg:Str->Option Value} {base:Heap} {f g h f1 f2 f3 f4 f5 f6 fI C CN CR CT CL CX:Addr} {fd gd hd d1 d2 d3 d4 d5 d6 dI:FuncData}
theorem init1{fl:Str}{H:Hp}{Q:VK}{e C t:Addr}{y:V}(x1:XStore K C fl)(he:H e=some (excN e C t))(q:∀d H',H d=none->H' e=some (excF e C t d)->H' d=some (.xd [(fl,y)])->(∀b o,b≠e->H b=some o->H' b=some o)->Q .non H'):sFldX K (tVar 0) (tVar 1) fl { nx:=fun _ H'=>Q .non H',rt:=Q } [some (.ref e),some y] H:=by
 refine⟨_,rfl,_,rfl,e,C,t,rfl,he,x1,fun d hd=>?_⟩;have ed:e≠d:=ne_of_none he hd;refine q d _ hd ?_ za1 fun b o n e'=>?_
 ·rw[upd_ne ed,za1]
 ·rw[upd_ne (ne_of_none e' hd),upd_ne n];exact e'
theorem scNNi:FnScope ["self","word"] ["self","word"] (defScope sNNInit):=⟨rfl,rfl,rfl,by decide +kernel,rfl,by decide +kernel,by decide +kernel⟩
theorem zrz(F:Fun K "__init__" "NoNet.__init__" sNNInit f fd)(x1:XStore K C "word"):FnOk P w K mg base CX0 1 f fd ["self","word"] (sp1 C "word"):=by
 refine F.ok scNNi (fun vs H Q E h=>?_) (fun cdv A outer s H vs Q E hr h=>?_)
 ·obtain⟨e,t,y,rfl,_⟩:=h;rfl
 obtain⟨e,t,y,rfl,he,q⟩:=h;exact⟨_,za6 (ze2 (pv 0) (pv 1) rfl),init1 x1 he q⟩
theorem scNTi:FnScope ["self","place"] ["self","place"] (defScope sNTInit):=⟨rfl,rfl,rfl,by decide +kernel,rfl,by decide +kernel,by decide +kernel⟩
theorem zrx(F:Fun K "__init__" "NoTurn.__init__" sNTInit f fd)(x1:XStore K C "place"):FnOk P w K mg base CX0 1 f fd ["self","place"] (sp1 C "place"):=by
 refine F.ok scNTi (fun vs H Q E h=>?_) (fun cdv A outer s H vs Q E hr h=>?_)
 ·obtain⟨e,t,y,rfl,_⟩:=h;rfl
 obtain⟨e,t,y,rfl,he,q⟩:=h;exact⟨_,za6 (ze2 (pv 0) (pv 1) rfl),init1 x1 he q⟩
theorem scNFi:FnScope ["self","lands"] ["self","lands"] (defScope sNFInit):=⟨rfl,rfl,rfl,by decide +kernel,rfl,by decide +kernel,by decide +kernel⟩
theorem zs0(F:Fun K "__init__" "NotFlat.__init__" sNFInit f fd)(x1:XStore K C "lands"):FnOk P w K mg base CX0 1 f fd ["self","lands"] (sp1 C "lands"):=by
 refine F.ok scNFi (fun vs H Q E h=>?_) (fun cdv A outer s H vs Q E hr h=>?_)
 ·obtain⟨e,t,y,rfl,_⟩:=h;rfl
 obtain⟨e,t,y,rfl,he,q⟩:=h;exact⟨_,za6 (ze2 (pv 0) (pv 1) rfl),init1 x1 he q⟩
inductive SpCNR(CN:Addr)(vs:List V)(H:Hp)(Q:VK)(E:XK):Prop
 | mk (n:Int) (a:Addr) (xs:List V) (h_0:vs=[.int n,.ref a]) (h_1:H a=some (.tup xs)) (h_2:2<=n->n<=15->1<=xs.length->xs.length<=14->Q .non H) (h_3:¬(2<=n/\n<=15)->X1 CN "word" H E (.str "places")) (h_4:2<=n->n<=15->¬(1<=xs.length/\xs.length<=14)->X1 CN "word" H E (.str "ropes")):SpCNR CN vs H Q E
def spCN(CN:Addr):Sp:=fun vs H Q E=>SpCNR CN vs H Q E
theorem ok_cn (F:Fun K "check_numbers" "check_numbers" zay f fd) (ml:mg "len" = none)
  (GI:FnOk P w K mg base CX0 1 fI dI ["self","word"] (sp1 CN "word")) (bI:Binds K dI ["self","word"] []) (iI:PySem.W.isFn K (.ref fI)=true) (mC:mg "NoNet" = some (.ref CN)) (xC:excI K CN bmV "ValueError.__new__" fI=true):FnOk P w K mg base (CXr P w) 3 f fd ["places","ropes"] (spCN CN):=by
 refine okX F scCN (fun vs H Q E h=>?_) (fun cdv A outer s H vs Q E hr h=>?_)
 ·obtain⟨n,a,xs,rfl,_⟩:=h;rfl
 obtain⟨n,a,xs,rfl,ha,q2,q3,q4⟩:=h;refine⟨_,za2 (zas (PW.pt (zkk (zac zf1 (pv 0) za3 (nomark _)) (zfp (zac zim (pv 0) za3 (nomark _))))) (za6 (zb0 (by rfl) mC xC PySem.F.excBase_ValueError rfl zao GI (hr.mono (by decide)) bI iI (za0 zaa za4))) zad)
  (za6 (zas (PW.pt (zkk (zac zf1 (zab (callLen (K:=K)) (by rfl) ml zav (za0 (pv 1) za4)) za3 (nomark _)) (zfp (zac zim (zab (callLen (K:=K)) (by rfl) ml zav (za0 (pv 1) za4)) za3 (nomark _))))) (za6 (zb0 (by rfl) mC xC PySem.F.excBase_ValueError rfl zao GI (hr.mono (by decide)) bI iI (za0 zaa za4))) zad)),?_⟩
 refine⟨_,rfl,_,_,rfl,rfl,_,rfl,?_⟩;by_cases z1:n<2
 ·exact iteDT z1 (rz1 (q3 (by omega)))
 refine iteDF z1 ⟨_,rfl,_,_,rfl,rfl,_,rfl,?_⟩;by_cases z2:15<n
 ·exact iteDT z2 (rz1 (q3 (by omega)))
 refine iteDF z2 ⟨_,rfl,a,_,rfl,.inr (SqT.of ha),_,_,rfl,rfl,_,rfl,?_⟩;by_cases z3:(xs.length:Int)<1
 ·exact iteDT z3 (rz1 (q4 (by omega) (by omega) (by omega)))
 refine iteDF z3 ⟨_,rfl,a,_,rfl,.inr (SqT.of ha),_,_,rfl,rfl,_,rfl,?_⟩;by_cases z4:14<(xs.length:Int)
 ·exact iteDT z4 (rz1 (q4 (by omega) (by omega) (by omega)))
 exact iteDF z4 (q2 (by omega) (by omega) (by omega) (by omega))
inductive SpCRR(CR:Addr)(vs:List V)(H:Hp)(Q:VK)(E:XK):Prop
 | mk (n k:Int) (a:Addr) (r:Raw) (h_0:vs=[.int n,.int k,.ref a]) (h_1:RawR H a r) (h_2:okRp n r->∀H',Same H H'->Q .non H') (h_3:¬okPl n r->NRo CR H E k "place") (h_4:okPl n r->¬EzOk r.2.2.1 r.2.2.2->NRo CR H E k "ease"):SpCRR CR vs H Q E
def spCR(CR:Addr):Sp:=fun vs H Q E=>SpCRR CR vs H Q E
theorem ok_cr (F:Fun K "check_rope" "check_rope" zbm f fd) (G:FnOk P w K mg base CX0 2 g gd ["ease"] spIsX) (bG:Binds K gd ["ease"] []) (kG:PySem.W.keepIn K (.ref g)=true) (mG:mg "is_ease" = some (.ref g))
  (GI:FnOk P w K mg base CX0 1 fI dI ["self","rope","word"] (spNRin CR)) (bI:Binds K dI ["self","rope","word"] []) (iI:PySem.W.isFn K (.ref fI)=true) (mC:mg "NoRope" = some (.ref CR)) (xC:excI K CR bmV "ValueError.__new__" fI=true):FnOk P w K mg base (CXr P w) 3 f fd ["places","number","rope"] (spCR CR):=by
 refine okX F scCR (fun vs H Q E h=>?_) (fun cdv A outer s H vs Q E hr h=>?_)
 ·obtain⟨n,k,a,r,rfl,_⟩:=h;rfl
 obtain⟨n,k,a,r,rfl,⟨e,ha,he⟩,q2,q3,q4⟩:=h;refine⟨_,za2 (zbs PassesOwn.leaving rfl (piTup (K:=K) (zbz (slT (K:=K)) (pv 2) zci (zch za3))) (zae (i:=3) scCR.nd rfl (Or.inl rfl))
   (za6 (zas (PW.pt (zkk (zac zf1 (pv 3) za3 (nomark _)) (zfp (zac op_ge (pv 3) (pv 0) (nomark _))))) (za6 (zb0 (by rfl) mC xC PySem.F.excBase_ValueError rfl zao GI (hr.mono (by decide)) bI iI (za0 (pv 1) (za0 zaa za4)))) zad)))
  (za6 (zas (zqb (zec (za9 G hr (by rfl) mG kG bG .nil pass0 (za0 (zai (ixT (K:=K)) (pv 2) za3 (fun _ _=>rfl)) za4)))) (za6 (zb0 (by rfl) mC xC PySem.F.excBase_ValueError rfl zao GI (hr.mono (by decide)) bI iI (za0 (pv 1) (za0 zaa za4)))) zad)),?_⟩
 refine⟨_,rfl,2,rfl,a,_,rfl,SqT.of ha,fun z=>?_,fun p hp=>?_⟩
 ·have:=z.2
  rw[sIxT2 (by show 2<=3; decide)] at this;cases this
 rw[show cutV [V.int r.1,.int r.2.1,.ref e] none (some 2)=[.int r.1,.int r.2.1] from rfl];have s1:=za5 hp (.tup [.int r.1,.int r.2.1]);have e1:(upd H p (.tup [.int r.1,.int r.2.1])) p=some (.tup [.int r.1,.int r.2.1]):=za1;generalize upd H p (.tup [.int r.1,.int r.2.1])=H1 at s1 e1;refine⟨p,rfl,⟨_,SqT.of e1⟩,?_⟩;have bad:¬okPl n r->NRo CR H1 E k "place":=fun z d H' s=>q3 z d H' (s1.trans s)
 refine ze9 (xs:=([r.1,r.2.1]:List Int).map V.int) (fun i σ H2=>H2=H1/\(∃u,σ=[some (.int n),some (.int k),some (.ref a),u])/\∀(j:Nat) (z:Int),j<i->([r.1,r.2.1]:List Int)[j]?=some z->0<=z/\z<n) ⟨rfl,⟨none,rfl⟩,fun j z h=>by omega⟩ (fun i σ H2 _ ⟨e,_⟩=>by rw[e]; exact SqT.of e1) ?_ ?_
 ·rintro i x σ H2 hx ⟨rfl,⟨u,rfl⟩,hj⟩;obtain⟨z,rfl,hz⟩:=zfe hx;have bad':¬(0<=z/\z<n)->NRo CR H2 E k "place":=fun y=>bad fun ⟨a1,a2⟩=>y (by
   match i,hz with
   | 0,hz=>cases hz; exact a1
   | 1,hz=>cases hz; exact a2)
  refine⟨_,rfl,_,_,rfl,rfl,_,rfl,?_⟩;by_cases z1:z<0
  ·exact iteDT z1 ⟨_,rfl,rz2 (bad' (by omega))⟩
  refine iteDF z1 ⟨_,rfl,_,rfl,_,_,rfl,rfl,_,rfl,?_⟩;by_cases z2:n<=z
  ·exact iteDT z2 ⟨_,rfl,rz2 (bad' (by omega))⟩
  refine iteDF z2 ⟨rfl,⟨_,rfl⟩,fun j y h1 h2=>?_⟩;rcases Nat.lt_or_ge j i with x | x
  ·exact hj j y x h2
  ·obtain rfl:j=i:=by omega
   rw[hz] at h2;cases h2;exact⟨by omega,by omega⟩
 ·rintro σ H2 ⟨rfl,⟨u,rfl⟩,hj⟩;have pl:okPl n r:=⟨hj 0 r.1 (by show 0<2; decide) rfl,hj 1 r.2.1 (by show 1<2; decide) rfl⟩;refine⟨_,rfl,a,_,_,_,rfl,rfl,SqT.of (s1 _ _ ha),t3_2 _ _ _,e,r.2.2.1,r.2.2.2,rfl,s1 _ _ he,?_⟩;by_cases z:EzOk r.2.2.1 r.2.2.2
  ·rw[decide_eq_true z];exact⟨_,rfl,iteF (q2 ⟨pl,z⟩ _ s1)⟩
  ·rw[decide_eq_false z];exact⟨_,rfl,iteT ⟨_,rfl,rz2 fun d H' s=>q4 pl z d H' (s1.trans s)⟩⟩
end
theorem mo_rr{H H':Hp}{a:Addr}{rs:List Rope}(s:Same H H')(h:TupR RopeR H a rs):TupR RopeR H' a rs:=zhn (R:=RopeR) (fun s h=>zf8 s h) s h
theorem X1.mono{C:Addr}{fl:Str}{H H':Hp}{E:XK}{y:V}(q:X1 C fl H E y)(s:Same H H'):X1 C fl H' E y:=fun d H2 s2 h=>q d H2 (s.trans s2) h
theorem NRo.mono{C:Addr}{H H':Hp}{E:XK}{k:Int}{wd:Str}(q:NRo C H E k wd)(s:Same H H'):NRo C H' E k wd:=fun d H2 s2 h=>q d H2 (s.trans s2) h
def tOk(rs:List Rope)(ts:List (List Int))(p:Nat):Prop:=(ts.getD p []).Perm (endsL (hm rs) p)
section
variable {P:Program} {w:World} {K:PySem.W.Frag} {mg:Str->Option Value} {base:Heap} {f g h f1 f2 f3 f4 f5 f6 fI C CN CR CT CL CX:Addr} {fd gd hd d1 d2 d3 d4 d5 d6 dI:FuncData}
inductive SpCTR(CT:Addr)(vs:List V)(H:Hp)(Q:VK)(E:XK):Prop
 | mk (n:Nat) (a b:Addr) (rs:List Rope) (ts:List (List Int)) (h_0:vs=[.int (n:Int),.ref a,.ref b]) (h_1:2<=n) (h_2:n<=15) (h_3:rs.length<=14) (h_4:TupR RopeR H a rs) (h_5:∀r∈rs,r.1<n/\r.2.1<n) (h_6:TupR IntsT H b ts) (h_7:∀t∈ts,t.length<64)
  (h_8:(∀p,p<n->tOk rs ts p)->ts.length<=n->∀H',Same H H'->Q .non H') (h_9:∀p,p<n->¬tOk rs ts p->(∀i,i<p->tOk rs ts i)->X1 CT "place" H E (.int (p:Int))) (h_10:(∀p,p<n->tOk rs ts p)->n<ts.length->X1 CT "place" H E (.int (n:Int))):SpCTR CT vs H Q E
def spCT(CT:Addr):Sp:=fun vs H Q E=>SpCTR CT vs H Q E
theorem ok_ct (F:Fun K "check_turns" "check_turns" zbb f fd) (G:FnOk P w K mg base CX0 1 g gd ["places","ropes"] spEnds) (bG:Binds K gd ["places","ropes"] []) (kG:PySem.W.keepIn K (.ref g)=true) (mG:mg "ends_at" = some (.ref g)) (ml:mg "len" = none) (me:mg "enumerate" = none) (mso:mg "sorted" = none)
  (GI:FnOk P w K mg base CX0 1 fI dI ["self","place"] (sp1 CT "place")) (bI:Binds K dI ["self","place"] []) (iI:PySem.W.isFn K (.ref fI)=true) (mC:mg "NoTurn" = some (.ref CT)) (xC:excI K CT bmV "ValueError.__new__" fI=true):FnOk P w K mg base (CXr P w) 3 f fd ["places","ropes","turns"] (spCT CT):=by
 refine okX F scTu (fun vs H Q E h=>?_) (fun cdv A outer s H vs Q E hr h=>?_)
 ·obtain⟨n,a,b,rs,ts,rfl,_⟩:=h;rfl
 obtain⟨n,a,b,rs,ts,rfl,n2,n15,m14,hR,hrs,⟨bs,hb,hB⟩,htl,q8,q9,q10⟩:=h;have hu:=zkx hr;refine⟨_,za2 (zbs PassesOwn.leaving rfl (zop (by rfl) me (za0 (za9 G (hr.mono (by decide)) (by rfl) mG kG bG .nil pass0 (za0 (pv 0) (za0 (pv 1) za4))) za4)) (pgTup (n:=2) (K:=K) rfl (zaw (zae (i:=3) scTu.nd rfl (Or.inl rfl)) (zaw (zae (i:=4) scTu.nd rfl (Or.inl rfl)) zdj)))
   (za2 (za8 (i:=5) scTu.nd rfl (Or.inl rfl) (zem (zac zf1 (pv 3) (zab (callLen (K:=K)) (by rfl) ml zav (za0 (pv 2) za4)) (nomark _)) (zai (ixT (K:=K)) (pv 2) (pv 3) (fun _ _=>rfl)) (zb3 za4)))
    (za6 (zas (zac (zlz hr.units) (zab zl1 (by rfl) mso znj (za0 (pv 5) za4)) (pv 4) (nomark _)) (za6 (zb0 (by rfl) mC xC PySem.F.excBase_ValueError rfl zao GI (hr.mono (by decide)) bI iI (za0 (pv 3) za4))) zad))))
  (za6 (zas (zac zim (zab (callLen (K:=K)) (by rfl) ml zav (za0 (pv 2) za4)) (pv 0) (nomark _)) (za6 (zb0 (by rfl) mC xC PySem.F.excBase_ValueError rfl zao GI (hr.mono (by decide)) bI iI (za0 (pv 0) za4))) zad)),?_⟩
 refine⟨_,rfl,_,rfl,n,a,rs,rfl,n2,by omega,by omega,hR,hrs,fun p cs H1 s1 M=>?_⟩;refine⟨p,_,rfl,M.h1,?_⟩;refine zmy (xs:=cs.map V.ref) (fun i σ H2=>(∃u v t,σ=[some (.int n),some (.ref a),some (.ref b),u,v,t])/\Same H1 H2/\∀j,j<i->tOk rs ts j) ⟨⟨none,none,none,rfl⟩,Same.refl _,fun j h=>by omega⟩ (fun i σ H2 _ ⟨_,s2,_⟩=>s2 _ _ M.h1) ?_ ?_
 ·rintro i x σ H2 p2 hx ⟨⟨u,v,t0,rfl⟩,s2,hj⟩ hp2;obtain⟨c,es,rfl,hc,hy,hE⟩:=M.rows.ref hx;have hi:i<n:=by simpa using (List.getElem?_eq_some_iff.mp hy).1
  rw[List.getElem?_map,List.getElem?_range hi] at hy;cases hy;have s3:=s2.trans (za5 hp2 (.tup [.int i,.ref c]));have s03:=s1.trans s3;refine⟨p2,_,rfl,SqT.of za1,rfl,_,_,rfl,_,_,rfl,rfl,?_⟩;generalize upd H2 p2 (.tup [.int i,.ref c])=H3 at s3 s03;refine zb8 fun U hU=>?_
  have key:∀tb H4,Same H3 H4->H4 tb=some (.tup ((ts.getD i []).map V.int))->(ts.getD i []).length<64->U [some (.int n),some (.ref a),some (.ref b),some (.int (i:Int)),some (.ref c),some (.ref tb)] H4:=by
   intro tb H4 s4 htb hl;subst hU;refine⟨_,rfl,tb,_,rfl,htb,hl,fun l ms hl pm2 srt=>?_⟩;have s5:=za5 hl (.lst (ms.map V.int));refine⟨_,rfl,l,c,ms,endsL (hm rs) i,rfl,rfl,za1,s5 _ _ (s4 _ _ (s3 _ _ hE)),_,rfl,?_⟩;by_cases z:ms=endsL (hm rs) i
   ·have ok:tOk rs ts i:=by
     unfold tOk;rw[<-z];exact pm2.symm
    refine iteNS z ⟨⟨_,_,_,rfl⟩,(s3.trans s4).trans s5,fun j h=>?_⟩;rcases Nat.lt_or_ge j i with y | y
    ·exact hj j y
    ·obtain rfl:j=i:=by omega
     exact ok
   ·refine iteNN z ⟨_,rfl,rz1 ((q9 i hi (fun y=>z ?_) hj).mono (s03.trans (s4.trans s5)))⟩;exact zh7 srt (zgz (hm rs) i) (pm2.trans y)
  refine⟨_,rfl,_,rfl,b,_,rfl,.inr (SqT.of (s03 _ _ hb)),_,_,rfl,rfl,_,rfl,?_⟩;rw[List.length_map,hB.1];by_cases z:(i:Int)<(ts.length:Int)
  ·have hi2:i<ts.length:=by omega
   have ht:ts[i]?=some ts[i]:=List.getElem?_eq_getElem hi2;obtain⟨tb,htb,hT⟩:=hB.get ht;have eg:ts.getD i []=ts[i]:=by rw[List.getD_eq_getElem?_getD,ht]; rfl
   refine iteDT z ⟨_,rfl,_,rfl,b,_,_,_,rfl,rfl,SqT.of (s03 _ _ hb),zaf (zd4 htb),?_⟩;exact key tb H3 (Same.refl _) (by rw[eg]; exact s03 _ _ hT) (by rw[eg]; exact htl _ (List.getElem_mem hi2))
  ·have eg:ts.getD i []=[]:=by rw[List.getD_eq_getElem?_getD,List.getElem?_eq_none (by omega)]; rfl
   refine iteDF z ⟨by show 0<=sizeLine; decide,fun tb htb=>?_⟩;exact key tb _ (za5 htb _) (by rw[eg]; exact za1) (by rw[eg]; decide)
 ·rintro σ H2 ⟨⟨u,v,t0,rfl⟩,s2,hj⟩;have hjn:∀p,p<n->tOk rs ts p:=fun p hp=>hj p (by rw[List.length_map,M.rows.1,List.length_map,List.length_range]; exact hp)
  have s02:=s1.trans s2;refine⟨_,rfl,b,_,rfl,.inr (SqT.of (s02 _ _ hb)),_,rfl,_,_,rfl,rfl,_,rfl,?_⟩;rw[List.length_map,hB.1];by_cases z:(n:Int)<(ts.length:Int)
  ·exact iteDT z ⟨_,rfl,rz1 ((q10 hjn (by omega)).mono s02)⟩
  ·exact iteDF z (q8 hjn (by omega) _ s02)
inductive SpCFR(CX:Addr)(vs:List V)(H:Hp)(Q:VK)(E:XK):Prop
 | mk (n:Int) (a b:Addr) (xs:List V) (m:Nat) (ts:List (List Int)) (h_0:vs=[.int n,.ref a,.ref b]) (h_1:H a=some (.tup xs)) (h_2:TupR IntsT H b ts) (h_3:Turns m ts) (h_4:m<=1000) (h_5:n-xs.length-1+(landsF (nxt ts) m).length≠2->X1 CX "lands" H E (.int ((landsF (nxt ts) m).length:Int))) (h_6:n-xs.length-1+(landsF (nxt ts) m).length=2->∀H',Same H H'->Q .non H'):SpCFR CX vs H Q E
def spCF(CX:Addr):Sp:=fun vs H Q E=>SpCFR CX vs H Q E
theorem ok_cf (F:Fun K "check_flat" "check_flat" zbn f fd) (G:FnOk P w K mg base CX0 3 g gd ["turns"] spRings) (bG:Binds K gd ["turns"] []) (kG:PySem.W.keepIn K (.ref g)=true) (mG:mg "rings" = some (.ref g)) (ml:mg "len" = none)
  (GI:FnOk P w K mg base CX0 1 fI dI ["self","lands"] (sp1 CX "lands")) (bI:Binds K dI ["self","lands"] []) (iI:PySem.W.isFn K (.ref fI)=true) (mC:mg "NotFlat" = some (.ref CX)) (xC:excI K CX bmV "ValueError.__new__" fI=true):FnOk P w K mg base (CXr P w) 4 f fd ["places","ropes","turns"] (spCF CX):=by
 refine okX F scFl (fun vs H Q E h=>?_) (fun cdv A outer s H vs Q E hr h=>?_)
 ·obtain⟨n,a,b,xs,m,ts,rfl,_⟩:=h;rfl
 obtain⟨n,a,b,xs,m,ts,rfl,ha,⟨bs,hb,hB⟩,T,hm,qE,q⟩:=h;refine⟨_,za2 (za8 (i:=3) scFl.nd rfl (Or.inl rfl) (zab (callLen (K:=K)) (by rfl) ml zav (za0 (za9 G hr (by rfl) mG kG bG .nil pass0 (za0 (pv 2) za4)) za4)))
  (za6 (zas (zac zhk (za7 zb1 (za7 zd8 (za7 zd8 (pv 0) (zab (callLen (K:=K)) (by rfl) ml zav (za0 (pv 1) za4))) za3) (pv 3)) za3 (nomark _)) (za6 (zb0 (by rfl) mC xC PySem.F.excBase_ValueError rfl zao GI (hr.mono (by decide)) bI iI (za0 (pv 3) za4))) zad)),?_⟩
 refine⟨_,rfl,b,bs,ts,m,rfl,⟨hb,hB⟩,T,hm,fun p cs H1 s1 _ hp hR=>?_⟩;refine⟨p,_,rfl,.inr (SqT.of hp),?_⟩;refine⟨_,rfl,_,rfl,a,_,rfl,.inr (SqT.of (s1 _ _ ha)),_,_,rfl,rfl,_,_,rfl,rfl,_,rfl,_,_,rfl,rfl,rfl,_,rfl,?_⟩;rw[List.length_map,hR.1];by_cases z:n-xs.length-1+(landsF (nxt ts) m).length=2
 ·exact iteNS (iv z) (q z _ s1)
 ·exact iteNN (ivn z) ⟨_,rfl,rz1 ((qE z).mono s1)⟩
end
inductive ShF
 | net (w:Str)
 | rope (k:Nat) (w:Str)
 | turn (p:Nat)
 | loose (p:Nat)
 | flat (l:Nat)
 | told
def stF:ShF->Nat
 | .net _=>0
 | .rope _ _=>1
 | .turn _=>2
 | .loose _=>3
 | .flat _=>4
 | .told=>5
def lndN(rs:List Raw)(ts:List (List Int)):Nat:=(landsF (nxt ts) (2*rs.length+2)).length
def stP(n:Int)(rs:List Raw)(ts:List (List Int)):Nat->Prop
 | 0=>(2<=n/\n<=15)/\1<=rs.length/\rs.length<=14
 | 1=>∀r∈rs,okRp n r
 | 2=>(∀p,p<n.toNat->tOk (rs.map toRp) ts p)/\ts.length<=n.toNat
 | 3=>∀p,p<n.toNat->Rch (rs.map toRp) p
 | 4=>n-rs.length-1+lndN rs ts=2
 | _=>False
def detP(n:Int)(rs:List Raw)(ts:List (List Int)):ShF->Prop
 | .net w=>w=if 2<=n/\n<=15 then "ropes" else "places"
 | .rope k w=>∃r,rs[k]?=some r/\¬okRp n r/\(∀(j:Nat) r',j<k->rs[j]?=some r'->okRp n r')/\w=if okPl n r then "ease" else "place"
 | .turn p=>(p<n.toNat/\¬tOk (rs.map toRp) ts p/\∀i,i<p->tOk (rs.map toRp) ts i)\/((∀i,i<n.toNat->tOk (rs.map toRp) ts i)/\p=n.toNat)
 | .loose p=>p<n.toNat/\¬Rch (rs.map toRp) p/\∀i,i<p->Rch (rs.map toRp) i
 | .flat l=>l=lndN rs ts
 | .told=>True
structure DueP(n:Int)(rs:List Raw)(ts:List (List Int))(d:ShF):Prop where
 ups:∀i,i<stF d->stP n rs ts i
 at_:¬stP n rs ts (stF d)
 det:detP n rs ts d
theorem zpr{n:Int}{rs:List Raw}{ts:List (List Int)}{d e:ShF}(hd:DueP n rs ts d)(he:DueP n rs ts e):d=e:=by
 have es:stF d=stF e:=by
  rcases Nat.lt_trichotomy (stF d) (stF e) with z | z | z
  ·exact absurd (he.ups _ z) hd.at_
  ·exact z
  ·exact absurd (hd.ups _ z) he.at_
 obtain⟨_,_,h⟩:=hd;obtain⟨_,_,g⟩:=he
 match d,e,es,h,g with
 | .net w,.net w',_,h,g=>rw[show w=w' from h.trans g.symm]
 | .rope k w,.rope k' w',_,⟨r,h1,h2,h3,h4⟩,⟨r',g1,g2,g3,g4⟩ =>
  rcases Nat.lt_trichotomy k k' with z | z | z
  ·exact absurd (g3 k r z h1) h2
  ·subst z;rw[h1] at g1;cases g1;rw[h4,g4]
  ·exact absurd (h3 k' r' z g1) g2
 | .turn p,.turn p',_,h,g =>
  rcases h with ⟨h1,h2,h3⟩ | ⟨h1,h2⟩ <;> rcases g with ⟨g1,g2,g3⟩ | ⟨g1,g2⟩
  ·rcases Nat.lt_trichotomy p p' with z | z | z
   ·exact absurd (g3 p z) h2
   ·rw[z]
   ·exact absurd (h3 p' z) g2
  ·exact absurd (g1 p h1) h2
  ·exact absurd (h1 p' g1) g2
  ·rw[h2,g2]
 | .loose p,.loose p',_,⟨h1,h2,h3⟩,⟨g1,g2,g3⟩ =>
  rcases Nat.lt_trichotomy p p' with z | z | z
  ·exact absurd (g3 p z) h2
  ·rw[z]
  ·exact absurd (h3 p' z) g2
 | .flat l,.flat l',_,h,g=>rw[show l=l' from h.trans g.symm]
 | .told,.told,_,_,_=>rfl
theorem ups0{n:Int}{rs:List Raw}{ts:List (List Int)}:∀i,i<0->stP n rs ts i:=fun i h=>absurd h (Nat.not_lt_zero i)
theorem zl6{n:Int}{rs:List Raw}{ts:List (List Int)}{k:Nat}(h:∀i,i<k->stP n rs ts i)(hk:stP n rs ts k):∀i,i<k+1->stP n rs ts i:=fun i hi=>by
 rcases Nat.lt_or_ge i k with z | z
 ·exact h i z
 ·obtain rfl:i=k:=by omega
  exact hk
theorem zqm{n:Nat}:∀{rs:List Rope},(∀r∈rs,r.1<n/\r.2.1<n)->∀p∈hm0 rs,p<n
 | [],_,p,hp=>by cases hp
 | r :: rs,h,p,hp=>by
  have hp':p∈r.1 :: r.2.1 :: hm0 rs:=hp;rcases List.mem_cons.mp hp' with z | z
  ·rw[z]; exact(h r (List.mem_cons_self ..)).1
  rcases List.mem_cons.mp z with z | z
  ·rw[z]; exact(h r (List.mem_cons_self ..)).2
  ·exact zqm (fun r hr=>h r (List.mem_cons_of_mem _ hr)) p z
theorem hm_lt{n:Nat}{rs:List Rope}(n2:2<=n)(h:∀r∈rs,r.1<n/\r.2.1<n){x p:Nat}(e:(hm rs)[x]?=some p):p<n:=by
 have:=List.mem_of_getElem? e
 unfold hm at this;rcases List.mem_append.mp this with z | z
 ·exact zqm h p z
 ·simp at z;omega
theorem zns{n:Nat}{rs:List Rope}{ts:List (List Int)}(n2:2<=n)(hrs:∀r∈rs,r.1<n/\r.2.1<n)(ok:∀p,p<n->tOk rs ts p)(hl:ts.length<=n):Turns (2*rs.length+2) ts:=by
 have at':∀{p:Nat} {t:List Int},ts[p]?=some t->t.Perm (endsL (hm rs) p):=fun {p t} h=>by
  have:=ok p (by have:=(List.getElem?_eq_some_iff.mp h).1; omega)
  unfold tOk at this;rw[List.getD_eq_getElem?_getD,h] at this;exact this
 have ln:=zql rs;refine⟨?_,fun x=>?_,by omega⟩
 ·show List.Pairwise (·≠·) ts.flatten;rw[List.pairwise_flatten];refine⟨fun t ht=>?_,?_⟩
  ·obtain⟨p,hp⟩:=List.mem_iff_getElem?.mp ht;exact(at' hp).nodup_iff.mpr ((zgz (hm rs) p).imp fun h=>Int.ne_of_lt h)
  ·rw[List.pairwise_iff_getElem];intro i j hi hj ij;have ei:=at' (List.getElem?_eq_getElem hi);have ej:=at' (List.getElem?_eq_getElem hj);rintro x hx _ hy rfl;obtain⟨_,h1⟩:=mem_endsL.mp (ei.mem_iff.mp hx);obtain⟨_,h2⟩:=mem_endsL.mp (ej.mem_iff.mp hy);rw[h1] at h2;cases h2;omega
 ·rw[List.mem_flatten];constructor
  ·rintro⟨t,ht,hx⟩;obtain⟨p,hp⟩:=List.mem_iff_getElem?.mp ht;obtain⟨h0,h1⟩:=mem_endsL.mp ((at' hp).mem_iff.mp hx)
   have:=(List.getElem?_eq_some_iff.mp h1).1
   exact⟨h0,by omega⟩
  ·rintro⟨h0,h1⟩;have hx:x.toNat<(hm rs).length:=by omega
   have he:(hm rs)[x.toNat]?=some (hm rs)[x.toNat]:=List.getElem?_eq_getElem hx;generalize (hm rs)[x.toNat]=p at he;have pn:=hm_lt n2 hrs he;have hm':=(ok p pn).mem_iff.mpr (mem_endsL.mpr ⟨h0,he⟩);cases hq:ts[p]? with
   | none =>
    rw[List.getD_eq_getElem?_getD,hq] at hm';cases hm'
   | some t =>
    rw[List.getD_eq_getElem?_getD,hq] at hm';exact⟨t,List.mem_of_getElem? hq,hm'⟩
theorem zsp{n:Nat}{rs:List Rope}(hg:∀p,p<n->Rch rs p){p:Nat}(pn:p<n):endsL (hm rs) p≠[]:=by
 have fin:∀x:Nat,(hm rs)[x]?=some p->endsL (hm rs) p≠[]:=fun x h=>List.ne_nil_of_mem (a:=(x:Int)) (mem_endsL.mpr ⟨by omega,by rw[Int.toNat_natCast]; exact h⟩)
 obtain⟨o0,o1⟩:=zqk rs;by_cases p0:p=0
 ·exact fin _ (by rw[o0,p0])
 by_cases p1:p=1
 ·exact fin _ (by rw[o1,p1])
 have:∃r∈rs,r.1=p\/r.2.1=p:=Classical.byContradiction fun z=>by
  refine hg p pn (fun q=>q≠p) (Ne.symm p0) (fun r hr=>?_) rfl;have a:r.1≠p:=fun e=>z ⟨r,hr,.inl e⟩
  have b:r.2.1≠p:=fun e=>z ⟨r,hr,.inr e⟩
  exact⟨fun _=>b,fun _=>a⟩
 obtain⟨r,hr,hrp⟩:=this;obtain⟨i,hi⟩:=List.mem_iff_getElem?.mp hr;obtain⟨g1,g2⟩:=hm_at hi;rcases hrp with e | e
 ·exact fin _ (by rw[g1,e])
 ·exact fin _ (by rw[g2,e])
theorem znv{n:Nat}{rs:List Rope}{ts:List (List Int)}(hg:∀p,p<n->Rch rs p)(ok:∀p,p<n->tOk rs ts p)(hl:ts.length<=n):ts.length=n/\∀t∈ts,t≠[]:=by
 have ne:∀p,p<n->ts.getD p []≠[]:=fun p pn z=>by
  have:=ok p pn
  unfold tOk at this;rw[z] at this;exact zsp hg pn this.nil_eq.symm
 constructor
 ·refine Nat.le_antisymm hl (Nat.not_lt.mp fun z=>ne ts.length z ?_);rw[List.getD_eq_getElem?_getD,List.getElem?_eq_none (Nat.le_refl _)];rfl
 ·intro t ht;obtain⟨p,hp⟩:=List.mem_iff_getElem?.mp ht
  have:=ne p (by have:=(List.getElem?_eq_some_iff.mp hp).1; omega)
  rw[List.getD_eq_getElem?_getD,hp] at this;exact this
def resF(CN CR CT CL CX:Addr)(H:Hp)(Q:VK)(E:XK)(n:Int)(a:Addr)(ts:List (List Int)):ShF->Prop
 | .net w=>X1 CN "word" H E (.str w)
 | .rope k w=>NRo CR H E (k:Int) w
 | .turn p=>X1 CT "place" H E (.int (p:Int))
 | .loose p=>X1 CL "place" H E (.int (p:Int))
 | .flat l=>X1 CX "lands" H E (.int (l:Int))
 | .told=>∀p c H',Same H H'->H' p=some (.tup [.int n,.ref a,.ref c])->TupR IntsT H' c (ts.map begL)->Q (.ref p) H'
section
variable {P:Program} {w:World} {K:PySem.W.Frag} {mg:Str->Option Value} {base:Heap} {f g h f1 f2 f3 f4 f5 f6 fI C CN CR CT CL CX:Addr} {fd gd hd d1 d2 d3 d4 d5 d6 dI:FuncData}
inductive SpCkR(CN CR CT CL CX:Addr)(vs:List V)(H:Hp)(Q:VK)(E:XK):Prop
 | mk (n:Int) (a b:Addr) (rs:List Raw) (ts:List (List Int)) (h_0:vs=[.int n,.ref a,.ref b]) (h_1:TupR RawR H a rs) (h_2:TupR IntsT H b ts) (h_3:∀t∈ts,t.length<64) (h_4:∀d,DueP n rs ts d->resF CN CR CT CL CX H Q E n a ts d):SpCkR CN CR CT CL CX vs H Q E
def spCk(CN CR CT CL CX:Addr):Sp:=fun vs H Q E=>SpCkR CN CR CT CL CX vs H Q E
set_option maxHeartbeats 4000000 in
theorem ok_ck (F:Fun K "checked" "checked" zco f fd) (G1:FnOk P w K mg base (CXr P w) 3 f1 d1 ["places","ropes"] (spCN CN)) (b1:Binds K d1 ["places","ropes"] []) (k1:PySem.W.keepIn K (.ref f1)=true) (m1:mg "check_numbers" = some (.ref f1))
  (G2:FnOk P w K mg base (CXr P w) 3 f2 d2 ["places","number","rope"] (spCR CR)) (b2:Binds K d2 ["places","number","rope"] []) (k2:PySem.W.keepIn K (.ref f2)=true) (m2:mg "check_rope" = some (.ref f2))
  (G3:FnOk P w K mg base (CXr P w) 3 f3 d3 ["places","ropes","turns"] (spCT CT)) (b3:Binds K d3 ["places","ropes","turns"] []) (k3:PySem.W.keepIn K (.ref f3)=true) (m3:mg "check_turns" = some (.ref f3))
  (G4:FnOk P w K mg base (CXr P w) 3 f4 d4 ["places","ropes"] (spHg CL)) (b4:Binds K d4 ["places","ropes"] []) (k4:PySem.W.keepIn K (.ref f4)=true) (m4:mg "check_hanging" = some (.ref f4))
  (G5:FnOk P w K mg base (CXr P w) 4 f5 d5 ["places","ropes","turns"] (spCF CX)) (b5:Binds K d5 ["places","ropes","turns"] []) (k5:PySem.W.keepIn K (.ref f5)=true) (m5:mg "check_flat" = some (.ref f5))
  (G6:FnOk P w K mg base CX0 2 f6 d6 ["turns"] spTold) (b6:Binds K d6 ["turns"] []) (k6:PySem.W.keepIn K (.ref f6)=true) (m6:mg "told_turns" = some (.ref f6)) (me:mg "enumerate" = none) :
  FnOk P w K mg base (CXr P w) 5 f fd ["places","ropes","turns"] (spCk CN CR CT CL CX):=by
 refine okX F scCk (fun vs H Q E h=>?_) (fun cdv A outer s H vs Q E hr h=>?_)
 ·obtain⟨n,a,b,rs,ts,rfl,_⟩:=h;rfl
 obtain⟨n,a,b,rs,ts,rfl,hR,hT,htl,q⟩:=h;have r3:=hr.mono (show 3<=4 by decide);refine⟨_,za2 (zam (za9 (CX:=CXr P w) (E:=E) G1 r3 (by rfl) m1 k1 b1 .nil zbg (za0 (pv 0) (za0 (pv 1) za4))))
  (za2 (zbs PassesOwn.leaving rfl (zih (by rfl) me (za0 (pv 1) za4)) (pgTup (n:=2) (K:=K) rfl (zaw (zae (i:=3) scCk.nd rfl (Or.inl rfl)) (zaw (zae (i:=4) scCk.nd rfl (Or.inl rfl)) zdj)))
   (za6 (zam (za9 (CX:=CXr P w) (E:=E) G2 r3 (by rfl) m2 k2 b2 .nil zbg (za0 (pv 0) (za0 (pv 3) (za0 (pv 4) za4)))))))
  (za2 (zam (za9 (CX:=CXr P w) (E:=E) G3 r3 (by rfl) m3 k3 b3 .nil zbg (za0 (pv 0) (za0 (pv 1) (za0 (pv 2) za4)))))
  (za2 (zam (za9 (CX:=CXr P w) (E:=E) G4 r3 (by rfl) m4 k4 b4 .nil zbg (za0 (pv 0) (za0 (pv 1) za4))))
  (za2 (zam (za9 (CX:=CXr P w) (E:=E) G5 hr (by rfl) m5 k5 b5 .nil zbg (za0 (pv 0) (za0 (pv 1) (za0 (pv 2) za4)))))
  (za6 (zag (zb3 (za0 (pv 0) (za0 (pv 1) (za0 (za9 G6 (hr.mono (by decide)) (by rfl) m6 k6 b6 .nil pass0 (za0 (pv 2) za4)) za4)))))))))),?_⟩
 obtain⟨bs,ha,hB⟩:=id hR;have lbs:(bs.map V.ref).length=rs.length:=by rw[List.length_map,hB.1]
 refine⟨_,rfl,_,rfl,n,a,_,rfl,ha,fun n2 n15 l1 l14=>?_,fun z=>?_,fun n2 n15 z=>?_⟩;rotate_left
 ·exact q (.net "places") ⟨ups0,fun y=>z y.1,by show("places":Str)=_; rw[if_neg z]⟩
 ·rw[lbs] at z;exact q (.net "ropes") ⟨ups0,fun y=>z y.2,by show("ropes":Str)=_; rw[if_pos ⟨n2,n15⟩]⟩
 rw[lbs] at l1 l14;have U1:∀i,i<1->stP n rs ts i:=zl6 ups0 ⟨⟨n2,n15⟩,l1,l14⟩;dsimp only;refine zb8 fun UL hUL=>?_
 refine⟨_,rfl,a,_,rfl,ha,?_⟩;refine zgx (xs:=bs.map V.ref) (fun i σ H2=>(∃u v,σ=[some (.int n),some (.ref a),some (.ref b),u,v])/\Same H H2/\∀(j:Nat) r,j<i->rs[j]?=some r->okRp n r) ⟨⟨none,none,rfl⟩,Same.refl _,fun j r h=>by omega⟩ (fun i σ H2 _ ⟨_,s2,_⟩=>s2 _ _ ha) ?_ ?_
 ·rintro i x σ H2 p2 hx ⟨⟨u,v,rfl⟩,s2,hj⟩ hp2;obtain⟨c,r,rfl,_,hy,hc⟩:=hB.ref hx;have s3:=s2.trans (za5 hp2 (.tup [.int i,.ref c]));refine⟨p2,_,rfl,SqT.of za1,rfl,_,_,rfl,_,_,rfl,rfl,?_⟩;generalize upd H2 p2 (.tup [.int i,.ref c])=H3 at s3;have nok:¬okRp n r->¬stP n rs ts 1:=fun z y=>z (y r (List.mem_of_getElem? hy))
  refine⟨_,rfl,_,rfl,_,rfl,n,(i:Int),c,r,rfl,zd9 s3 hc,fun ok H4 s4=>⟨⟨_,_,rfl⟩,s3.trans s4,fun j r' h1 h2=>?_⟩,fun z=>?_,fun z1 z2=>?_⟩
  ·rcases Nat.lt_or_ge j i with y | y
   ·exact hj j r' y h2
   ·obtain rfl:j=i:=by omega
    rw[hy] at h2;cases h2;exact ok
  ·have nz:¬okRp n r:=fun y=>z y.1
   exact(show NRo CR H E (i:Int) "place" from q (.rope i "place") ⟨U1,nok nz,r,hy,nz,hj,by rw[if_neg z]⟩).mono s3
  ·have nz:¬okRp n r:=fun y=>z2 y.2
   exact(show NRo CR H E (i:Int) "ease" from q (.rope i "ease") ⟨U1,nok nz,r,hy,nz,hj,by rw[if_pos z1]⟩).mono s3
 rintro σ H2 ⟨⟨u,v,rfl⟩,s2,hj⟩;subst hUL;have okA:∀r∈rs,okRp n r:=fun r hr=>by
  obtain⟨i,hi⟩:=List.mem_iff_getElem?.mp hr;exact hj i r (by rw[lbs]; exact(List.getElem?_eq_some_iff.mp hi).1) hi
 have U2:∀i,i<2->stP n rs ts i:=zl6 U1 okA;obtain⟨N,rfl⟩:=Int.eq_ofNat_of_zero_le (show 0<=n by omega);have eN:((N:Nat):Int).toNat=N:=Int.toNat_natCast N;have hRp:=zki hR okA;have hrs:∀r∈rs.map toRp,r.1<N/\r.2.1<N:=fun r hr=>by
  obtain⟨r',hr',rfl⟩:=List.mem_map.mp hr;obtain⟨⟨⟨a1,a2⟩,a3,a4⟩,_⟩:=okA r' hr';exact⟨by show r'.1.toNat<N; omega,by show r'.2.1.toNat<N; omega⟩
 have lm:(rs.map toRp).length=rs.length:=List.length_map ..;refine⟨_,rfl,_,rfl,_,rfl,N,a,b,rs.map toRp,ts,rfl,by omega,by omega,by rw[lm]; exact l14,mo_rr s2 hRp,hrs,zdu s2 hT,htl,fun ok tl H3 s3=>?_,fun p pn z zs=>?_,fun ok z=>?_⟩;rotate_left
 ·exact(show X1 CT "place" H E (.int (p:Int)) from q (.turn p) ⟨U2,fun y=>z (y.1 p (by rw[eN]; exact pn)),.inl ⟨by rw[eN]; exact pn,z,zs⟩⟩).mono s2
 ·exact(show X1 CT "place" H E (.int (N:Int)) from q (.turn N) ⟨U2,fun y=>by have:=y.2; rw[eN] at this; omega,.inr ⟨fun i hi=>ok i (by rw[eN] at hi; exact hi),eN.symm⟩⟩).mono s2
 have U3:∀i,i<3->stP (N:Int) rs ts i:=zl6 U2 ⟨fun p hp=>ok p (by rw[eN] at hp; exact hp),by rw[eN]; exact tl⟩;have s03:=s2.trans s3;have TT:=zns (by omega) hrs ok tl;rw[lm] at TT;refine⟨_,rfl,_,rfl,N,a,rs.map toRp,rfl,by omega,by omega,mo_rr s03 hRp,hrs,fun hg H4 s4=>?_,fun p d H4 pn nr hi s4 hd=>?_⟩;rotate_left
 ·exact(show X1 CL "place" H E (.int (p:Int)) from q (.loose p) ⟨U3,fun y=>nr (y p (by rw[eN]; exact pn)),by rw[eN]; exact pn,nr,hi⟩) d H4 (s03.trans s4) hd
 have U4:∀i,i<4->stP (N:Int) rs ts i:=zl6 U3 fun p hp=>hg p (by rw[eN] at hp; exact hp)
 have s04:=s03.trans s4;refine⟨_,rfl,_,rfl,_,rfl,(N:Int),a,b,_,2*rs.length+2,ts,rfl,s04 _ _ ha,zdu s04 hT,TT,by omega,fun z=>?_,fun z H5 s5=>?_⟩
 ·rw[lbs] at z;exact(show X1 CX "lands" H E (.int (lndN rs ts:Int)) from q (.flat (lndN rs ts)) ⟨U4,z,rfl⟩).mono s04
 rw[lbs] at z;have U5:∀i,i<5->stP (N:Int) rs ts i:=zl6 U4 z;have s05:=s04.trans s5;obtain⟨tn,tne⟩:=znv hg ok tl;refine⟨_,rfl,_,rfl,_,rfl,b,ts,rfl,zdu s05 hT,by omega,fun t ht=>⟨tne t ht,by have:=htl t ht; omega⟩,fun c H6 s6 hc=>?_⟩;refine⟨by show 3<=sizeLine; decide,fun p hp=>?_⟩;have s7:=za5 hp (.tup [.int (N:Int),.ref a,.ref c]);exact q .told ⟨U5,fun y=>y,trivial⟩ p c _ (s05.trans (s6.trans s7)) za1 (zdu s7 hc)
end
abbrev txt(n:Int):Str:=Str.ofString (toString n)
theorem zef(n:Nat):(txt (n:Int)).cps.toList=(Nat.toDigits 10 n).map Char.toNat:=PySem.W.KIN.signs_num n
theorem zl8{n c:Nat}(h:c∈(txt (n:Int)).cps.toList):48<=c/\c<=57:=by
 rw[zef] at h;obtain⟨ch,hch,rfl⟩:=List.mem_map.mp h;have r:=Nat.isDigit_of_mem_toDigits (by decide) (by decide) hch;unfold Char.isDigit at r;rw[Bool.and_eq_true,decide_eq_true_eq,decide_eq_true_eq] at r;exact⟨UInt32.le_iff_toNat_le.mp r.1,UInt32.le_iff_toNat_le.mp r.2⟩
theorem zl7{n k:Nat}(hk:0<k)(h:n<10 ^ k):(txt (n:Int)).length<=k:=PyProof.Rows.toString_length_le (by omega) hk (by
 have:((n:Nat):Int)<((10 ^ k:Nat):Int):=by omega
 rwa [Int.natCast_pow] at this)
theorem dig_ne(n:Nat):Nat.toDigits 10 n≠[]:=fun e=>by
 have h:=Nat.length_toDigits_pos (b:=10) (n:=n);rw[e] at h;exact absurd h (by decide)
theorem txt_ne(n:Nat):(txt (n:Int)).cps.toList≠[]:=by
 rw[zef];exact fun e=>dig_ne n (List.map_eq_nil_iff.mp e)
theorem zps:∀n:Nat,0<n->∃d,d≠'0'/\(Nat.toDigits 10 n).head?=some d:=by
 intro n
 induction n using Nat.strongRecOn with
 | _ n ih =>
  intro h;by_cases h1:n<10
  ·rw[Nat.toDigits_of_lt_base h1];refine⟨_,?_,rfl⟩
   have:∀m:Nat,m<10->0<m->Nat.digitChar m≠'0':=by decide
   exact this n h1 h
  ·obtain⟨d,hd,e⟩:=ih (n / 10) (by omega) (by omega);rw[Nat.toDigits_of_base_le (by decide) (by omega)];refine⟨d,hd,?_⟩;rw[List.head?_append,e];rfl
theorem znr{n:Nat}(h:0<n):∃c,c≠48/\(txt (n:Int)).cps.toList[0]?=some c:=by
 obtain⟨d,hd,e⟩:=zps n h;refine⟨d.toNat,fun z=>hd (Char.toNat_inj.mp z),?_⟩;rw[zef,List.getElem?_map,<-List.head?_eq_getElem?,e];rfl
theorem slog{n:Nat}(h:n<10 ^ 64):((n:Nat):Int).natAbs.log2<1920:=by
 rw[Int.natAbs_natCast];by_cases z:n=0
 ·rw[z]; decide
 ·exact(Nat.log2_lt z).mpr (Nat.lt_of_lt_of_le h (by decide))
theorem zc9(a b:Str):(a++b).length=a.length+b.length:=by rw[zca,zb7,List.length_append,<-zca,<-zca]
theorem zj7:∀{ts:List Str} {b:Nat},(∀t∈ts,t.length<=b)->(ts.map (·.length)).sum<=ts.length*b
 | [],_,_=>by simp
 | t :: r,b,h=>by
  have h1:=h t (List.mem_cons_self ..);have h2:=zj7 (ts:=r) (b:=b) fun x hx=>h x (List.mem_cons_of_mem _ hx)
  simp only[List.map_cons,List.sum_cons,List.length_cons,Nat.add_mul,Nat.one_mul];omega
theorem zdw{y:Str}{ts:List Str}{b:Nat}(h:∀t∈ts,t.length<=b):(Str.join y ts).length<=ts.length*(b+y.length):=by
 have h1:=StrLaws.join_length_le y ts;have h2:=zj7 h;rw[Nat.mul_add];omega
abbrev bl1:Str:=Str.ofString " "
abbrev slC:Str:=Str.ofString "/"
abbrev spC:Str:=Str.ofString ", "
abbrev spS:Str:=Str.ofString "; "
abbrev spB:Str:=Str.ofString " | "
theorem zj8{ts:List Str}(hne:ts≠[])(h:∀t∈ts,32∉t.cps.toList):Txt.split (Str.join bl1 ts) bl1=ts:=zck (c:=32) (j:=0) rfl (fun i hi=>by have:=(List.getElem?_eq_some_iff.mp hi).1; have e:bl1.cps.toList.length=1:=rfl; omega) (by decide +kernel) hne h
theorem znw{ts:List Str}(hne:ts≠[])(h:∀t∈ts,47∉t.cps.toList):Txt.split (Str.join slC ts) slC=ts:=zck (c:=47) (j:=0) rfl (fun i hi=>by have:=(List.getElem?_eq_some_iff.mp hi).1; have e:slC.cps.toList.length=1:=rfl; omega) (by decide +kernel) hne h
theorem zq2{a b i:Nat}(ab:a≠b)(h:([a,b]:List Nat)[i]?=some a):i=0:=by
 match i,h with
 | 0,_=>rfl
 | 1,h=>exact absurd (Option.some.inj h) (Ne.symm ab)
 | i+2,h=>simp at h
theorem znx{ts:List Str}(hne:ts≠[])(h:∀t∈ts,44∉t.cps.toList):Txt.split (Str.join spC ts) spC=ts:=zck (c:=44) (j:=0) rfl (fun i hi=>zq2 (b:=32) (by decide) hi) (by decide +kernel) hne h
theorem zeh{ts:List Str}(hne:ts≠[])(h:∀t∈ts,59∉t.cps.toList):Txt.split (Str.join spS ts) spS=ts:=zck (c:=59) (j:=0) rfl (fun i hi=>zq2 (b:=32) (by decide) hi) (by decide +kernel) hne h
theorem zo0(x y:Str):Txt.split x y≠[]:=by
 unfold Txt.split;split
 ·simp
 ·split
  ·simp
  ·rw[StrLaws.partsBetween_eq];obtain⟨p,r,e⟩:=StrLaws.partsFrom_ne x y.length 0 (Builtin.Str.occurrences x y 0 x.length (x.length+1));rw[e];simp
theorem zk0{x t:Str}{w:Nat}:∀{cuts:List Nat} {a:Nat},t∈StrLaws.partsFrom x w a cuts->∃i j,t=Builtin.Str.strSub x i j
 | [],a,h=>⟨a,x.length,List.mem_singleton.mp h⟩
 | c :: r,a,h=>by
  rcases List.mem_cons.mp h with h | h
  ·exact⟨a,c,h⟩
  ·exact zk0 h
theorem zh6{x y t:Str}(h:t∈Txt.split x y):t=x\/∃i j,t=Builtin.Str.strSub x i j:=by
 unfold Txt.split at h;split at h
 ·exact .inl (List.mem_singleton.mp h)
 ·split at h
  ·exact .inl (List.mem_singleton.mp h)
  ·rw[StrLaws.partsBetween_eq] at h;exact .inr (zk0 h)
def Asc(x:Str):Prop:=∀c∈x.cps.toList,c<128
theorem Asc.all{x:Str}(h:Asc x):x.cps.all (· < 128)=true:=by
 rw[<-Array.all_toList,List.all_eq_true];exact fun c hc=>decide_eq_true (h c hc)
theorem zld{x y t:Str}{c:Nat}(h:t∈Txt.split x y)(hc:c∈t.cps.toList):c∈x.cps.toList:=by
 rcases zh6 h with rfl | ⟨i,j,rfl⟩
 ·exact hc
 ·rw[zcc] at hc;exact List.mem_of_mem_drop (List.mem_of_mem_take hc)
theorem Asc.split{x y t:Str}(h:Asc x)(ht:t∈Txt.split x y):Asc t:=fun c hc=>h c (zld ht hc)
theorem zei{x y t:Str}(h:t∈Txt.split x y):t.length<=x.length:=by
 rcases zh6 h with rfl | ⟨i,j,rfl⟩
 ·exact Nat.le_refl _
 ·rw[zca,zcc,zca,List.length_take,List.length_drop];omega
theorem zkc(x y:Str):(Txt.split x y).length<=x.length+2:=by
 unfold Txt.split;split
 ·show 1<=_;omega
 ·split
  ·show 1<=_;omega
  ·exact zqg x y
def numOk(x:Str)(k:Nat):Bool:=decide (1<=x.length) && decide (x.length<=k) && x.cps.toList.all (fun c=>decide (48<=c) && decide (c<=57)) && (decide (x=Str.ofString "0") || decide (x.cps.toList[0]?≠some 48))
def numV(x:Str):Int:=((NumText.digitsVal x.cps.toList:Nat):Int)
theorem zf3{x:Str}{k:Nat}(h:numOk x k=true):1<=x.length/\x.length<=k/\∀c∈x.cps.toList,48<=c/\c<=57:=by
 unfold numOk at h;simp only[Bool.and_eq_true,decide_eq_true_eq,List.all_eq_true] at h;exact⟨h.1.1.1,h.1.1.2,h.1.2⟩
theorem zm5{x:Str}{k:Nat}(h:numOk x k=true)(hk:k<=600):PySem.intText? x=some (numV x):=by
 obtain⟨h1,h2,h3⟩:=zf3 h;exact intText_digits (x:=x) h3 (fun z=>by rw[zca,z] at h1; exact absurd h1 (by decide)) (by omega)
theorem zs7{n k:Nat}(hk:0<k)(h:n<10 ^ k):numOk (txt (n:Int)) k=true/\numV (txt (n:Int))=(n:Int):=by
 have l1:=zl7 hk h;have l0:1<=(txt (n:Int)).length:=by
  rw[zca];exact List.length_pos_iff.mpr (txt_ne n)
 refine⟨?_,?_⟩
 ·unfold numOk;rw[decide_eq_true l0,decide_eq_true l1];have al:((txt (n:Int)).cps.toList.all fun c=>decide (48<=c) && decide (c<=57))=true:=by
   rw[List.all_eq_true];intro c hc;obtain⟨a,b⟩:=zl8 hc;rw[decide_eq_true a,decide_eq_true b];rfl
  rw[al];rcases Nat.eq_zero_or_pos n with z | z
  ·rw[z];decide +kernel
  ·obtain⟨c,c0,e⟩:=znr z;rw[e]
   have:decide (some c≠some 48)=true:=decide_eq_true fun y=>c0 (Option.some.inj y)
   rw[this];simp
 ·unfold numV;rw[zef,PySem.W.KIN.val_back]
theorem num_nn(x:Str):0<=numV x:=Int.natCast_nonneg _
def easeR(x:Str):Option (Int×Int):=match Txt.split x slC with
 | [a]=>if numOk a 40 then some (Mth.frac (numV a) 1) else none
 | [a,b]=>if numOk a 40 && numOk b 40 && decide (numV b≠0) then some (Mth.frac (numV a) (numV b)) else none
 | _=>none
def ropeR(x:Str):Option Raw:=match Txt.split x bl1 with
 | [a,b,c]=>if numOk a 3 && numOk b 3 then (easeR c).map fun e=>(numV a,numV b,e.1,e.2) else none
 | _=>none
def turnR(x:Str):Option (List Int):=if (Txt.split x bl1).all (numOk · 3) then some ((Txt.split x bl1).map numV) else none
theorem zg3:bootBuiltins "str" = some (.type "str"):=by decide +kernel
theorem zsu:bootBuiltins "int" = some (.type "int"):=by decide +kernel
theorem digs:(Str.ofString "0123456789").cps.toList=[48,49,50,51,52,53,54,55,56,57]:=by decide +kernel
theorem one_zero{c:Nat}:V.str ⟨#[c]⟩=V.str (Str.ofString "0")↔c=48:=by
 have e2:(Str.ofString "0").cps.toList=[48]:=by decide +kernel
 refine⟨fun z=>?_,fun z=>?_⟩
 ·have e:(⟨#[c]⟩:Str).cps.toList=(Str.ofString "0").cps.toList:=by rw[V.str.inj z]
  rw[e2] at e;exact(List.cons.inj e).1
 ·rw[z];congr 1
section
variable {P:Program} {w:World} {K:PySem.W.Frag} {mg:Str->Option Value} {base:Heap} {f g h f1 f2 f3 f4 f5 fI CP:Addr} {fd gd hd d1 d2 d3 d4 d5 dI:FuncData}
theorem scNXi:FnScope ["self","part"] ["self","part"] (defScope sNXInit):=⟨rfl,rfl,rfl,by decide +kernel,rfl,by decide +kernel,by decide +kernel⟩
theorem zrv{C:Addr}(F:Fun K "__init__" "NoText.__init__" sNXInit f fd)(x1:XStore K C "part"):FnOk P w K mg base CX0 1 f fd ["self","part"] (sp1 C "part"):=by
 refine F.ok scNXi (fun vs H Q E h=>?_) (fun cdv A outer s H vs Q E hr h=>?_)
 ·obtain⟨e,t,y,rfl,_⟩:=h;rfl
 obtain⟨e,t,y,rfl,he,q⟩:=h;exact⟨_,za6 (ze2 (pv 0) (pv 1) rfl),init1 x1 he q⟩
inductive SpInR(vs:List V)(H:Hp)(Q:VK):Prop
 | mk (x:Str) (k:Nat) (h_0:vs=[.str x,.int (k:Int)]) (h_1:Asc x) (h_2:x.length<=100000) (h_4:Q (.bl (numOk x k)) H):SpInR vs H Q
def spIn:Sp:=fun vs H Q _=>SpInR vs H Q
theorem scIn:FnScope ["text","most","sign"] ["text","most"] (defScope zbx):=⟨rfl,rfl,rfl,by decide +kernel,rfl,by decide +kernel,by decide +kernel⟩
theorem zm6{x:Str}{k:Nat}(h:¬(1<=x.length/\x.length<=k)):numOk x k=false:=by
 cases q:numOk x k with
 | false=>rfl
 | true=>obtain⟨a,b,_⟩:=zf3 q; exact absurd ⟨a,b⟩ h
theorem zs8{x:Str}{k i c:Nat}(h:x.cps[i]?=some c)(hc:¬(48<=c/\c<=57)):numOk x k=false:=by
 cases q:numOk x k with
 | false=>rfl
 | true =>
  obtain⟨_,_,a⟩:=zf3 q;exact absurd (a c (List.mem_of_getElem? (by rw[Array.getElem?_toList]; exact h))) hc
theorem num_is{x:Str}{k:Nat}(h1:1<=x.length)(h2:x.length<=k)(h3:∀(i:Nat) c,x.cps[i]?=some c->48<=c/\c<=57):numOk x k=(decide (x=Str.ofString "0") || decide (x.cps.toList[0]?≠some 48)):=by
 unfold numOk;have al:(x.cps.toList.all fun c=>decide (48<=c) && decide (c<=57))=true:=by
  rw[List.all_eq_true];intro c hc;obtain⟨i,hi⟩:=List.mem_iff_getElem?.mp hc;obtain⟨a,b⟩:=h3 i c (by rw[<-Array.getElem?_toList]; exact hi);rw[decide_eq_true a,decide_eq_true b];rfl
 rw[decide_eq_true h1,decide_eq_true h2,al];rfl
set_option maxHeartbeats 4000000 in
seal L2.PSs L2.PS L2.PE L2.PA in
theorem zoz(F:Fun K "is_number" "is_number" zbx f fd)(ml:mg "len" = none):FnOk P w K mg base CX0 1 f fd ["text","most"] spIn:=by
 refine F.ok scIn (fun vs H Q E h=>?_) (fun cdv A outer s H vs Q E hr h=>?_)
 ·obtain⟨n,k,rfl,_⟩:=h;rfl
 obtain⟨t,k,rfl,asc,hl,q⟩:=h;refine⟨_,za2 (zas (PW.pt (zkk (zac zf1 (zab zed (by rfl) ml zav (za0 (pv 0) za4)) za3 (nomark _)) (zfp (zac zim (zab zed (by rfl) ml zav (za0 (pv 0) za4)) (pv 1) (nomark _))))) (za6 (zag zgl)) zad)
  (za2 (zbs PassesOwn.never rfl (pi_str (pv 0)) (zae (i:=2) scIn.nd rfl (Or.inl rfl)) (za6 (zas (zac zhj (pv 2) zaa (by with_unfolding_all rfl)) (za6 (zag zgl)) zad)))
  (za6 (zag (pe_or (zgk zd7 (pv 0) zaa (nomark _)) (pe_one (zgk zhk (zai ix_str (pv 0) za3 (fun _ _=>rfl)) zaa (nomark _))))))),?_⟩
 have zl:t.length<=sizeLine:=by rw[sizeLine_eq]; omega
 refine⟨_,rfl,_,rfl,zl,_,_,rfl,rfl,_,rfl,?_⟩;by_cases c1:(t.length:Int)<1
 ·refine iteDT c1 ?_;rw[zm6 (by omega)] at q;exact q
 refine iteDF c1 ⟨_,rfl,_,rfl,zl,_,rfl,_,_,rfl,rfl,_,rfl,?_⟩;by_cases c2:(k:Int)<(t.length:Int)
 ·refine iteDT c2 ?_;rw[zm6 (by omega)] at q;exact q
 refine iteDF c2 ⟨_,rfl,_,rfl,asc.all,?_⟩;refine zsh (fun i σ H2=>∃u,σ=[some (.str t),some (.int (k:Int)),u]/\H2=H/\∀(j:Nat) c,j<i->t.cps[j]?=some c->48<=c/\c<=57) ⟨none,rfl,rfl,fun j c h=>by omega⟩ ?_ ?_
 ·rintro i c σ H2 hx ⟨u,rfl,rfl,hd⟩;refine⟨_,rfl,_,_,rfl,rfl,_,rfl,?_⟩;rw[StrLaws.found_one,digs];by_cases hc:48<=c/\c<=57
  ·refine iteNS ?_ ⟨_,rfl,rfl,fun j c' h1 h2=>?_⟩
   ·simp only[List.mem_cons,List.not_mem_nil,or_false];omega
   ·rcases Nat.lt_or_ge j i with y | y
    ·exact hd j c' y h2
    ·obtain rfl:j=i:=by omega
     rw[hx] at h2;cases h2;exact hc
  ·refine iteNN ?_ ?_
   ·simp only[List.mem_cons,List.not_mem_nil,or_false];omega
   ·rw[zs8 hx hc] at q;exact q
 ·rintro σ H2 ⟨u,rfl,rfl,hd⟩;have dg:∀(i:Nat) c,t.cps[i]?=some c->48<=c/\c<=57:=fun i c h=>hd i c (Array.getElem?_eq_some_iff.mp h).1 h
  rw[num_is (by omega) (by omega) dg] at q;refine⟨_,rfl,rfl,_,rfl,?_⟩;by_cases z:t=Str.ofString "0"
  ·rw[decide_eq_true z] at q;exact iteDT (by rw[z]) q
  ·rw[decide_eq_false z,Bool.false_or] at q;refine iteDF (fun e=>z (V.str.inj e)) ?_;obtain⟨c,hc⟩:∃c,t.cps.toList[0]?=some c:=⟨_,List.getElem?_eq_getElem (by rw[<-zca]; omega)⟩;refine⟨_,rfl,_,_,c,rfl,rfl,zl,zaf (j:=0) hc,rfl,?_⟩;rw[hc] at q;have e:decide (some c≠some 48)=!decide (V.str ⟨#[c]⟩=V.str (Str.ofString "0")):=by
    by_cases y:c=48
    ·rw[decide_eq_true (one_zero.mpr y),decide_eq_false (p:=some c≠some 48) (fun h=>h (by rw[y]))];rfl
    ·rw[decide_eq_false (fun h=>y (one_zero.mp h)),decide_eq_true (p:=some c≠some 48) (fun h=>y (Option.some.inj h))];rfl
   rw[e] at q;exact q
inductive SpNrR(CP:Addr)(vs:List V)(H:Hp)(Q:VK)(E:XK):Prop
 | mk (x:Str) (k:Nat) (p:Int) (h_0:vs=[.str x,.int (k:Int),.int p]) (h_1:Asc x) (h_2:x.length<=100000) (h_3:k<=600) (h_4:numOk x k=true->Q (.int (numV x)) H) (h_5:numOk x k=false->X1 CP "part" H E (.int p)):SpNrR CP vs H Q E
def spNr(CP:Addr):Sp:=fun vs H Q E=>SpNrR CP vs H Q E
theorem scNr:FnScope ["text","most","part"] ["text","most","part"] (defScope zb9):=⟨rfl,rfl,rfl,by decide +kernel,rfl,by decide +kernel,by decide +kernel⟩
set_option maxHeartbeats 4000000 in
theorem zrw (F:Fun K "number_read" "number_read" zb9 f fd) (G:FnOk P w K mg base CX0 1 g gd ["text","most"] spIn) (bG:Binds K gd ["text","most"] []) (kG:PySem.W.keepIn K (.ref g)=true) (mG:mg "is_number" = some (.ref g)) (mi:mg "int" = none)
  (GI:FnOk P w K mg base CX0 1 fI dI ["self","part"] (sp1 CP "part")) (bI:Binds K dI ["self","part"] []) (iI:PySem.W.isFn K (.ref fI)=true) (mC:mg "NoText" = some (.ref CP)) (xC:excI K CP bmV "ValueError.__new__" fI=true):FnOk P w K mg base (CXr P w) 3 f fd ["text","most","part"] (spNr CP):=by
 refine okX F scNr (fun vs H Q E h=>?_) (fun cdv A outer s H vs Q E hr h=>?_)
 ·obtain⟨n,k,p,rfl,_⟩:=h;rfl
 obtain⟨x,k,p,rfl,asc,hl,k6,q1,q2⟩:=h;refine⟨_,za2 (zas (zqb (zec (za9 G (hr.mono (by decide)) (by rfl) mG kG bG .nil pass0 (za0 (pv 0) (za0 (pv 1) za4))))) (za6 (zb0 (by rfl) mC xC PySem.F.excBase_ValueError rfl zao GI (hr.mono (by decide)) bI iI (za0 (pv 2) za4))) zad)
  (za6 (zag (zak zi3 (by rfl) mi zsu (za0 (pv 0) za4)))),?_⟩
 refine⟨_,rfl,_,rfl,x,k,rfl,asc,hl,_,rfl,?_⟩;cases hn:numOk x k with
 | false=>exact iteT ⟨_,rfl,rz1 (q2 hn)⟩
 | true =>
  have:=zf3 hn
  exact iteF ⟨_,rfl,_,_,rfl,zm5 hn k6,by omega,q1 hn⟩
end
theorem dv_lt:∀(cs:List Nat) (acc:Nat),(∀c∈cs,c<=57)->cs.foldl (fun acc c=>acc*10+(c-48)) acc<(acc+1)*10 ^ cs.length
 | [],acc,_=>by simp
 | c :: cs,acc,h=>by
  have h1:=dv_lt cs (acc*10+(c-48)) fun d hd=>h d (List.mem_cons_of_mem _ hd)
  have hc:=h c (List.mem_cons_self ..);rw[List.foldl_cons,List.length_cons,Nat.pow_succ];refine Nat.lt_of_lt_of_le h1 ?_
  have:acc*10+(c-48)+1<=(acc+1)*10:=by omega
  have:=Nat.mul_le_mul_right (10 ^ cs.length) this
  rw[Nat.mul_assoc,Nat.mul_comm 10] at this;exact this
theorem num_lt{x:Str}{k:Nat}(h:numOk x k=true):numV x<((10 ^ k:Nat):Int):=by
 obtain⟨_,h2,h3⟩:=zf3 h
 have:=dv_lt x.cps.toList 0 fun c hc=>(h3 c hc).2
 rw[Nat.zero_add,Nat.one_mul,<-zca] at this;have p:=Nat.pow_le_pow_right (show 0<10 by decide) h2;unfold numV NumText.digitsVal;exact Int.ofNat_lt.mpr (Nat.lt_of_lt_of_le this p)
theorem zlb{ts:List Str}{i:Nat}{x:V}(h:(ts.map V.str)[i]?=some x):∃t,x=.str t/\ts[i]?=some t:=by
 rw[List.getElem?_map] at h;obtain⟨t,h1,h2⟩:=Option.map_eq_some_iff.mp h;exact⟨t,h2.symm,h1⟩
theorem RawR.del{H:Hp}{a b:Addr}{r:Raw}{ys:List V}(h:RawR H b r)(e:H a=some (.lst ys)):RawR (del H a) b r:=by
 obtain⟨d,h1,h2⟩:=h;refine⟨d,zd6 h1 fun z=>?_,zd6 h2 fun z=>?_⟩
 ·rw[z,e] at h1; cases h1
 ·rw[z,e] at h2; cases h2
section
variable {P:Program} {w:World} {K:PySem.W.Frag} {mg:Str->Option Value} {base:Heap} {f g h f1 f2 f3 f4 f5 fI CP:Addr} {fd gd hd d1 d2 d3 d4 d5 dI:FuncData}
theorem scF2:FnScope ["top","bottom","part"] ["top","bottom"] (defScope sFraction):=⟨rfl,rfl,rfl,by decide +kernel,rfl,by decide +kernel,by decide +kernel⟩
set_option maxHeartbeats 4000000 in
theorem zp1(F:Fun K "fraction" "fraction" sFraction f fd)(G:FnOk P w K mg base CX0 1 g gd ["one","other"] spGcd)(bG:Binds K gd ["one","other"] [])(kG:PySem.W.keepIn K (.ref g)=true)(mG:mg "common_part" = some (.ref g)):FnOk P w K mg base CX0 2 f fd ["top","bottom"] spLow:=by
 refine F.ok scF2 (fun vs H Q E h=>?_) (fun cdv A outer s H vs Q E hr h=>?_)
 ·obtain⟨a,b,rfl,_⟩:=h;rfl
 obtain⟨t,b,rfl,hb,hz,h1⟩:=h;refine⟨_,za2 (zas (zac zd7 (pv 1) za3 (nomark _)) zex zad)
  (za2 (za8 (i:=2) scF2.nd rfl (Or.inl rfl) (za9 G hr (by rfl) mG kG bG .nil pass0 (za0 (pv 0) (za0 (pv 1) za4))))
  (za2 (zas (zac zf1 (pv 1) za3 (nomark _)) (za6 (za8 (i:=2) scF2.nd rfl (Or.inl rfl) (pe_un zq1 (pv 2)))) zad)
  (za6 (zag (zb3 (za0 (za7 zeo (pv 0) (pv 2)) (za0 (za7 zeo (pv 1) (pv 2)) za4))))))),?_⟩
 refine⟨_,rfl,rfl,_,rfl,iteDF (ivn hz) ?_⟩;refine⟨_,rfl,_,rfl,t,b,rfl,?_⟩;refine⟨_,rfl,_,_,rfl,rfl,_,rfl,?_⟩;have fin:∀part,part=Mth.part t b->tRet (tTup (tCons (tOp (rI CDivB fun i j=>V.int (i.fdiv j)) (tVar 0) (tVar 2)) (tCons (tOp (rI CDivB fun i j=>V.int (i.fdiv j)) (tVar 1) (tVar 2)) tNil)))
   { nx:=fun _ H'=>Q .non H',rt:=Q } [some (.int t),some (.int b),some (.int part)] H:=by
  rintro part rfl;have hp:CDivB t (Mth.part t b):=⟨zf0 t b hz,Nat.lt_of_le_of_lt (zlx t b hz) hb⟩;exact⟨_,rfl,_,rfl,_,_,rfl,rfl,hp,_,rfl,_,rfl,_,_,rfl,rfl,hp,by show 2<=sizeLine; decide,h1⟩
 by_cases hn:b<0
 ·refine iteDT hn ?_;exact⟨_,rfl,_,rfl,fin _ (by unfold Mth.part; rw[if_pos hn])⟩
 ·refine iteDF hn ?_;exact fin _ (by unfold Mth.part; rw[if_neg hn])
inductive SpErR(CP:Addr)(vs:List V)(H:Hp)(Q:VK)(E:XK):Prop
 | mk (x:Str) (h_0:vs=[.str x]) (h_1:Asc x) (h_2:x.length<=900) (h_3:∀e,easeR x=some e->∀p H',Same H H'->H' p=some (.tup [.int e.1,.int e.2])->Q (.ref p) H') (h_4:easeR x=none->X1 CP "part" H E (.int 1)):SpErR CP vs H Q E
def spEr(CP:Addr):Sp:=fun vs H Q E=>SpErR CP vs H Q E
theorem scEr:FnScope ["text","numbers","top","bottom"] ["text"] (defScope zby):=⟨rfl,rfl,rfl,by decide +kernel,rfl,by decide +kernel,by decide +kernel⟩
set_option maxHeartbeats 4000000 in
seal L2.PSs L2.PS L2.PE L2.PA in
theorem zp2 (F:Fun K "ease_read" "ease_read" zby f fd) (G:FnOk P w K mg base (CXr P w) 3 g gd ["text","most","part"] (spNr CP)) (bG:Binds K gd ["text","most","part"] []) (kG:PySem.W.keepIn K (.ref g)=true) (mG:mg "number_read" = some (.ref g))
  (G2:FnOk P w K mg base CX0 2 h hd ["top","bottom"] spLow) (bG2:Binds K hd ["top","bottom"] []) (kG2:PySem.W.keepIn K (.ref h)=true) (mG2:mg "fraction" = some (.ref h)) (ml:mg "len" = none)
  (GI:FnOk P w K mg base CX0 1 fI dI ["self","part"] (sp1 CP "part")) (bI:Binds K dI ["self","part"] []) (iI:PySem.W.isFn K (.ref fI)=true) (mC:mg "NoText" = some (.ref CP)) (xC:excI K CP bmV "ValueError.__new__" fI=true):FnOk P w K mg base (CXr P w) 4 f fd ["text"] (spEr CP):=by
 refine okX F scEr (fun vs H Q E h=>?_) (fun cdv A outer s H vs Q E hr h=>?_)
 ·obtain⟨x,rfl,_⟩:=h;rfl
 obtain⟨x,rfl,asc,xl,q,qn⟩:=h;refine⟨_,za2 (za8 (i:=1) scEr.nd rfl (Or.inl rfl) (zap K PySem.F.plainAttrs_str PySem.F.slot_str_split PySem.F.type_str_split zdg (pv 0) (za0 zaa za4)))
  (za2 (zas (zac zim (zab (callLen (K:=K)) (by rfl) ml zav (za0 (pv 1) za4)) za3 (nomark _)) (za6 (zb0 (by rfl) mC xC PySem.F.excBase_ValueError rfl zao GI (hr.mono (by decide)) bI iI (za0 za3 za4))) zad)
  (za2 (za8 (i:=2) scEr.nd rfl (Or.inl rfl) (za9 (CX:=CXr P w) (E:=E) G hr (by rfl) mG kG bG .nil zbg (za0 (zai (ixL (K:=K)) (pv 1) za3 (fun _ _=>rfl)) (za0 za3 (za0 za3 za4)))))
  (za2 (za8 (i:=3) scEr.nd rfl (Or.inl rfl) (zem (zac zd7 (zab (callLen (K:=K)) (by rfl) ml zav (za0 (pv 1) za4)) za3 (nomark _)) (za9 (CX:=CXr P w) (E:=E) G hr (by rfl) mG kG bG .nil zbg (za0 (zai (ixL (K:=K)) (pv 1) za3 (fun _ _=>rfl)) (za0 za3 (za0 za3 za4)))) za3))
  (za2 (zas (zac zd7 (pv 3) za3 (nomark _)) (za6 (zb0 (by rfl) mC xC PySem.F.excBase_ValueError rfl zao GI (hr.mono (by decide)) bI iI (za0 za3 za4))) zad)
  (za6 (zag (za9 G2 (hr.mono (by decide)) (by rfl) mG2 kG2 bG2 .nil pass0 (za0 (pv 2) (za0 (pv 3) za4))))))))),?_⟩
 refine⟨_,rfl,rfl,_,_,rfl,rfl,rfl,by omega,fun l hl=>?_⟩;have asl:∀t∈Txt.split x slC,Asc t/\t.length<=100000:=fun t ht=>⟨asc.split ht,by have:=zei ht; omega⟩
 have hne:=zo0 x slC;have eR:easeR x=match Txt.split x slC with
  | [a]=>if numOk a 40 then some (Mth.frac (numV a) 1) else none
  | [a,b]=>if numOk a 40 && numOk b 40 && decide (numV b≠0) then some (Mth.frac (numV a) (numV b)) else none
  | _=>none:=rfl
 rw[show Txt.split x (Str.ofString "/")=Txt.split x slC from rfl];generalize Txt.split x slC=ws at asl hne eR;have s1:=za5 hl (.lst (ws.map V.str));have e1:(upd H l (.lst (ws.map V.str))) l=some (.lst (ws.map V.str)):=za1;generalize upd H l (.lst (ws.map V.str))=H1 at s1 e1;have fin:∀(t b:Int),0<=b->b<((10 ^ 40:Nat):Int)->b≠0->easeR x=some (Mth.frac t b)->spLow [.int t,.int b] H1 Q E0:=fun t b b0 b4 bz ee=>by
  refine⟨t,b,rfl,zqu (n:=200) ?_ (by decide),bz,fun p hp=>q _ ee p _ (s1.trans (za5 hp _)) za1⟩
  have:(10:Nat) ^ 40<2 ^ 200:=by decide
  omega
 have lw:(ws.map V.str).length=ws.length:=List.length_map _;refine⟨_,rfl,l,_,rfl,.inl (SqL.of e1),_,_,rfl,rfl,_,rfl,?_⟩;rw[lw]
 match ws,hne,asl,eR,e1,lw with
 | a :: b :: c :: r,_,_,eR,_,_ =>
  refine iteDT (by show(2:Int)<((r.length+1+1+1:Nat):Int); omega) ?_;exact rz1 ((qn eR).mono s1)
 | [a],_,asl,eR,e1,_ =>
  refine iteDF (by show ¬(2:Int)<((1:Nat):Int); decide) ?_;obtain⟨a1,a2⟩:=asl a (by simp);refine⟨_,rfl,l,_,_,_,rfl,rfl,SqL.of e1,zaf (j:=0) rfl,a,40,1,rfl,a1,a2,by decide,fun ok=>?_,fun no=>?_⟩;rotate_left
  ·refine(qn ?_).mono s1;rw[eR];show(if numOk a 40=true then _ else _)=_;rw[no];rfl
  refine⟨_,rfl,l,_,rfl,.inl (SqL.of e1),rfl,_,rfl,iteDF (ivn (show((1:Nat):Int)≠2 by decide)) ?_⟩;refine⟨_,rfl,rfl,_,rfl,iteDF (ivn (by decide)) ?_⟩;refine⟨_,rfl,_,rfl,fin _ _ (by decide) (by decide) (by decide) ?_⟩;rw[eR];show(if numOk a 40=true then _ else _)=_;rw[ok];rfl
 | [a,b],_,asl,eR,e1,_ =>
  refine iteDF (by show ¬(2:Int)<((2:Nat):Int); decide) ?_;obtain⟨a1,a2⟩:=asl a (by simp);obtain⟨b1,b2⟩:=asl b (by simp);have eR':easeR x=if (numOk a 40 && numOk b 40 && decide (numV b≠0))=true then some (Mth.frac (numV a) (numV b)) else none:=eR
  refine⟨_,rfl,l,_,_,_,rfl,rfl,SqL.of e1,zaf (j:=0) rfl,a,40,1,rfl,a1,a2,by decide,fun ok=>?_,fun no=>?_⟩;rotate_left
  ·refine(qn ?_).mono s1;rw[eR',no];rfl
  rw[ok,Bool.true_and] at eR';refine⟨_,rfl,l,_,rfl,.inl (SqL.of e1),rfl,_,rfl,iteDT (iv (show((2:Nat):Int)=2 by decide)) ?_⟩;refine⟨_,rfl,l,_,_,_,rfl,rfl,SqL.of e1,zaf (j:=1) rfl,b,40,1,rfl,b1,b2,by decide,fun ok2=>?_,fun no=>?_⟩;rotate_left
  ·refine(qn ?_).mono s1;rw[eR',no];rfl
  rw[ok2,Bool.true_and] at eR';refine⟨_,rfl,rfl,_,rfl,?_⟩;by_cases z:numV b=0
  ·refine iteDT (iv z) ?_;refine rz1 ((qn ?_).mono s1);rw[eR',if_neg (by simp[z])]
  ·refine iteDF (ivn z) ?_;refine⟨_,rfl,_,rfl,fin _ _ (num_nn b) (num_lt ok2) z ?_⟩;rw[eR',if_pos (by simp[z])]
end
theorem ndRope:(["rope"]:List Str).Nodup:=by decide +kernel
theorem ndEnd:(["end"]:List Str).Nodup:=by decide +kernel
def resN(CN CR CT CL CX:Addr)(H:Hp)(Q:VK)(E:XK)(n:Int)(rs:List Raw)(ts:List (List Int)):ShF->Prop
 | .net w=>X1 CN "word" H E (.str w)
 | .rope k w=>NRo CR H E (k:Int) w
 | .turn p=>X1 CT "place" H E (.int (p:Int))
 | .loose p=>X1 CL "place" H E (.int (p:Int))
 | .flat l=>X1 CX "lands" H E (.int (l:Int))
 | .told=>∀p a c H',Same H H'->H' p=some (.tup [.int n,.ref a,.ref c])->TupR RawR H' a rs->TupR IntsT H' c (ts.map begL)->Q (.ref p) H'
theorem resN_F{CN CR CT CL CX:Addr}{H H1:Hp}{Q:VK}{E:XK}{n:Int}{rs:List Raw}{ts:List (List Int)}{a:Addr}(s:Same H H1)(hR:TupR RawR H1 a rs):∀{d:ShF},resN CN CR CT CL CX H Q E n rs ts d->resF CN CR CT CL CX H1 Q E n a ts d
 | .net _,h=>X1.mono h s
 | .rope _ _,h=>NRo.mono h s
 | .turn _,h=>X1.mono h s
 | .loose _,h=>X1.mono h s
 | .flat _,h=>X1.mono h s
 | .told,h=>fun p c H' s' hp hc=>h p a c H' (s.trans s') hp (zhn (R:=RawR) (fun s h=>zd9 s h) s' hR) hc
section
variable {P:Program} {w:World} {K:PySem.W.Frag} {mg:Str->Option Value} {base:Heap} {f g h f1 f2 f3 f4 f5 fI CP CN CR CT CL CX:Addr} {fd gd hd d1 d2 d3 d4 d5 dI:FuncData}
inductive SpRrR(CP:Addr)(vs:List V)(H:Hp)(Q:VK)(E:XK):Prop
 | mk (x:Str) (h_0:vs=[.str x]) (h_1:Asc x) (h_2:x.length<=900) (h_3:∀r,ropeR x=some r->∀p H',Same H H'->RawR H' p r->Q (.ref p) H') (h_4:ropeR x=none->X1 CP "part" H E (.int 1)):SpRrR CP vs H Q E
def spRr(CP:Addr):Sp:=fun vs H Q E=>SpRrR CP vs H Q E
theorem scRr:FnScope ["text","words"] ["text"] (defScope zbu):=⟨rfl,rfl,rfl,by decide +kernel,rfl,by decide +kernel,by decide +kernel⟩
set_option maxHeartbeats 4000000 in
seal L2.PSs L2.PS L2.PE L2.PA in
theorem zou (F:Fun K "rope_read" "rope_read" zbu f fd) (G:FnOk P w K mg base (CXr P w) 3 g gd ["text","most","part"] (spNr CP)) (bG:Binds K gd ["text","most","part"] []) (kG:PySem.W.keepIn K (.ref g)=true) (mG:mg "number_read" = some (.ref g))
  (G2:FnOk P w K mg base (CXr P w) 4 h hd ["text"] (spEr CP)) (bG2:Binds K hd ["text"] []) (kG2:PySem.W.keepIn K (.ref h)=true) (mG2:mg "ease_read" = some (.ref h)) (ml:mg "len" = none)
  (GI:FnOk P w K mg base CX0 1 fI dI ["self","part"] (sp1 CP "part")) (bI:Binds K dI ["self","part"] []) (iI:PySem.W.isFn K (.ref fI)=true) (mC:mg "NoText" = some (.ref CP)) (xC:excI K CP bmV "ValueError.__new__" fI=true):FnOk P w K mg base (CXr P w) 5 f fd ["text"] (spRr CP):=by
 refine okX F scRr (fun vs H Q E h=>?_) (fun cdv A outer s H vs Q E hr h=>?_)
 ·obtain⟨x,rfl,_⟩:=h;rfl
 obtain⟨x,rfl,asc,xl,q,qn⟩:=h;have hr3:=hr.mono (show 3<=4 by decide);refine⟨_,za2 (za8 (i:=1) scRr.nd rfl (Or.inl rfl) (zap K PySem.F.plainAttrs_str PySem.F.slot_str_split PySem.F.type_str_split zdg (pv 0) (za0 zaa za4)))
  (za2 (zas (zac zhk (zab (callLen (K:=K)) (by rfl) ml zav (za0 (pv 1) za4)) za3 (nomark _)) (za6 (zb0 (by rfl) mC xC PySem.F.excBase_ValueError rfl zao GI (hr.mono (by decide)) bI iI (za0 za3 za4))) zad)
  (za6 (zag (zb3 (za0 (za9 (CX:=CXr P w) (E:=E) G hr3 (by rfl) mG kG bG .nil zbg (za0 (zai (ixL (K:=K)) (pv 1) za3 (fun _ _=>rfl)) (za0 za3 (za0 za3 za4)))) (za0 (za9 (CX:=CXr P w) (E:=E) G hr3 (by rfl) mG kG bG .nil zbg (za0 (zai (ixL (K:=K)) (pv 1) za3 (fun _ _=>rfl)) (za0 za3 (za0 za3 za4))))
   (za0 (za9 (CX:=CXr P w) (E:=E) G2 hr (by rfl) mG2 kG2 bG2 .nil zbg (za0 (zai (ixL (K:=K)) (pv 1) za3 (fun _ _=>rfl)) za4)) za4))))))),?_⟩
 refine⟨_,rfl,rfl,_,_,rfl,rfl,rfl,by omega,fun l hl=>?_⟩;have asl:∀t∈Txt.split x bl1,Asc t/\t.length<=900:=fun t ht=>⟨asc.split ht,by have:=zei ht; omega⟩
 have eR:ropeR x=match Txt.split x bl1 with
  | [a,b,c]=>if numOk a 3 && numOk b 3 then (easeR c).map fun e=>(numV a,numV b,e.1,e.2) else none
  | _=>none:=rfl
 rw[show Txt.split x (Str.ofString " ")=Txt.split x bl1 from rfl];generalize Txt.split x bl1=ws at asl eR;have s1:=za5 hl (.lst (ws.map V.str));have e1:(upd H l (.lst (ws.map V.str))) l=some (.lst (ws.map V.str)):=za1;generalize upd H l (.lst (ws.map V.str))=H1 at s1 e1;have lw:(ws.map V.str).length=ws.length:=List.length_map _;refine⟨_,rfl,l,_,rfl,.inl (SqL.of e1),rfl,_,rfl,?_⟩;rw[lw];by_cases l3:ws.length=3;rotate_left
 ·refine iteNN (ivn (by omega)) ?_;refine rz1 ((qn ?_).mono s1);rw[eR]
  match ws,l3 with
  | [],_=>rfl
  | [_],_=>rfl
  | [_,_],_=>rfl
  | [_,_,_],h=>exact absurd rfl h
  | _ :: _ :: _ :: _ :: _,_=>rfl
 refine iteNS (iv (by omega)) ?_
 match ws,l3,asl,eR,e1 with
 | [a,b,c],_,asl,eR,e1 =>
  have eR':ropeR x=if (numOk a 3 && numOk b 3)=true then (easeR c).map fun e=>(numV a,numV b,e.1,e.2) else none:=eR
  obtain⟨a1,a2⟩:=asl a (by simp);obtain⟨b1,b2⟩:=asl b (by simp);obtain⟨c1,c2⟩:=asl c (by simp);refine⟨_,rfl,l,_,_,_,rfl,rfl,SqL.of e1,zaf (j:=0) rfl,a,3,1,rfl,a1,by omega,by decide,fun ok=>?_,fun no=>?_⟩;rotate_left
  ·refine(qn ?_).mono s1;rw[eR',no];rfl
  rw[ok,Bool.true_and] at eR';refine⟨_,rfl,l,_,_,_,rfl,rfl,SqL.of e1,zaf (j:=1) rfl,b,3,1,rfl,b1,by omega,by decide,fun ok2=>?_,fun no=>?_⟩;rotate_left
  ·refine(qn ?_).mono s1;rw[eR',no];rfl
  rw[ok2,if_pos rfl] at eR';refine⟨_,rfl,l,_,_,_,rfl,rfl,SqL.of e1,zaf (j:=2) rfl,c,rfl,c1,c2,fun e ee p H2 s2 hp=>?_,fun no=>?_⟩;rotate_left
  ·refine(qn ?_).mono s1;rw[eR',no];rfl
  rw[ee] at eR';refine⟨by show 3<=sizeLine; decide,fun t ht=>q _ eR' t _ ((s1.trans s2).trans (za5 ht _)) ⟨p,za1,(za5 ht _) _ _ hp⟩⟩
inductive SpTrR(CP:Addr)(vs:List V)(H:Hp)(Q:VK)(E:XK):Prop
 | mk (x:Str) (h_0:vs=[.str x]) (h_1:Asc x) (h_2:x.length<=900) (h_3:∀t,turnR x=some t->∀p H',Same H H'->IntsT H' p t->Q (.ref p) H') (h_4:turnR x=none->X1 CP "part" H E (.int 2)):SpTrR CP vs H Q E
def spTr(CP:Addr):Sp:=fun vs H Q E=>SpTrR CP vs H Q E
theorem scTr:FnScope ["text"] ["text"] (defScope zbt):=⟨rfl,rfl,rfl,by decide +kernel,rfl,by decide +kernel,by decide +kernel⟩
set_option maxHeartbeats 4000000 in
seal L2.PSs L2.PS L2.PE L2.PA in
theorem zot(F:Fun K "turn_read" "turn_read" zbt f fd)(G:FnOk P w K mg base (CXr P w) 3 g gd ["text","most","part"] (spNr CP))(bG:Binds K gd ["text","most","part"] [])(kG:PySem.W.keepIn K (.ref g)=true)(mG:mg "number_read" = some (.ref g))(mt:mg "tuple" = none):FnOk P w K mg base (CXr P w) 4 f fd ["text"] (spTr CP):=by
 refine okX F scTr (fun vs H Q E h=>?_) (fun cdv A outer s H vs Q E hr h=>?_)
 ·obtain⟨x,rfl,_⟩:=h;rfl
 obtain⟨x,rfl,asc,xl,q,qn⟩:=h;refine⟨_,za6 (zag (zak (callTup (K:=K)) (by rfl) mt zc0 (za0 (zgi zij (Nc:=["end"]) (cap:=[]) (g:=gName 0) (te:=tCall (spNr CP) [] E (tCons (tVar 0) (tCons (tC (.int 3)) (tCons (tC (.int 2)) tNil)))) rfl (piLst (K:=K) (zap K PySem.F.plainAttrs_str PySem.F.slot_str_split PySem.F.type_str_split zdg (pv 0) (za0 zaa za4)))
   (zd0 rfl rfl (by decide +kernel) (by decide +kernel) (List.forall_mem_nil _) rfl (List.forall_mem_nil _)) (fun C fp pins s' H'=>zae (i:=0) ndEnd rfl (Or.inl rfl))
   (fun C fp pins s' H'=>za9 (CX:=CXr P w) (E:=E) G hr (by rfl) mG kG bG .nil zey (za0 (pv 0) (za0 za3 (za0 za3 za4))))) za4))),?_⟩
 refine⟨_,rfl,rfl,_,_,rfl,rfl,rfl,by omega,fun l hl=>?_⟩;have asl:∀t∈Txt.split x bl1,Asc t/\t.length<=900:=fun t ht=>⟨asc.split ht,by have:=zei ht; omega⟩
 have many:=zkc x bl1;have eR:turnR x=if (Txt.split x bl1).all (numOk · 3) then some ((Txt.split x bl1).map numV) else none:=rfl
 rw[show Txt.split x (Str.ofString " ")=Txt.split x bl1 from rfl];generalize Txt.split x bl1=ws at asl eR many;have s1:=za5 hl (.lst (ws.map V.str));have e1:(upd H l (.lst (ws.map V.str))) l=some (.lst (ws.map V.str)):=za1;generalize upd H l (.lst (ws.map V.str))=H1 at s1 e1;refine⟨l,rfl,⟨_,SqL.of e1⟩,fun acc hacc=>?_⟩;refine zc1 (zek e1) (by rw[List.length_map]; omega) hacc (fun i ys σ hp=>ys=((ws.map numV).take i).map V.int/\(∀(j:Nat) w,j<i->ws[j]?=some w->numOk w 3=true)/\∃u,σ=[u]) ⟨rfl,fun j w h=>by omega,none,rfl⟩ ?_ ?_
 ·rintro i ys σ H3 v H4 hi sm hacc2 ⟨rfl,ho,u,rfl⟩ ⟨rfl,hxi⟩ Cc hC;obtain⟨z,rfl,hz⟩:=zlb hxi;obtain⟨z1,z2⟩:=asl z (List.mem_of_getElem? hz);refine⟨_,rfl,z,3,2,rfl,z1,by omega,by decide,fun ok=>?_,fun no=>?_⟩
  ·refine hC _ _ _ (Same.refl _) ⟨?_,fun j w' h1 h2=>?_,_,rfl⟩
   ·rw[zau (show(ws.map numV)[i]?=some (numV z) by rw[List.getElem?_map,hz]; rfl),List.map_append];rfl
   ·rcases Nat.lt_or_ge j i with y | y
    ·exact ho j w' y h2
    ·obtain rfl:j=i:=by omega
     rw[hz] at h2;cases h2;exact ok
  ·refine(qn ?_).mono (s1.trans sm);rw[eR,if_neg];intro al
   have:=List.all_eq_true.mp al z (List.mem_of_getElem? hz)
   rw[no] at this;cases this
 ·rintro ys σ H4 s4 ha4 hl4 ⟨rfl,ho,u,rfl⟩;rw[List.length_map,List.take_of_length_le (by rw[List.length_map]; exact Nat.le_refl _)] at ha4;rw[List.length_map] at ho;refine⟨acc,_,rfl,.inl ⟨SqL.of ha4,fun p hp=>?_⟩⟩;refine q (ws.map numV) ?_ p _ ((s1.trans s4).trans (za5 hp _)) za1;rw[eR,if_pos];rw[List.all_eq_true];intro w' hw;obtain⟨j,hj⟩:=List.mem_iff_getElem?.mp hw;exact ho j w' (List.getElem?_eq_some_iff.mp hj).1 hj
end
section
variable {P:Program} {w:World} {K:PySem.W.Frag} {mg:Str->Option Value} {base:Heap} {f g h f1 f2 f3 f4 f5 fI CP CN CR CT CL CX:Addr} {fd gd hd d1 d2 d3 d4 d5 dI:FuncData}
def ndT(CP CN CR CT CL CX:Addr)(H:Hp)(Q:VK)(E:XK)(n:Int)(rs:List Raw)(c:Str):Prop:=(Txt.split c spB).length<=900/\(∀w∈Txt.split c spB,w.length<=900)/\((∃w∈Txt.split c spB,turnR w=none)->X1 CP "part" H E (.int 2)) /\
 ∀ts,(Txt.split c spB).map turnR=ts.map some->(∀t∈ts,t.length<64)/\∀d,DueP n rs ts d->resN CN CR CT CL CX H Q E n rs ts d
def ndR(CP CN CR CT CL CX:Addr)(H:Hp)(Q:VK)(E:XK)(n:Int)(b c:Str):Prop:=(Txt.split b spC).length<=900/\(∀w∈Txt.split b spC,w.length<=900)/\((∃w∈Txt.split b spC,ropeR w=none)->X1 CP "part" H E (.int 1)) /\
 ∀rs,(Txt.split b spC).map ropeR=rs.map some->ndT CP CN CR CT CL CX H Q E n rs c
inductive SpNdR(CP CN CR CT CL CX:Addr)(vs:List V)(H:Hp)(Q:VK)(E:XK):Prop
 | mk (x:Str) (h_0:vs=[.str x]) (h_1:Asc x) (h_2:x.length<=50000) (h_3:(Txt.split x spS).length≠3->X1 CP "part" H E (.int 3))
  (h_4:∀a b c,Txt.split x spS=[a,b,c]->(numOk a 3=false->X1 CP "part" H E (.int 0))/\(numOk a 3=true->ndR CP CN CR CT CL CX H Q E (numV a) b c)):SpNdR CP CN CR CT CL CX vs H Q E
def spNd(CP CN CR CT CL CX:Addr):Sp:=fun vs H Q E=>SpNdR CP CN CR CT CL CX vs H Q E
theorem scNd:FnScope ["text","parts","places","ropes","turns"] ["text"] (defScope zc2):=⟨rfl,rfl,rfl,by decide +kernel,rfl,by decide +kernel,by decide +kernel⟩
theorem zh8{α β:Type}{f:α->Option β}{ws:List α}{rs:List β}{i:Nat}{x:α}{y:β}(h:(ws.take i).map f=rs.map some)(hx:ws[i]?=some x)(hy:f x=some y):(ws.take (i+1)).map f=(rs++[y]).map some:=by
 rw[zau hx,List.map_append,h,List.map_append];simp[hy]
set_option maxHeartbeats 4000000 in
seal L2.PSs L2.PS L2.PE L2.PA in
theorem zs2 (F:Fun K "net_read" "net_read" zc2 f fd) (G:FnOk P w K mg base (CXr P w) 3 g gd ["text","most","part"] (spNr CP)) (bG:Binds K gd ["text","most","part"] []) (kG:PySem.W.keepIn K (.ref g)=true) (mG:mg "number_read" = some (.ref g))
  (G2:FnOk P w K mg base (CXr P w) 5 f2 d2 ["text"] (spRr CP)) (b2:Binds K d2 ["text"] []) (k2:PySem.W.keepIn K (.ref f2)=true) (m2:mg "rope_read" = some (.ref f2))
  (G3:FnOk P w K mg base (CXr P w) 4 f3 d3 ["text"] (spTr CP)) (b3:Binds K d3 ["text"] []) (k3:PySem.W.keepIn K (.ref f3)=true) (m3:mg "turn_read" = some (.ref f3))
  (G4:FnOk P w K mg base (CXr P w) 5 f4 d4 ["places","ropes","turns"] (spCk CN CR CT CL CX)) (b4:Binds K d4 ["places","ropes","turns"] []) (k4:PySem.W.keepIn K (.ref f4)=true) (m4:mg "checked" = some (.ref f4)) (ml:mg "len" = none) (mt:mg "tuple" = none)
  (GI:FnOk P w K mg base CX0 1 fI dI ["self","part"] (sp1 CP "part")) (bI:Binds K dI ["self","part"] []) (iI:PySem.W.isFn K (.ref fI)=true) (mC:mg "NoText" = some (.ref CP)) (xC:excI K CP bmV "ValueError.__new__" fI=true):FnOk P w K mg base (CXr P w) 6 f fd ["text"] (spNd CP CN CR CT CL CX):=by
 refine okX F scNd (fun vs H Q E h=>?_) (fun cdv A outer s H vs Q E hr h=>?_)
 ·obtain⟨x,rfl,_⟩:=h;rfl
 obtain⟨x,rfl,asc,xl,q3,q4⟩:=h;have r3:=hr.mono (show 3<=5 by decide);have r4:=hr.mono (show 4<=5 by decide);refine⟨_,za2 (za8 (i:=1) scNd.nd rfl (Or.inl rfl) (zap K PySem.F.plainAttrs_str PySem.F.slot_str_split PySem.F.type_str_split zdg (pv 0) (za0 zaa za4)))
  (za2 (zas (zac zhk (zab (callLen (K:=K)) (by rfl) ml zav (za0 (pv 1) za4)) za3 (nomark _)) (za6 (zb0 (by rfl) mC xC PySem.F.excBase_ValueError rfl zao GI (hr.mono (by decide)) bI iI (za0 za3 za4))) zad)
  (za2 (za8 (i:=2) scNd.nd rfl (Or.inl rfl) (za9 (CX:=CXr P w) (E:=E) G r3 (by rfl) mG kG bG .nil zbg (za0 (zai (ixL (K:=K)) (pv 1) za3 (fun _ _=>rfl)) (za0 za3 (za0 za3 za4)))))
  (za2 (za8 (i:=3) scNd.nd rfl (Or.inl rfl) (zak (callTup (K:=K)) (by rfl) mt zc0 (za0 (zgi zij (Nc:=["rope"]) (cap:=[]) (g:=gName 0) (te:=tCall (spRr CP) [] E (tCons (tVar 0) tNil)) rfl (piLst (K:=K) (zap K PySem.F.plainAttrs_str PySem.F.slot_str_split PySem.F.type_str_split zdg (zai (ixL (K:=K)) (pv 1) za3 (fun _ _=>rfl)) (za0 zaa za4)))
   (zd0 rfl rfl (by decide +kernel) (by decide +kernel) (List.forall_mem_nil _) rfl (List.forall_mem_nil _)) (fun C fp pins s' H'=>zae (i:=0) ndRope rfl (Or.inl rfl))
   (fun C fp pins s' H'=>za9 (CX:=CXr P w) (E:=E) G2 hr (by rfl) m2 k2 b2 .nil zey (za0 (pv 0) za4))) za4)))
  (za2 (za8 (i:=4) scNd.nd rfl (Or.inl rfl) (zak (callTup (K:=K)) (by rfl) mt zc0 (za0 (zgi zij (Nc:=["turn"]) (cap:=[]) (g:=gName 0) (te:=tCall (spTr CP) [] E (tCons (tVar 0) tNil)) rfl (piLst (K:=K) (zap K PySem.F.plainAttrs_str PySem.F.slot_str_split PySem.F.type_str_split zdg (zai (ixL (K:=K)) (pv 1) za3 (fun _ _=>rfl)) (za0 zaa za4)))
   (zd0 rfl rfl (by decide +kernel) (by decide +kernel) (List.forall_mem_nil _) rfl (List.forall_mem_nil _)) (fun C fp pins s' H'=>zae (i:=0) ndTurn rfl (Or.inl rfl))
   (fun C fp pins s' H'=>za9 (CX:=CXr P w) (E:=E) G3 r4 (by rfl) m3 k3 b3 .nil zey (za0 (pv 0) za4))) za4)))
  (za6 (zag (za9 (CX:=CXr P w) (E:=E) G4 hr (by rfl) m4 k4 b4 .nil zbg (za0 (pv 2) (za0 (pv 3) (za0 (pv 4) za4)))))))))),?_⟩
 refine⟨_,rfl,rfl,_,_,rfl,rfl,rfl,by omega,fun l hl=>?_⟩;have asl:∀t∈Txt.split x spS,Asc t/\t.length<=50000:=fun t ht=>⟨asc.split ht,by have:=zei ht; omega⟩
 rw[show Txt.split x (Str.ofString "; ")=Txt.split x spS from rfl];generalize Txt.split x spS=ws at asl q3 q4;have s1:=za5 hl (.lst (ws.map V.str));have e1:(upd H l (.lst (ws.map V.str))) l=some (.lst (ws.map V.str)):=za1;generalize upd H l (.lst (ws.map V.str))=H1 at s1 e1;have lw:(ws.map V.str).length=ws.length:=List.length_map _;refine⟨_,rfl,l,_,rfl,.inl (SqL.of e1),rfl,_,rfl,?_⟩;rw[lw];by_cases l3:ws.length=3;rotate_left
 ·refine iteNN (ivn (by omega)) ?_;exact rz1 ((q3 l3).mono s1)
 refine iteNS (iv (by omega)) ?_
 match ws,l3,asl,q4,e1 with
 | [a,b,c],_,asl,q4,e1 =>
  obtain⟨a1,a2⟩:=asl a (by simp);obtain⟨b1,b2⟩:=asl b (by simp);obtain⟨c1,c2⟩:=asl c (by simp);obtain⟨qa,qb⟩:=q4 a b c rfl;clear q4 q3;refine⟨_,rfl,l,_,_,_,rfl,rfl,SqL.of e1,zaf (j:=0) rfl,a,3,0,rfl,a1,by omega,by decide,fun ok=>?_,fun no=>(qa no).mono s1⟩;obtain⟨m1,m2,m3,qr⟩:=qb ok;clear qa qb;have asb:∀t∈Txt.split b spC,Asc t/\t.length<=900:=fun t ht=>⟨b1.split ht,m2 t ht⟩
  refine⟨_,rfl,l,_,_,_,rfl,rfl,SqL.of e1,zaf (j:=1) rfl,rfl,b,spC,rfl,rfl,rfl,by omega,fun l2 hl2=>?_⟩;generalize Txt.split b spC=wb at asb m1 m3 qr;have s2:=za5 hl2 (.lst (wb.map V.str));have e2:(upd H1 l2 (.lst (wb.map V.str))) l2=some (.lst (wb.map V.str)):=za1;generalize upd H1 l2 (.lst (wb.map V.str))=H2 at s2 e2;refine⟨l2,rfl,⟨_,SqL.of e2⟩,fun acc hacc=>?_⟩;refine zc1 (zek e2) (by rw[List.length_map]; omega) hacc (fun i ys σ hp=>∃(ds:List Addr) (rs:List Raw),ys=ds.map V.ref/\At RawR hp ds rs/\(wb.take i).map ropeR=rs.map some/\∃u,σ=[u]) ⟨[],[],rfl,At.nil,rfl,none,rfl⟩ ?_ ?_
  ·rintro i ys σ H3 v H4 hi sm hacc2 ⟨ds,rs,rfl,hD,hm,u,rfl⟩ ⟨rfl,hxi⟩ Cc hC;obtain⟨z,rfl,hz⟩:=zlb hxi;obtain⟨z1,z2⟩:=asb z (List.mem_of_getElem? hz);refine⟨_,rfl,z,rfl,z1,z2,fun r er p H5 s5 hp=>?_,fun no=>(m3 ⟨z,List.mem_of_getElem? hz,no⟩).mono ((s1.trans s2).trans sm)⟩;refine hC _ _ _ s5 ⟨ds++[p],rs++[r],by simp,?_,zh8 hm hz er,_,rfl⟩;exact(hD.keep zd9 (zeu acc s5)).snoc (RawR.del hp (s5 _ _ hacc2))
  rintro ys σ H4 s4 ha4 hl4 ⟨ds,rs,rfl,hD,hm,u,rfl⟩;rw[List.length_map,List.take_length] at hm;refine⟨acc,_,rfl,.inl ⟨SqL.of ha4,fun rp hrp=>?_⟩⟩;have s5:=za5 hrp (.tup (ds.map V.ref));have e5:TupR RawR (upd H4 rp (.tup (ds.map V.ref))) rp rs:=⟨ds,za1,(hD.keep zd9 (zeb H4 acc)).keep zd9 s5⟩;generalize upd H4 rp (.tup (ds.map V.ref))=H5 at s5 e5;have s15:=s2.trans (s4.trans s5);obtain⟨n1,n2,n3,qt⟩:=qr rs hm;clear qr m3;have asc':∀t∈Txt.split c spB,Asc t/\t.length<=900:=fun t ht=>⟨c1.split ht,n2 t ht⟩
  refine⟨_,rfl,l,_,_,_,rfl,rfl,SqL.of (s15 _ _ e1),zaf (j:=2) rfl,rfl,c,spB,rfl,rfl,rfl,by omega,fun l3 hl3=>?_⟩;generalize Txt.split c spB=wc at asc' n1 n3 qt;have s6:=za5 hl3 (.lst (wc.map V.str));have e6:(upd H5 l3 (.lst (wc.map V.str))) l3=some (.lst (wc.map V.str)):=za1;generalize upd H5 l3 (.lst (wc.map V.str))=H6 at s6 e6;refine⟨l3,rfl,⟨_,SqL.of e6⟩,fun acc2 hacc2=>?_⟩;refine zc1 (zek e6) (by rw[List.length_map]; omega) hacc2 (fun i ys σ hp=>∃(es:List Addr) (ts:List (List Int)),ys=es.map V.ref/\At IntsT hp es ts/\(wc.take i).map turnR=ts.map some/\∃u,σ=[u]) ⟨[],[],rfl,At.nil,rfl,none,rfl⟩ ?_ ?_
  ·rintro i ys σ H7 v H8 hi sm hacc3 ⟨es,ts,rfl,hE,hm2,u,rfl⟩ ⟨rfl,hxi⟩ Cc hC;obtain⟨z,rfl,hz⟩:=zlb hxi;obtain⟨z1,z2⟩:=asc' z (List.mem_of_getElem? hz);refine⟨_,rfl,z,rfl,z1,z2,fun t et p H9 s9 hp=>?_,fun no=>(n3 ⟨z,List.mem_of_getElem? hz,no⟩).mono ((s1.trans s15).trans (s6.trans sm))⟩;refine hC _ _ _ s9 ⟨es++[p],ts++[t],by simp,?_,zh8 hm2 hz et,_,rfl⟩;exact(hE.keep zbr (zeu acc2 s9)).snoc (IntsT.del hp (s9 _ _ hacc3))
  rintro ys σ H7 s7 ha7 hl7 ⟨es,ts,rfl,hE,hm2,u,rfl⟩;rw[List.length_map,List.take_length] at hm2;refine⟨acc2,_,rfl,.inl ⟨SqL.of ha7,fun tp htp=>?_⟩⟩;have s8:=za5 htp (.tup (es.map V.ref));have e8:TupR IntsT (upd H7 tp (.tup (es.map V.ref))) tp ts:=⟨es,za1,(hE.keep zbr (zeb H7 acc2)).keep zbr s8⟩;generalize upd H7 tp (.tup (es.map V.ref))=H8 at s8 e8;have s58:=s6.trans (s7.trans s8);have hR8:TupR RawR H8 rp rs:=zhn (R:=RawR) (fun s h=>zd9 s h) s58 e5;obtain⟨tl,qd⟩:=qt ts hm2;exact⟨_,rfl,_,rfl,_,rfl,_,rp,tp,rs,ts,rfl,hR8,e8,tl,fun d hd=>resN_F ((s1.trans s15).trans s58) hR8 (qd d hd)⟩
end
section
variable {P:Program} {w:World} {K:PySem.W.Frag} {mg:Str->Option Value} {base:Heap} {f CP CN CR CT CL CX:Addr} {fd:FuncData}
def ssG(CP CN CR CT CL CX:Addr)(sp:Hp->VK->XK->Prop)(f:Addr)(H:Hp)(Q:VK):Prop:=sp H (fun v H1=>∀p H',Same H1 H'->H' p=some (.tup [.str "told",v])->Q (.ref p) H')
 (fun cls od H1=>∃d,od=some d/\((cls=.ref CP/\∃y,H1 d=some (.xd [("part",y)])/\∀p H',Same H1 H'->H' p=some (.tup [.str "text",y])->Q (.ref p) H') \/
  (cls=.ref CN/\∃y,H1 d=some (.xd [("word",y)])/\∀p H',Same H1 H'->H' p=some (.tup [.str "net",y])->Q (.ref p) H') \/
  (cls=.ref CR/\∃r y,H1 d=some (.xd [("word",y),("rope",r)])/\∀p H',Same H1 H'->H' p=some (.tup [.str "rope",r,y])->Q (.ref p) H') \/
  (cls=.ref CT/\∃y,H1 d=some (.xd [("place",y)])/\∀p H',Same H1 H'->H' p=some (.tup [.str "turn",y])->Q (.ref p) H') \/
  (cls=.ref CL/\∃y,H1 d=some (.xd [("place",y)])/\∀p H',Same H1 H'->H' p=some (.tup [.str "loose",y])->Q (.ref p) H') \/
  (cls=.ref CX/\∃y,H1 d=some (.xd [("lands",y)])/\∀p H',Same H1 H'->H' p=some (.tup [.str "flat",y])->Q (.ref p) H')))
theorem scSd:FnScope ["_law_ask","_law_caught","_law_found","e"] ["_law_ask"] (defScope zc4):=⟨rfl,rfl,rfl,by decide +kernel,rfl,by decide +kernel,by decide +kernel⟩
structure Kits(K:PySem.W.Frag)(C CP CN CR CT CL CX:Addr)(b0 b1 b2 b3 b4 b5:Bool):Prop where
 p:PySem.W.kitOne K (.ref C) (.ref CP)=some b0
 n:PySem.W.kitOne K (.ref C) (.ref CN)=some b1
 r:PySem.W.kitOne K (.ref C) (.ref CR)=some b2
 t:PySem.W.kitOne K (.ref C) (.ref CT)=some b3
 l:PySem.W.kitOne K (.ref C) (.ref CL)=some b4
 x:PySem.W.kitOne K (.ref C) (.ref CX)=some b5
set_option maxHeartbeats 4000000 in
seal L2.PSs L2.PS L2.PE L2.PA in
theorem zru {CF:Addr} {j:Nat} (F:Fun K "_law_said" "_law_said" zc4 f fd) (mF:mg "FloorError" = some (.ref CF)) (mP:mg "NoText" = some (.ref CP)) (mN:mg "NoNet" = some (.ref CN)) (mR:mg "NoRope" = some (.ref CR)) (mT:mg "NoTurn" = some (.ref CT)) (mL:mg "Loose" = some (.ref CL)) (mX:mg "NotFlat" = some (.ref CX)) (ms:mg "isinstance" = none)
  (xP:PySem.W.exmOne K (.ref CP) (.ref CF)=some true) (xN:PySem.W.exmOne K (.ref CN) (.ref CF)=some true) (xR:PySem.W.exmOne K (.ref CR) (.ref CF)=some true) (xT:PySem.W.exmOne K (.ref CT) (.ref CF)=some true) (xL:PySem.W.exmOne K (.ref CL) (.ref CF)=some true) (xX:PySem.W.exmOne K (.ref CX) (.ref CF)=some true)
  (kP:Kits K CP CP CN CR CT CL CX true false false false false false) (kN:Kits K CN CP CN CR CT CL CX false true false false false false) (kR:Kits K CR CP CN CR CT CL CX false false true false false false) (kT:Kits K CT CP CN CR CT CL CX false false false true false false) (kL:Kits K CL CP CN CR CT CL CX false false false false true false) (kX:Kits K CX CP CN CR CT CL CX false false false false false true)
  (gP:XGet K CP "part") (gN:XGet K CN "word") (gR1:XGet K CR "rope") (gR2:XGet K CR "word") (gT:XGet K CT "place") (gL:XGet K CL "place") (gX:XGet K CX "lands") :
  AskOk P w K mg base j (j+1) f fd ["_law_ask"] (ssG CP CN CR CT CL CX):=by
 obtain⟨oc,od,kV,doc,pm,an,cdv,ct,osl,rfl,lk,hcd⟩:=F.ex;refine⟨fun A outer s H lam sp Q hr e0 LO hs hb=>?_⟩;refine fn_at (k:=j) lk hcd scSd (vs:=[.ref lam]) (us:=[.ref lam]) rfl hr e0 hb (.cons rfl .nil) fun hr'=>?_
 refine⟨_,za2 (za8 (i:=1) scSd.nd rfl (Or.inl rfl) zlv)
  (za2 (za8 (i:=2) scSd.nd rfl (Or.inl rfl) zlv)
  (za2 (ps_try (i:=3) scSd.nd rfl rfl (by rfl) mF rfl rfl (zrk (i:=2) scSd.nd rfl (Or.inl rfl) (px_ask LO rfl hr' (pv 0))) (fun a=>za6 (za8 (i:=1) scSd.nd rfl (Or.inl rfl) (pv 3))))
  (za2 (zas (zac op_isN (pv 1) zlv (nomark _)) (za6 (zag (zb3 (za0 zaa (za0 (pv 2) za4))))) zad)
  (za2 (zas (zec (zab (zct (c:=.ref CP) (cv:=.ref CP) fun _ z=>z) (by rfl) ms zbe (za0 (pv 1) (za0 (ze4 (v:=.ref CP) (by rfl) mP rfl) za4)))) (za6 (zag (zb3 (za0 zaa (za0 (zdk (pv 1) rfl) za4))))) zad)
  (za2 (zas (zec (zab (zct (c:=.ref CN) (cv:=.ref CN) fun _ z=>z) (by rfl) ms zbe (za0 (pv 1) (za0 (ze4 (v:=.ref CN) (by rfl) mN rfl) za4)))) (za6 (zag (zb3 (za0 zaa (za0 (zdk (pv 1) rfl) za4))))) zad)
  (za2 (zas (zec (zab (zct (c:=.ref CR) (cv:=.ref CR) fun _ z=>z) (by rfl) ms zbe (za0 (pv 1) (za0 (ze4 (v:=.ref CR) (by rfl) mR rfl) za4)))) (za6 (zag (zb3 (za0 zaa (za0 (zdk (pv 1) rfl) (za0 (zdk (pv 1) rfl) za4)))))) zad)
  (za2 (zas (zec (zab (zct (c:=.ref CT) (cv:=.ref CT) fun _ z=>z) (by rfl) ms zbe (za0 (pv 1) (za0 (ze4 (v:=.ref CT) (by rfl) mT rfl) za4)))) (za6 (zag (zb3 (za0 zaa (za0 (zdk (pv 1) rfl) za4))))) zad)
  (za2 (zas (zec (zab (zct (c:=.ref CL) (cv:=.ref CL) fun _ z=>z) (by rfl) ms zbe (za0 (pv 1) (za0 (ze4 (v:=.ref CL) (by rfl) mL rfl) za4)))) (za6 (zag (zb3 (za0 zaa (za0 (zdk (pv 1) rfl) za4))))) zad)
  (za2 (zas (zec (zab (zct (c:=.ref CX) (cv:=.ref CX) fun _ z=>z) (by rfl) ms zbe (za0 (pv 1) (za0 (ze4 (v:=.ref CX) (by rfl) mX rfl) za4)))) (za6 (zag (zb3 (za0 zaa (za0 (zdk (pv 1) rfl) za4))))) zad)
  zex))))))))),?_⟩
 refine⟨_,rfl,rfl,LO.mono _ _ _ _ _ (fun v H1 q=>?_) (fun cls od H1 q=>?_) hs⟩
 ·refine⟨_,rfl,rfl,_,rfl,iteT ?_⟩;exact⟨_,rfl,by show 2<=sizeLine; decide,fun p hp=>q p _ (za5 hp _) za1⟩
 obtain⟨d,rfl,q⟩:=q;rcases q with ⟨rfl,y,hd,q⟩ | ⟨rfl,y,hd,q⟩ | ⟨rfl,r,y,hd,q⟩ | ⟨rfl,y,hd,q⟩ | ⟨rfl,y,hd,q⟩ | ⟨rfl,y,hd,q⟩
 ·refine⟨xP,fun e he=>?_⟩;have s2:=za5 he (excO e (.ref CP) (some d));have e2:(upd H1 e (excO e (.ref CP) (some d))) e=some (excO e (.ref CP) (some d)):=za1;have hd2:=s2 _ _ hd;generalize upd H1 e (excO e (.ref CP) (some d))=H2 at s2 e2 hd2;refine⟨_,rfl,?_⟩;refine⟨_,rfl,rfl,_,rfl,iteF ?_⟩;refine⟨_,rfl,e,CP,some d,true,rfl,e2,gP.c,kP.p,_,rfl,iteT ?_⟩;exact⟨_,rfl,e,CP,d,_,_,rfl,e2,hd2,gP,rfl,by show 2<=sizeLine; decide,fun p hp=>q p _ (s2.trans (za5 hp _)) za1⟩
 ·refine⟨xN,fun e he=>?_⟩;have s2:=za5 he (excO e (.ref CN) (some d));have e2:(upd H1 e (excO e (.ref CN) (some d))) e=some (excO e (.ref CN) (some d)):=za1;have hd2:=s2 _ _ hd;generalize upd H1 e (excO e (.ref CN) (some d))=H2 at s2 e2 hd2;refine⟨_,rfl,?_⟩;refine⟨_,rfl,rfl,_,rfl,iteF ?_⟩;refine⟨_,rfl,e,CN,some d,false,rfl,e2,gN.c,kN.p,_,rfl,iteF ?_⟩;refine⟨_,rfl,e,CN,some d,true,rfl,e2,gN.c,kN.n,_,rfl,iteT ?_⟩;exact⟨_,rfl,e,CN,d,_,_,rfl,e2,hd2,gN,rfl,by show 2<=sizeLine; decide,fun p hp=>q p _ (s2.trans (za5 hp _)) za1⟩
 ·refine⟨xR,fun e he=>?_⟩;have s2:=za5 he (excO e (.ref CR) (some d));have e2:(upd H1 e (excO e (.ref CR) (some d))) e=some (excO e (.ref CR) (some d)):=za1;have hd2:=s2 _ _ hd;generalize upd H1 e (excO e (.ref CR) (some d))=H2 at s2 e2 hd2;refine⟨_,rfl,?_⟩;refine⟨_,rfl,rfl,_,rfl,iteF ?_⟩;refine⟨_,rfl,e,CR,some d,false,rfl,e2,gR1.c,kR.p,_,rfl,iteF ?_⟩;refine⟨_,rfl,e,CR,some d,false,rfl,e2,gR1.c,kR.n,_,rfl,iteF ?_⟩;refine⟨_,rfl,e,CR,some d,true,rfl,e2,gR1.c,kR.r,_,rfl,iteT ?_⟩;exact⟨_,rfl,e,CR,d,_,_,rfl,e2,hd2,gR1,rfl,_,rfl,e,CR,d,_,_,rfl,e2,hd2,gR2,rfl,by show 3<=sizeLine; decide,fun p hp=>q p _ (s2.trans (za5 hp _)) za1⟩
 ·refine⟨xT,fun e he=>?_⟩;have s2:=za5 he (excO e (.ref CT) (some d));have e2:(upd H1 e (excO e (.ref CT) (some d))) e=some (excO e (.ref CT) (some d)):=za1;have hd2:=s2 _ _ hd;generalize upd H1 e (excO e (.ref CT) (some d))=H2 at s2 e2 hd2;refine⟨_,rfl,?_⟩;refine⟨_,rfl,rfl,_,rfl,iteF ?_⟩;refine⟨_,rfl,e,CT,some d,false,rfl,e2,gT.c,kT.p,_,rfl,iteF ?_⟩;refine⟨_,rfl,e,CT,some d,false,rfl,e2,gT.c,kT.n,_,rfl,iteF ?_⟩;refine⟨_,rfl,e,CT,some d,false,rfl,e2,gT.c,kT.r,_,rfl,iteF ?_⟩;refine⟨_,rfl,e,CT,some d,true,rfl,e2,gT.c,kT.t,_,rfl,iteT ?_⟩;exact⟨_,rfl,e,CT,d,_,_,rfl,e2,hd2,gT,rfl,by show 2<=sizeLine; decide,fun p hp=>q p _ (s2.trans (za5 hp _)) za1⟩
 ·refine⟨xL,fun e he=>?_⟩;have s2:=za5 he (excO e (.ref CL) (some d));have e2:(upd H1 e (excO e (.ref CL) (some d))) e=some (excO e (.ref CL) (some d)):=za1;have hd2:=s2 _ _ hd;generalize upd H1 e (excO e (.ref CL) (some d))=H2 at s2 e2 hd2;refine⟨_,rfl,?_⟩;refine⟨_,rfl,rfl,_,rfl,iteF ?_⟩;refine⟨_,rfl,e,CL,some d,false,rfl,e2,gL.c,kL.p,_,rfl,iteF ?_⟩;refine⟨_,rfl,e,CL,some d,false,rfl,e2,gL.c,kL.n,_,rfl,iteF ?_⟩;refine⟨_,rfl,e,CL,some d,false,rfl,e2,gL.c,kL.r,_,rfl,iteF ?_⟩;refine⟨_,rfl,e,CL,some d,false,rfl,e2,gL.c,kL.t,_,rfl,iteF ?_⟩;refine⟨_,rfl,e,CL,some d,true,rfl,e2,gL.c,kL.l,_,rfl,iteT ?_⟩;exact⟨_,rfl,e,CL,d,_,_,rfl,e2,hd2,gL,rfl,by show 2<=sizeLine; decide,fun p hp=>q p _ (s2.trans (za5 hp _)) za1⟩
 ·refine⟨xX,fun e he=>?_⟩;have s2:=za5 he (excO e (.ref CX) (some d));have e2:(upd H1 e (excO e (.ref CX) (some d))) e=some (excO e (.ref CX) (some d)):=za1;have hd2:=s2 _ _ hd;generalize upd H1 e (excO e (.ref CX) (some d))=H2 at s2 e2 hd2;refine⟨_,rfl,?_⟩;refine⟨_,rfl,rfl,_,rfl,iteF ?_⟩;refine⟨_,rfl,e,CX,some d,false,rfl,e2,gX.c,kX.p,_,rfl,iteF ?_⟩;refine⟨_,rfl,e,CX,some d,false,rfl,e2,gX.c,kX.n,_,rfl,iteF ?_⟩;refine⟨_,rfl,e,CX,some d,false,rfl,e2,gX.c,kX.r,_,rfl,iteF ?_⟩;refine⟨_,rfl,e,CX,some d,false,rfl,e2,gX.c,kX.t,_,rfl,iteF ?_⟩;refine⟨_,rfl,e,CX,some d,false,rfl,e2,gX.c,kX.l,_,rfl,iteF ?_⟩;refine⟨_,rfl,e,CX,some d,true,rfl,e2,gX.c,kX.x,_,rfl,iteT ?_⟩;exact⟨_,rfl,e,CX,d,_,_,rfl,e2,hd2,gX,rfl,by show 2<=sizeLine; decide,fun p hp=>q p _ (s2.trans (za5 hp _)) za1⟩
end
def resH(H:Hp)(n:Int)(rs:List Raw)(ts:List (List Int))(o:Addr):ShF->Prop
 | .net w=>H o=some (.tup [.str "net",.str w])
 | .rope k w=>H o=some (.tup [.str "rope",.int (k:Int),.str w])
 | .turn p=>H o=some (.tup [.str "turn",.int (p:Int)])
 | .loose p=>H o=some (.tup [.str "loose",.int (p:Int)])
 | .flat l=>H o=some (.tup [.str "flat",.int (l:Int)])
 | .told=>∃p a c,H o=some (.tup [.str "told",.ref p])/\H p=some (.tup [.int n,.ref a,.ref c])/\TupR RawR H a rs/\TupR IntsT H c (ts.map begL)
theorem zf7{H H':Hp}{a:Addr}{rs:List Raw}(s:Same H H')(h:TupR RawR H a rs):TupR RawR H' a rs:=zhn (R:=RawR) (fun s h=>zd9 s h) s h
theorem zme{H H':Hp}{n:Int}{rs:List Raw}{ts:List (List Int)}{o:Addr}(s:Same H H'):∀{d:ShF},resH H n rs ts o d->resH H' n rs ts o d
 | .net _,h=>s _ _ h
 | .rope _ _,h=>s _ _ h
 | .turn _,h=>s _ _ h
 | .loose _,h=>s _ _ h
 | .flat _,h=>s _ _ h
 | .told,⟨p,a,c,h1,h2,h3,h4⟩=>⟨p,a,c,s _ _ h1,s _ _ h2,zf7 s h3,zdu s h4⟩
def rawD(r:Raw):PyData:=.tuple [.int r.1,.int r.2.1,.tuple [.int r.2.2.1,.int r.2.2.2]]
def rwsD(rs:List Raw):PyData:=.tuple (rs.map rawD)
def intsD(t:List Int):PyData:=.tuple (t.map .int)
def trnD(ts:List (List Int)):PyData:=.tuple (ts.map intsD)
theorem rd_raw{H:Hp}{p:Addr}{r:Raw}(h:RawR H p r):RdD H (.ref p) (rawD r):=by
 obtain⟨e,h1,h2⟩:=h;refine .tup h1 rfl fun i x d e1 e2=>?_
 match i,e1,e2 with
 | 0,e1,e2=>cases e1; cases e2; exact .int _
 | 1,e1,e2=>cases e1; cases e2; exact .int _
 | 2,e1,e2 =>
  cases e1;cases e2;refine .tup h2 rfl fun i x d e1 e2=>?_
  match i,e1,e2 with
  | 0,e1,e2=>cases e1; cases e2; exact .int _
  | 1,e1,e2=>cases e1; cases e2; exact .int _
theorem zrh{H:Hp}{p:Addr}{rs:List Raw}(h:TupR RawR H p rs):RdD H (.ref p) (rwsD rs):=by
 obtain⟨bs,h1,hB⟩:=h;refine .tup h1 (by rw[List.length_map,List.length_map,hB.1]) fun i x d e1 e2=>?_
 obtain⟨c,r,rfl,_,hr,hc⟩:=hB.ref e1;rw[List.getElem?_map,hr] at e2;cases e2;exact rd_raw hc
theorem zid{H:Hp}{p:Addr}{t:List Int}(h:IntsT H p t):RdD H (.ref p) (intsD t):=by
 refine .tup h (by rw[List.length_map,List.length_map]) fun i x d e1 e2=>?_
 obtain⟨e,rfl,he⟩:=zfe e1;rw[List.getElem?_map,he] at e2;cases e2;exact .int _
theorem zrg{H:Hp}{p:Addr}{ts:List (List Int)}(h:TupR IntsT H p ts):RdD H (.ref p) (trnD ts):=by
 obtain⟨bs,h1,hB⟩:=h;refine .tup h1 (by rw[List.length_map,List.length_map,hB.1]) fun i x d e1 e2=>?_
 obtain⟨c,r,rfl,_,hr,hc⟩:=hB.ref e1;rw[List.getElem?_map,hr] at e2;cases e2;exact zid hc
def ansD(n:Int)(rs:List Raw)(ts:List (List Int)):ShF->PyData
 | .net w=>.tuple [.str "net",.str w]
 | .rope k w=>.tuple [.str "rope",.int (k:Int),.str w]
 | .turn p=>.tuple [.str "turn",.int (p:Int)]
 | .loose p=>.tuple [.str "loose",.int (p:Int)]
 | .flat l=>.tuple [.str "flat",.int (l:Int)]
 | .told=>.tuple [.str "told",.tuple [.int n,rwsD rs,trnD (ts.map begL)]]
theorem zfo{H:Hp}{o:Addr}{x y:V}{d e:PyData}(h:H o=some (.tup [x,y]))(hx:RdD H x d)(hy:RdD H y e):RdD H (.ref o) (.tuple [d,e]):=by
 refine .tup h rfl fun i x' d' e1 e2=>?_
 match i,e1,e2 with
 | 0,e1,e2=>cases e1; cases e2; exact hx
 | 1,e1,e2=>cases e1; cases e2; exact hy
theorem zjd{H:Hp}{o:Addr}{x y z:V}{d e g:PyData}(h:H o=some (.tup [x,y,z]))(hx:RdD H x d)(hy:RdD H y e)(hz:RdD H z g):RdD H (.ref o) (.tuple [d,e,g]):=by
 refine .tup h rfl fun i x' d' e1 e2=>?_
 match i,e1,e2 with
 | 0,e1,e2=>cases e1; cases e2; exact hx
 | 1,e1,e2=>cases e1; cases e2; exact hy
 | 2,e1,e2=>cases e1; cases e2; exact hz
theorem zqa{H:Hp}{n:Int}{rs:List Raw}{ts:List (List Int)}{o:Addr}:∀{d:ShF},resH H n rs ts o d->RdD H (.ref o) (ansD n rs ts d)
 | .net _,h=>zfo h (.str _) (.str _)
 | .rope _ _,h=>zjd h (.str _) (.int _) (.str _)
 | .turn _,h=>zfo h (.str _) (.int _)
 | .loose _,h=>zfo h (.str _) (.int _)
 | .flat _,h=>zfo h (.str _) (.int _)
 | .told,⟨p,a,c,h1,h2,h3,h4⟩=>zfo h1 (.str _) (zjd h2 (.int _) (zrh h3) (zrg h4))
theorem zjr(t:List Int):(intsD t).canLay0=true:=by
 simp only[intsD,PyData.canLay0];refine zfc fun d hd=>?_
 obtain⟨x,_,rfl⟩:=List.mem_map.mp hd;rfl
theorem zp5(ts:List (List Int)):(trnD ts).canLay0=true:=by
 simp only[trnD,PyData.canLay0];refine zfc fun d hd=>?_
 obtain⟨x,_,rfl⟩:=List.mem_map.mp hd;exact zjr x
theorem zp6(rs:List Raw):(rwsD rs).canLay0=true:=by
 simp only[rwsD,PyData.canLay0];refine zfc fun d hd=>?_
 obtain⟨x,_,rfl⟩:=List.mem_map.mp hd;simp[rawD,PyData.canLay0,PyData.canLayAll0]
theorem zk4(t:List Int):(intsD t).depth<=2:=by
 simp only[intsD,PyData.depth]
 have:=zdz (n:=1) (ds:=t.map PyData.int) fun d hd=>by
  obtain⟨x,_,rfl⟩:=List.mem_map.mp hd;simp[PyData.depth]
 omega
theorem zpt(ts:List (List Int)):(trnD ts).depth<=3:=by
 simp only[trnD,PyData.depth]
 have:=zdz (n:=2) (ds:=ts.map intsD) fun d hd=>by
  obtain⟨x,_,rfl⟩:=List.mem_map.mp hd;exact zk4 x
 omega
theorem zpu(rs:List Raw):(rwsD rs).depth<=4:=by
 simp only[rwsD,PyData.depth]
 have:=zdz (n:=3) (ds:=rs.map rawD) fun d hd=>by
  obtain⟨x,_,rfl⟩:=List.mem_map.mp hd;simp[rawD,PyData.depth,PyData.depthAll]
 omega
theorem zo4:PyData.strOk "rope" = true:=by decide +kernel
theorem zlg:PyData.strOk "loose" = true:=by decide +kernel
theorem zrb:PyData.strOk "net" = true:=by decide +kernel
theorem zo1:PyData.strOk "turn" = true:=by decide +kernel
theorem zo5:PyData.strOk "flat" = true:=by decide +kernel
theorem zo2:PyData.strOk "told" = true:=by decide +kernel
theorem zlf:PyData.strOk "place" = true:=by decide +kernel
theorem zkf:PyData.strOk "places" = true:=by decide +kernel
theorem zle:PyData.strOk "ropes" = true:=by decide +kernel
theorem zo6:PyData.strOk "ease" = true:=by decide +kernel
theorem zsx{n:Int}{rs:List Raw}{ts:List (List Int)}:∀{d:ShF},detP n rs ts d->(ansD n rs ts d).canLay0=true/\(ansD n rs ts d).depth<=64
 | .net w,h=>by
  have hw:PyData.strOk w=true:=by
   have h':w=if 2<=n/\n<=15 then "ropes" else "places":=h
   rw[h'];split
   ·exact zle
   ·exact zkf
  exact⟨by simp[ansD,PyData.canLay0,PyData.canLayAll0,hw,zrb],by simp[ansD,PyData.depth,PyData.depthAll]⟩
 | .rope k w,⟨r,_,_,_,h⟩=>by
  have hw:PyData.strOk w=true:=by
   rw[h];split
   ·exact zo6
   ·exact zlf
  exact⟨by simp[ansD,PyData.canLay0,PyData.canLayAll0,hw,zo4],by simp[ansD,PyData.depth,PyData.depthAll]⟩
 | .turn _,_=>⟨by simp[ansD,PyData.canLay0,PyData.canLayAll0,zo1],by simp[ansD,PyData.depth,PyData.depthAll]⟩
 | .loose _,_=>⟨by simp[ansD,PyData.canLay0,PyData.canLayAll0,zlg],by simp[ansD,PyData.depth,PyData.depthAll]⟩
 | .flat _,_=>⟨by simp[ansD,PyData.canLay0,PyData.canLayAll0,zo5],by simp[ansD,PyData.depth,PyData.depthAll]⟩
 | .told,_=>by
  have a1:=zp6 rs;have a2:=zp5 (ts.map begL);have b1:=zpu rs;have b2:=zpt (ts.map begL);show(PyData.tuple [.str "told",.tuple [.int n,rwsD rs,trnD (ts.map begL)]]).canLay0=true/\(PyData.tuple [.str "told",.tuple [.int n,rwsD rs,trnD (ts.map begL)]]).depth<=64;generalize rwsD rs=x at a1 b1 ⊢;generalize trnD (ts.map begL)=y at a2 b2 ⊢;refine⟨by simp[PyData.canLay0,PyData.canLayAll0,a1,a2,zo2],?_⟩;simp only[PyData.depth,PyData.depthAll];omega
theorem zo3:PyData.strOk "text" = true:=by decide +kernel
def txtD(p:Int):PyData:=.tuple [.str "text",.int p]
theorem zr4(p:Int):(txtD p).canLay0=true/\(txtD p).depth<=64:=⟨by simp[txtD,PyData.canLay0,PyData.canLayAll0,zo3],by simp[txtD,PyData.depth,PyData.depthAll]⟩
def rdL(CN CR CT CL CX:Addr)(vs:List V)(H:Hp)(Q:VK)(E:XK):Prop:=∃(a ra ta:Addr) (n:Int),vs=[.ref a]/\H a=some (.tup [.int n,.ref ra,.ref ta])/\spCk CN CR CT CL CX [.int n,.ref ra,.ref ta] H Q E
def rdN(CP CN CR CT CL CX:Addr)(vs:List V)(H:Hp)(Q:VK)(E:XK):Prop:=spNd CP CN CR CT CL CX vs H Q E
def lenOk(ws:List Str):Prop:=ws.length<=900/\∀w∈ws,w.length<=900
def TxP(x:Str)(p:Int):Prop:=((Txt.split x spS).length≠3/\p=3)\/∃a b c,Txt.split x spS=[a,b,c]/\((numOk a 3=false/\p=0)\/(numOk a 3=true/\lenOk (Txt.split b spC)/\(((∃w∈Txt.split b spC,ropeR w=none)/\p=1)\/∃rs:List Raw,(Txt.split b spC).map ropeR=rs.map some/\lenOk (Txt.split c spB)/\(∃w∈Txt.split c spB,turnR w=none)/\p=2)))
def TxN(x:Str)(n:Int)(rs:List Raw)(ts:List (List Int)):Prop:=∃a b c,Txt.split x spS=[a,b,c]/\numOk a 3=true/\numV a=n/\lenOk (Txt.split b spC)/\(Txt.split b spC).map ropeR=rs.map some/\lenOk (Txt.split c spB)/\(Txt.split c spB).map turnR=ts.map some/\∀t∈ts,t.length<64
theorem zdp{α β:Type}{f:α->Option β}{ws:List α}{rs:List β}(h:ws.map f=rs.map some):¬∃w∈ws,f w=none:=by
 rintro⟨w,hw,e⟩
 have:none∈ws.map f:=e ▸ List.mem_map_of_mem hw
 rw[h] at this;obtain⟨r,_,z⟩:=List.mem_map.mp this;cases z
theorem zg9{β:Type}:∀{rs us:List β},rs.map some=us.map some->rs=us
 | [],[],_=>rfl
 | [],_ :: _,h=>by cases h
 | _ :: _,[],h=>by cases h
 | r :: rs,u :: us,h=>by
  simp only[List.map_cons,List.cons.injEq,Option.some.injEq] at h;rw[h.1,zg9 h.2]
section
variable {H:Hp} {Q:VK} {E:XK} {CP CN CR CT CL CX a ra ta:Addr} {n:Int} {rs:List Raw} {ts:List (List Int)}
theorem sg_go{f:Addr}{A1 A2:Hp->Prop}(h1:A1 H)(h2:A2 H)(ha:H a=some (.tup [.int n,.ref ra,.ref ta]))(hR:TupR RawR H ra rs)(hT:TupR IntsT H ta ts)(htl:∀t∈ts,t.length<64)(q:∀o d H',Same H H'->DueP n rs ts d->resH H' n rs ts o d->Q (.ref o) H'):
  ssG CP CN CR CT CL CX (fun H Q E=>A1 H/\A2 H/\rdL CN CR CT CL CX [.ref a] H Q E) f H Q:=by
 refine⟨h1,h2,a,ra,ta,n,rfl,ha,.mk n ra ta rs ts rfl hR hT htl fun d hd=>?_⟩
 match d,hd with
 | .net w,hd=>exact fun dd H' s hx=>⟨dd,rfl,.inr (.inl ⟨rfl,_,hx,fun p H2 s2 hp=>q p (.net w) H2 (s.trans s2) hd hp⟩)⟩
 | .rope k w,hd=>exact fun dd H' s hx=>⟨dd,rfl,.inr (.inr (.inl ⟨rfl,_,_,hx,fun p H2 s2 hp=>q p (.rope k w) H2 (s.trans s2) hd hp⟩))⟩
 | .turn k,hd=>exact fun dd H' s hx=>⟨dd,rfl,.inr (.inr (.inr (.inl ⟨rfl,_,hx,fun p H2 s2 hp=>q p (.turn k) H2 (s.trans s2) hd hp⟩)))⟩
 | .loose k,hd=>exact fun dd H' s hx=>⟨dd,rfl,.inr (.inr (.inr (.inr (.inl ⟨rfl,_,hx,fun p H2 s2 hp=>q p (.loose k) H2 (s.trans s2) hd hp⟩))))⟩
 | .flat k,hd=>exact fun dd H' s hx=>⟨dd,rfl,.inr (.inr (.inr (.inr (.inr ⟨rfl,_,hx,fun p H2 s2 hp=>q p (.flat k) H2 (s.trans s2) hd hp⟩))))⟩
 | .told,hd=>exact fun p c H' s hp hc o H2 s2 ho=>q o .told H2 (s.trans s2) hd ⟨p,ra,c,ho,s2 _ _ hp,zf7 (s.trans s2) hR,zdu s2 hc⟩
theorem sn_ref{f:Addr}{A1 A2:Hp->Prop}{x:Str}{p:Int}(h1:A1 H)(h2:A2 H)(asc:Asc x)(xl:x.length<=50000)(hx:TxP x p)(q:∀o H',Same H H'->H' o=some (.tup [.str "text",.int p])->Q (.ref o) H'):
  ssG CP CN CR CT CL CX (fun H Q E=>A1 H/\A2 H/\rdN CP CN CR CT CL CX [.str x] H Q E) f H Q:=by
 have rf:∀k:Int,k=p->X1 CP "part" H (fun cls od H1=>∃d,od=some d/\((cls=.ref CP/\∃y,H1 d=some (.xd [("part",y)])/\∀p H',Same H1 H'->H' p=some (.tup [.str "text",y])->Q (.ref p) H')\/(cls=.ref CN/\∃y,H1 d=some (.xd [("word",y)])/\∀p H',Same H1 H'->H' p=some (.tup [.str "net",y])->Q (.ref p) H') \/
   (cls=.ref CR/\∃r y,H1 d=some (.xd [("word",y),("rope",r)])/\∀p H',Same H1 H'->H' p=some (.tup [.str "rope",r,y])->Q (.ref p) H')\/(cls=.ref CT/\∃y,H1 d=some (.xd [("place",y)])/\∀p H',Same H1 H'->H' p=some (.tup [.str "turn",y])->Q (.ref p) H') \/
   (cls=.ref CL/\∃y,H1 d=some (.xd [("place",y)])/\∀p H',Same H1 H'->H' p=some (.tup [.str "loose",y])->Q (.ref p) H')\/(cls=.ref CX/\∃y,H1 d=some (.xd [("lands",y)])/\∀p H',Same H1 H'->H' p=some (.tup [.str "flat",y])->Q (.ref p) H'))) (.int k):=fun k e dd H' s hx=>⟨dd,rfl,.inl ⟨rfl,_,hx,fun o H2 s2 ho=>q o H2 (s.trans s2) (by rw[<-e]; exact ho)⟩⟩
 refine⟨h1,h2,x,rfl,asc,xl,fun l3=>rf 3 ?_,fun a b c e=>?_⟩
 ·rcases hx with ⟨_,z⟩ | ⟨a,b,c,e,_⟩
  ·exact z.symm
  ·rw[e] at l3;exact absurd rfl l3
 rcases hx with ⟨z,_⟩ | ⟨a',b',c',e',h⟩
 ·rw[e] at z;exact absurd rfl z
 rw[e] at e';simp only[List.cons.injEq,and_true] at e';obtain⟨rfl,rfl,rfl⟩:=e';rcases h with ⟨n0,p0⟩ | ⟨ok,l1,h⟩
 ·exact⟨fun _=>rf 0 p0.symm,fun z=>by rw[n0] at z; cases z⟩
 refine⟨(fun z=>by rw[ok] at z; cases z),fun _=>⟨l1.1,l1.2,fun z=>?_,fun rs hrs=>?_⟩⟩
 ·rcases h with ⟨_,p1⟩ | ⟨rs,hrs,_⟩
  ·exact rf 1 p1.symm
  ·exact absurd z (zdp hrs)
 rcases h with ⟨z,_⟩ | ⟨rs',hrs',l2,z,p2⟩
 ·exact absurd z (zdp hrs)
 exact⟨l2.1,l2.2,fun _=>rf 2 p2.symm,fun ts hts=>absurd z (zdp hts)⟩
theorem sn_net{f:Addr}{A1 A2:Hp->Prop}{x:Str}(h1:A1 H)(h2:A2 H)(asc:Asc x)(xl:x.length<=50000)(hx:TxN x n rs ts)(q:∀o d H',Same H H'->DueP n rs ts d->resH H' n rs ts o d->Q (.ref o) H'):
  ssG CP CN CR CT CL CX (fun H Q E=>A1 H/\A2 H/\rdN CP CN CR CT CL CX [.str x] H Q E) f H Q:=by
 obtain⟨a,b,c,e,ok,rfl,l1,hr,l2,ht,tl⟩:=hx;refine⟨h1,h2,x,rfl,asc,xl,fun l3=>by rw[e] at l3; exact absurd rfl l3,fun a' b' c' e'=>?_⟩;rw[e] at e';simp only[List.cons.injEq,and_true] at e';obtain⟨rfl,rfl,rfl⟩:=e';refine⟨(fun z=>by rw[ok] at z; cases z),fun _=>⟨l1.1,l1.2,fun z=>absurd z (zdp hr),fun rs' hr'=>?_⟩⟩;rw[hr] at hr';obtain rfl:=zg9 hr';refine⟨l2.1,l2.2,fun z=>absurd z (zdp ht),fun ts' ht'=>?_⟩;rw[ht] at ht';obtain rfl:=zg9 ht';refine⟨tl,fun d hd=>?_⟩
 match d,hd with
 | .net w,hd=>exact fun dd H' s hx=>⟨dd,rfl,.inr (.inl ⟨rfl,_,hx,fun p H2 s2 hp=>q p (.net w) H2 (s.trans s2) hd hp⟩)⟩
 | .rope k w,hd=>exact fun dd H' s hx=>⟨dd,rfl,.inr (.inr (.inl ⟨rfl,_,_,hx,fun p H2 s2 hp=>q p (.rope k w) H2 (s.trans s2) hd hp⟩))⟩
 | .turn k,hd=>exact fun dd H' s hx=>⟨dd,rfl,.inr (.inr (.inr (.inl ⟨rfl,_,hx,fun p H2 s2 hp=>q p (.turn k) H2 (s.trans s2) hd hp⟩)))⟩
 | .loose k,hd=>exact fun dd H' s hx=>⟨dd,rfl,.inr (.inr (.inr (.inr (.inl ⟨rfl,_,hx,fun p H2 s2 hp=>q p (.loose k) H2 (s.trans s2) hd hp⟩))))⟩
 | .flat k,hd=>exact fun dd H' s hx=>⟨dd,rfl,.inr (.inr (.inr (.inr (.inr ⟨rfl,_,hx,fun p H2 s2 hp=>q p (.flat k) H2 (s.trans s2) hd hp⟩))))⟩
 | .told,hd=>exact fun p a c H' s hp ha hc o H2 s2 ho=>q o .told H2 (s.trans s2) hd ⟨p,a,c,ho,s2 _ _ hp,zf7 s2 ha,zdu s2 hc⟩
theorem zoc{Q':VK}{E':XK}(hq:∀v H,Q v H->Q' v H)(he:∀c o H,E c o H->E' c o H):∀{d:ShF},resF CN CR CT CL CX H Q E n a ts d->resF CN CR CT CL CX H Q' E' n a ts d
 | .net _,h=>fun d H' s x=>he _ _ _ (h d H' s x)
 | .rope _ _,h=>fun d H' s x=>he _ _ _ (h d H' s x)
 | .turn _,h=>fun d H' s x=>he _ _ _ (h d H' s x)
 | .loose _,h=>fun d H' s x=>he _ _ _ (h d H' s x)
 | .flat _,h=>fun d H' s x=>he _ _ _ (h d H' s x)
 | .told,h=>fun p c H' s x y=>hq _ _ (h p c H' s x y)
theorem zog{vs:List V}{Q':VK}{E':XK}(hq:∀v H,Q v H->Q' v H)(he:∀c o H,E c o H->E' c o H)(h:rdL CN CR CT CL CX vs H Q E):rdL CN CR CT CL CX vs H Q' E':=by
 obtain⟨a,ra,ta,n,h1,h2,n',a',b',rs,ts,g0,g1,g2,g3,g4⟩:=h;exact⟨a,ra,ta,n,h1,h2,n',a',b',rs,ts,g0,g1,g2,g3,fun d hd=>zoc hq he (g4 d hd)⟩
theorem zdd{C:Addr}{fl:Str}{y:V}{E':XK}(he:∀c o H,E c o H->E' c o H)(h:X1 C fl H E y):X1 C fl H E' y:=fun d H' s x=>he _ _ _ (h d H' s x)
theorem zll{Q':VK}{E':XK}(hq:∀v H,Q v H->Q' v H)(he:∀c o H,E c o H->E' c o H):∀{d:ShF},resN CN CR CT CL CX H Q E n rs ts d->resN CN CR CT CL CX H Q' E' n rs ts d
 | .net _,h=>zdd he h
 | .rope _ _,h=>fun d H' s x=>he _ _ _ (h d H' s x)
 | .turn _,h=>zdd he h
 | .loose _,h=>zdd he h
 | .flat _,h=>zdd he h
 | .told,h=>fun p a c H' s x y z=>hq _ _ (h p a c H' s x y z)
theorem zof{vs:List V}{Q':VK}{E':XK}(hq:∀v H,Q v H->Q' v H)(he:∀c o H,E c o H->E' c o H)(h:rdN CP CN CR CT CL CX vs H Q E):rdN CP CN CR CT CL CX vs H Q' E':=by
 obtain⟨x,e,asc,xl,h3,h4⟩:=h;refine⟨x,e,asc,xl,fun z=>zdd he (h3 z),fun a b c z=>?_⟩;obtain⟨g1,g2⟩:=h4 a b c z;refine⟨fun z=>zdd he (g1 z),fun z=>?_⟩;obtain⟨a1,a2,a3,a4⟩:=g2 z;refine⟨a1,a2,fun z=>zdd he (a3 z),fun rs hrs=>?_⟩;obtain⟨b1,b2,b3,b4⟩:=a4 rs hrs;exact⟨b1,b2,fun z=>zdd he (b3 z),fun ts hts=>⟨(b4 ts hts).1,fun d hd=>zll hq he ((b4 ts hts).2 d hd)⟩⟩
end
theorem zep{α:Type}{x:Str}{k:α}:∀{l:List (Str×α)},l.lookup x=some k->(x,k)∈l
 | [],h=>by cases h
 | (y,v) :: l,h=>by
  rw[List.lookup_cons] at h;split at h
  ·rename_i z
   cases h;rw[eq_of_beq z];exact List.mem_cons_self ..
  ·exact List.mem_cons_of_mem _ (zep h)
theorem zjs {X:Cx} {scope:Scope} {cl:List (Str×Addr)} {N:List Str} {js:List Nat} (clos:closureFor scope X.env=pure cl) (kind:scope.kind=.function) (co:scope.isCoroutine=false) (gen:scope.isGenerator=false)
  (hl:N.length=js.length) (nm:∀p∈N.zip js,∃c,X.N[p.2]?=some p.1/\scope.names.lookup p.1=some .free/\cl.lookup p.1=some c/\X.env.cells.lookup p.1=some c/\X.env.scope.names.lookup p.1=some .cell)
  (sub:∀p∈cl,X.env.cells.lookup p.1=some p.2) (nc:∀y∈scope.names,y.2≠.cell) (has:∀y∈scope.names,y.2=.free->∃c,cl.lookup y.1=some c) (own:∀x,X.fn x=true):LamSc X scope cl N js:=by
 refine⟨clos,kind,co,gen,nc,fun i x hi=>?_,fun x c h=>sub _ (zep h),fun x h=>?_,own⟩
 ·have il:=(List.getElem?_eq_some_iff.mp hi).1;have hj:js[i]?=some js[i]:=List.getElem?_eq_getElem (by omega);obtain⟨c,h1,h2,h3,h4,h5⟩:=nm (x,js[i]) (List.mem_of_getElem? (i:=i) (by rw[List.getElem?_zip_eq_some]; exact⟨hi,hj⟩));exact⟨_,c,hj,h1,h2,h3,h4,h5⟩
 ·rcases h with h | h
  ·exact absurd rfl (nc _ (zep h))
  ·exact has _ (zep h) rfl
theorem zcb{H:Hp}{T b:Addr}{q:Str}{xs:List V}(h:TabM H T q)(e:H b=some (.tup xs)):b≠T:=fun z=>by
 obtain⟨L,hT,_⟩:=h;rw[z,hT] at e;cases e
theorem _root_.L2.TabM.same{H H':Hp}{T:Addr}{q:Str}(h:TabM H T q)(s:Same H H'):TabM H' T q:=by
 obtain⟨L,h1,h2⟩:=h;exact⟨L,s _ _ h1,fun e he=>s _ _ (h2 e he)⟩
theorem _root_.L2.ButT.sames{T:Addr}{H H' H'':Hp}(h:ButT T H H')(s:Same H' H''):ButT T H H'':=fun b o z e=>s _ _ (h b o z e)
theorem _root_.L2.ButT.of{T:Addr}{H H':Hp}(s:Same H H'):ButT T H H':=fun b o _ e=>s _ _ e
theorem _root_.L2.ButT.trans{T:Addr}{H H' H'':Hp}(h:ButT T H H')(g:ButT T H' H''):ButT T H H'':=fun b o z e=>g b o z (h b o z e)
theorem zq7{H H':Hp}{T a:Addr}{q:Str}{rs:List Raw}(hT:TabM H T q)(bt:ButT T H H')(h:TupR RawR H a rs):TupR RawR H' a rs:=by
 obtain⟨bs,h1,hl,hB⟩:=h;refine⟨bs,bt _ _ (zcb hT h1) h1,hl,fun i b r e1 e2=>?_⟩;obtain⟨e,g1,g2⟩:=hB i b r e1 e2;exact⟨e,bt _ _ (zcb hT g1) g1,bt _ _ (zcb hT g2) g2⟩
theorem zq3{H H':Hp}{T a:Addr}{q:Str}{ts:List (List Int)}(hT:TabM H T q)(bt:ButT T H H')(h:TupR IntsT H a ts):TupR IntsT H' a ts:=by
 obtain⟨bs,h1,hl,hB⟩:=h;refine⟨bs,bt _ _ (zcb hT h1) h1,hl,fun i b t e1 e2=>?_⟩;have g:H b=some (.tup (t.map V.int)):=hB i b t e1 e2;exact bt _ _ (zcb hT g) g
theorem zod{H H':Hp}{T o:Addr}{q:Str}{n:Int}{rs:List Raw}{ts:List (List Int)}(hT:TabM H T q)(bt:ButT T H H'):∀{d:ShF},resH H n rs ts o d->resH H' n rs ts o d
 | .net _,h=>bt _ _ (zcb hT h) h
 | .rope _ _,h=>bt _ _ (zcb hT h) h
 | .turn _,h=>bt _ _ (zcb hT h) h
 | .loose _,h=>bt _ _ (zcb hT h) h
 | .flat _,h=>bt _ _ (zcb hT h) h
 | .told,⟨p,a,c,h1,h2,h3,h4⟩=>⟨p,a,c,bt _ _ (zcb hT h1) h1,bt _ _ (zcb hT h2) h2,zq7 hT bt h3,zq3 hT bt h4⟩
def pipB(l:List Nat):Bool:=decide (∀i,i<l.length->l[i]?=some 124->0<i/\l[i-1]?≠some 32)
def wpB(p:Int)(w:Str):Bool:=w.cps.toList.all (fun c=>decide (c<128) && decide (c≠59)) && decide (w.length<=300) && (decide (p≠1) || !w.cps.toList.contains 44) && (decide (p≠2) || pipB w.cps.toList)
def badB(p:Int)(w:Str):Bool:=wpB p w && (decide (p≠0) || !numOk w 3) && (decide (p≠1) || (ropeR w).isNone) && (decide (p≠2) || (turnR w).isNone)
theorem zd2{p:Int}{w:Str}(h:wpB p w=true):Asc w/\59∉w.cps.toList/\w.length<=300:=by
 unfold wpB at h;simp only[Bool.and_eq_true,List.all_eq_true,decide_eq_true_eq] at h;exact⟨fun c hc=>(h.1.1.1 c hc).1,fun z=>(h.1.1.1 59 z).2 rfl,h.1.1.2⟩
theorem wp_one{w:Str}(h:wpB 1 w=true):44∉w.cps.toList:=by
 unfold wpB at h;simp only[Bool.and_eq_true,Bool.or_eq_true] at h;rcases h.1.2 with z | z
 ·exact absurd z (by decide)
 ·intro y;rw[List.contains_iff_mem.mpr y] at z;cases z
theorem wp_two{w:Str}(h:wpB 2 w=true):∀i,i<w.cps.toList.length->w.cps.toList[i]?=some 124->0<i/\w.cps.toList[i-1]?≠some 32:=by
 unfold wpB at h;simp only[Bool.and_eq_true,Bool.or_eq_true] at h;rcases h.2 with z | z
 ·exact absurd z (by decide)
 ·exact of_decide_eq_true z
theorem znk{p:Int}{w:Str}(h:badB p w=true):wpB p w=true:=by
 unfold badB at h;simp only[Bool.and_eq_true] at h;exact h.1.1.1
theorem bad_0{w:Str}(h:badB 0 w=true):numOk w 3=false:=by
 unfold badB at h;simp only[Bool.and_eq_true] at h
 have:=h.1.1.2
 simpa using this
theorem bad_1{w:Str}(h:badB 1 w=true):ropeR w=none:=by
 unfold badB at h;simp only[Bool.and_eq_true] at h
 have:=h.1.2
 simpa using this
theorem bad_2{w:Str}(h:badB 2 w=true):turnR w=none:=by
 unfold badB at h;simp only[Bool.and_eq_true] at h
 have:=h.2
 simpa using this
abbrev sS(s:String):Str:=Str.ofString s
def ones:Str:=repS (sS "1") 41
def bad0:List Str:=[sS "",sS "02",sS "-2",sS "1000",sS "a",sS " 2",sS "2 ",sS "+2",sS "2.",sS "00"]
def bad1a:List Str:=[sS "",sS "0 1",sS "0 1 1 1",sS "0  1 1",sS "0 1 1/0",sS "0 1 01",sS "0 1 1/",sS "0 1 /2",sS "0 1 1/2/3",sS "0 1000 1"]
def bad1b:List Str:=[sS "x 1 1",sS "0 1 "++ones,sS "0 1 1/"++ones,sS "00 1 1",sS "0 -1 1",sS " 0 1 1",sS "0 1 -1"]
def bad1c:List Str:=[sS "0 1 1/02",sS "0 1 1 "]
def bad2:List Str:=[sS "",sS "0  2",sS "0 2 ",sS "00",sS "0,2",sS "-1",sS "1000",sS "0 a",sS " 0",sS "0 02",sS "0|2"]
theorem zpy:bad0.all (badB 0)=true:=by decide +kernel
theorem zpx:(bad1a++bad1b++bad1c).all (badB 1)=true:=by decide +kernel
theorem zpw:bad2.all (badB 2)=true:=by decide +kernel
theorem zgh{xs:List Str}{z p:Int}(ha:xs.all (badB p)=true)(h:0<=z)(h2:z<(xs.length:Int)):∃x,atI (xs.map V.str) z=some (.str x)/\badB p x=true:=by
 obtain⟨i,rfl⟩:=Int.eq_ofNat_of_zero_le h;have il:i<xs.length:=by omega
 refine⟨xs[i],zaf ?_,List.all_eq_true.mp ha _ (List.getElem_mem il)⟩;rw[List.getElem?_map,List.getElem?_eq_getElem il];rfl
section
variable {P:Program} {w:World} {K:PySem.W.Frag} {mg:Str->Option Value} {base:Heap} {f g h f1 f2 f3 f4 f5 fI:Addr} {fd gd hd d1 d2 d3 d4 d5 dI:FuncData}
inductive SpBadR(vs:List V)(H:Hp)(Q:VK):Prop
 | mk (p z:Int) (h_0:vs=[.int p,.int z]) (h_1:p=0\/p=1\/p=2) (h_2:∀w H',Same H H'->badB p w=true->Q (.str w) H'):SpBadR vs H Q
def spBad:Sp:=fun vs H Q _=>SpBadR vs H Q
theorem scBad:FnScope ["_law_part","_law_cell","_law_some"] ["_law_part","_law_cell"] (defScope zcl):=⟨rfl,rfl,rfl,by decide +kernel,rfl,by decide +kernel,by decide +kernel⟩
set_option maxHeartbeats 4000000 in
seal L2.PSs L2.PS L2.PE L2.PA in
theorem ok_bad(F:Fun K "_law_bad" "_law_bad" zcl f fd):FnOk P w K mg base CX0 1 f fd ["_law_part","_law_cell"] spBad:=by
 refine F.ok scBad (fun vs H Q E h=>?_) (fun cdv A outer s H vs Q E hr h=>?_)
 ·obtain⟨p,z,rfl,_⟩:=h;rfl
 obtain⟨p,z,rfl,hp,q⟩:=h;refine⟨_,za2 (zas (zac zd7 (pv 0) za3 (nomark _)) (za6 (zag (zai (ixL (K:=K)) (zar (za0 zaa (za0 zaa (za0 zaa (za0 zaa (za0 zaa (za0 zaa (za0 zaa (za0 zaa (za0 zaa (za0 zaa za4))))))))))) (za7 zaj (pv 1) za3) (fun _ _=>rfl)))) zad)
  (za2 (zas (zac zd7 (pv 0) za3 (nomark _)) (za2 (za8 (i:=2) scBad.nd rfl (Or.inl rfl) (zar (za0 zaa (za0 zaa (za0 zaa (za0 zaa (za0 zaa (za0 zaa (za0 zaa (za0 zaa (za0 zaa (za0 zaa za4))))))))))))
   (za2 (za8 (i:=2) scBad.nd rfl (Or.inl rfl) (za7 zjo (pv 2) (zar (za0 zaa (za0 (za7 zbo zaa (za7 zm0 zaa za3)) (za0 (za7 zbo zaa (za7 zm0 zaa za3)) (za0 zaa (za0 zaa (za0 zaa (za0 zaa za4))))))))))
   (za2 (za8 (i:=2) scBad.nd rfl (Or.inl rfl) (za7 zjo (pv 2) (zar (za0 zaa (za0 zaa za4)))))
   (za6 (zag (zai (ixL (K:=K)) (pv 2) (za7 zaj (pv 1) za3) (fun _ _=>rfl))))))) zad)
  (za6 (zag (zai (ixL (K:=K)) (zar (za0 zaa (za0 zaa (za0 zaa (za0 zaa (za0 zaa (za0 zaa (za0 zaa (za0 zaa (za0 zaa (za0 zaa (za0 zaa za4)))))))))))) (za7 zaj (pv 1) za3) (fun _ _=>rfl))))),?_⟩
 refine⟨_,rfl,rfl,_,rfl,?_⟩;by_cases p0:p=0
 ·refine iteDT (iv p0) ?_;subst p0;refine⟨by show 10<=sizeLine; decide,fun L hL=>?_⟩;have sL:=za5 hL (.lst (bad0.map V.str));have eL:(upd H L (.lst (bad0.map V.str))) L=some (.lst (bad0.map V.str)):=za1;obtain⟨x,hx,bx⟩:=zgh (z:=z % 10) zpy (by omega) (by show _<((10:Nat):Int); omega);exact⟨_,rfl,_,_,rfl,rfl,(show(0:Int)<10 by decide),L,_,_,_,rfl,rfl,SqL.of eL,hx,q x _ sL bx⟩
 refine iteDF (ivn p0) ⟨_,rfl,rfl,_,rfl,?_⟩;by_cases p1:p=1
 ·refine iteDT (iv p1) ?_;subst p1;refine⟨by show 10<=sizeLine; decide,fun L hL=>?_⟩;have sL:=za5 hL (.lst (bad1a.map V.str));have eL:(upd H L (.lst (bad1a.map V.str))) L=some (.lst (bad1a.map V.str)):=za1;show tSeq _ _ _ _ (upd H L (.lst (bad1a.map V.str)));generalize upd H L (.lst (bad1a.map V.str))=H1 at sL eL;have fit:∀y:Str,y.length<=100->y.length+ones.length<=sizeLine:=fun y hy=>by
   have:ones.length=41:=by decide +kernel
   rw[this,sizeLine_eq];omega
  have ol:(repS (sS "1") ((41:Int).toNat)).length<=sizeLine:=by
   have:ones.length=41:=by decide +kernel
   show ones.length<=_;rw[this,sizeLine_eq];omega
  refine⟨_,rfl,_,_,rfl,rfl,rfl,by decide,by decide,ol,_,_,rfl,rfl,fit _ (by decide),_,_,rfl,rfl,rfl,by decide,by decide,ol,_,_,rfl,rfl,fit _ (by decide),by show 7<=sizeLine; decide,fun L2 hL2=>?_⟩;have sL2:=za5 hL2 (.lst (bad1b.map V.str));have eL2:(upd H1 L2 (.lst (bad1b.map V.str))) L2=some (.lst (bad1b.map V.str)):=za1;refine⟨L,L2,_,_,rfl,rfl,sL2 _ _ eL,eL2,by show 10+7<=sizeLine; decide,fun L3 hL3=>?_⟩;have sL3:=za5 hL3 (.lst (bad1a.map V.str++bad1b.map V.str));have eL3:(upd (upd H1 L2 (.lst (bad1b.map V.str))) L3 (.lst (bad1a.map V.str++bad1b.map V.str))) L3=some (.lst ((bad1a++bad1b).map V.str)):=by rw[za1,List.map_append]
  have s3:Same H (upd (upd H1 L2 (.lst (bad1b.map V.str))) L3 (.lst (bad1a.map V.str++bad1b.map V.str))):=sL.trans (sL2.trans sL3);show tSeq _ _ _ _ (upd (upd H1 L2 (.lst (bad1b.map V.str))) L3 (.lst (bad1a.map V.str++bad1b.map V.str)));generalize upd (upd H1 L2 (.lst (bad1b.map V.str))) L3 (.lst (bad1a.map V.str++bad1b.map V.str))=H3 at s3 eL3;refine⟨_,rfl,by show 2<=sizeLine; decide,fun L4 hL4=>?_⟩;have sL4:=za5 hL4 (.lst (bad1c.map V.str));have eL4:(upd H3 L4 (.lst (bad1c.map V.str))) L4=some (.lst (bad1c.map V.str)):=za1;refine⟨L3,L4,_,_,rfl,rfl,sL4 _ _ eL3,eL4,by show 17+2<=sizeLine; decide,fun L5 hL5=>?_⟩;have sL5:=za5 hL5 (.lst ((bad1a++bad1b).map V.str++bad1c.map V.str));have eL5:(upd (upd H3 L4 (.lst (bad1c.map V.str))) L5 (.lst ((bad1a++bad1b).map V.str++bad1c.map V.str))) L5=some (.lst ((bad1a++bad1b++bad1c).map V.str)):=by rw[za1,List.map_append (l₁:=bad1a++bad1b)]
  obtain⟨x,hx,bx⟩:=zgh (z:=z % 19) zpx (by omega) (by show _<((19:Nat):Int); omega);exact⟨_,rfl,_,rfl,_,_,rfl,rfl,(show(0:Int)<19 by decide),L5,_,_,_,rfl,rfl,SqL.of eL5,hx,q x _ (s3.trans (sL4.trans sL5)) bx⟩
 refine iteDF (ivn p1) ?_;obtain rfl:p=2:=by omega
 refine⟨by show 11<=sizeLine; decide,fun L hL=>?_⟩;have sL:=za5 hL (.lst (bad2.map V.str));have eL:(upd H L (.lst (bad2.map V.str))) L=some (.lst (bad2.map V.str)):=za1;obtain⟨x,hx,bx⟩:=zgh (z:=z % 11) zpw (by omega) (by show _<((11:Nat):Int); omega);exact⟨_,rfl,_,_,rfl,rfl,(show(0:Int)<11 by decide),L,_,_,_,rfl,rfl,SqL.of eL,hx,q x _ sL bx⟩
end
def StrsL(H:Hp)(b:Addr)(ws:List Str):Prop:=H b=some (.lst (ws.map V.str))
theorem zgs:Mo StrsL:=fun s h=>s _ _ h
def RowsR(H:Hp)(L:Addr)(Rs:List (List Str)):Prop:=∃ls:List Addr,H L=some (.lst (ls.map V.ref))/\At StrsL H ls Rs
theorem zmd{H H':Hp}{L:Addr}{Rs:List (List Str)}(s:Same H H')(h:RowsR H L Rs):RowsR H' L Rs:=by
 obtain⟨ls,h1,h2⟩:=h;exact⟨ls,s _ _ h1,h2.keep zgs s⟩
theorem zq6(n d j:Nat):HT.sIx n d (some (j:Int))=min j n:=by
 unfold HT.sIx;dsimp only;rw[if_neg (by omega),Int.toNat_natCast]
theorem zfh{xs:List V}{a:Nat}(h:a<=xs.length):cutV xs none (some (a:Int))=xs.take a:=by
 unfold cutV;rw[show HT.sIx xs.length 0 none=0 from rfl,show HT.sIx xs.length xs.length (some (a:Int))=a by rw[zq6]; omega];simp
theorem ze0{xs:List V}{b:Nat}:cutV xs (some (b:Int)) none=xs.drop b:=by
 unfold cutV;rw[show HT.sIx xs.length xs.length none=xs.length from rfl,zq6];rw[List.take_of_length_le (by rw[List.length_drop]; exact Nat.le_refl _)];rcases Nat.le_total b xs.length with z | z
 ·rw[Nat.min_eq_left z]
 ·rw[Nat.min_eq_right z,List.drop_of_length_le (Nat.le_refl _),List.drop_of_length_le z]
theorem zk7{H:Hp}{bs:List Addr}{xs:List (List Str)}{M:Addr}{o:HO}(h:At StrsL H bs xs)(hm:∀b∈bs,b≠M):At StrsL (upd H M o) bs xs:=⟨h.1,fun i b x e1 e2=>by
 have:=h.2 i b x e1 e2
 unfold StrsL at this ⊢;rw[upd_ne (hm b (List.mem_of_getElem? e1))];exact this⟩
theorem zqj{n j:Nat}(h:j<n):ixN n (j:Int)=some j:=by
 unfold ixN;rw[if_pos (by omega),if_pos (by omega)];rfl
theorem zf6(z:Int){m:Int}(h:0<m):∃k:Nat,z % m=k/\(k:Int)<m:=⟨(z % m).toNat,by have:=Int.emod_nonneg z (show m≠0 by omega); omega,by have:=Int.emod_nonneg z (show m≠0 by omega); have:=Int.emod_lt_of_pos z h; omega⟩
section
variable {P:Program} {w:World} {K:PySem.W.Frag} {mg:Str->Option Value} {base:Heap} {f g h f1 f2 f3 f4 f5 fI:Addr} {fd gd hd d1 d2 d3 d4 d5 dI:FuncData}
def Spo(p:Nat)(R R':List Str):Prop:=∃(w:Str) (a b:Nat),badB (p:Int) w=true/\a<=R.length/\a<=b/\(R'=R.take a++[w]++R.drop b/\p≠0\/R'=[w])
inductive SpSpoR(vs:List V)(H:Hp)(Q:VK):Prop
 | mk (L:Addr) (Rs:List (List Str)) (R:List Str) (p:Nat) (z:Int) (h_0:vs=[.ref L,.int (p:Int),.int z]) (h_1:RowsR H L Rs) (h_2:Rs[p]?=some R) (h_3:Rs.length=3) (h_4:R≠[]) (h_5:R.length<=100)
  (h_6:∀L' R' H',Same H H'->RowsR H' L' (Rs.set p R')->Spo p R R'->Q (.ref L') H'):SpSpoR vs H Q
def spSpo:Sp:=fun vs H Q _=>SpSpoR vs H Q
theorem scSpo:FnScope ["_law_rows","_law_part","_law_cell","_law_at","_law_kept","_law_made"] ["_law_rows","_law_part","_law_cell"] (defScope zbi):=⟨rfl,rfl,rfl,by decide +kernel,rfl,by decide +kernel,by decide +kernel⟩
set_option maxHeartbeats 4000000 in
seal L2.PSs L2.PS L2.PE L2.PA in
theorem ok_spo(F:Fun K "_law_spoilt" "_law_spoilt" zbi f fd)(G:FnOk P w K mg base CX0 1 g gd ["_law_part","_law_cell"] spBad)(bG:Binds K gd ["_law_part","_law_cell"] [])(kG:PySem.W.keepIn K (.ref g)=true)(mG:mg "_law_bad" = some (.ref g))(ml:mg "len" = none)(mli:mg "list" = none):FnOk P w K mg base CX0 2 f fd ["_law_rows","_law_part","_law_cell"] spSpo:=by
 refine F.ok scSpo (fun vs H Q E h=>?_) (fun cdv A outer s H vs Q E hr h=>?_)
 ·obtain⟨L,Rs,R,p,z,rfl,_⟩:=h;rfl
 obtain⟨L,Rs,R,p,z,rfl,⟨ls,hL,hA⟩,hp,r3,rn,rl,q⟩:=h;refine⟨_,za2 (za8 (i:=3) scSpo.nd rfl (Or.inl rfl) (za7 zaj (za7 zat (pv 2) za3) (zab (callLen (K:=K)) (by rfl) ml zav (za0 (zai (ixL (K:=K)) (pv 0) (pv 1) (fun _ _=>rfl)) za4))))
  (za2 (za8 (i:=4) scSpo.nd rfl (Or.inl rfl) (zbz (slL (K:=K)) (zai (ixL (K:=K)) (pv 0) (pv 1) (fun _ _=>rfl)) (zch (za7 zb1 (pv 3) (za7 zaj (pv 2) za3))) zci))
  (za2 (za8 (i:=5) scSpo.nd rfl (Or.inl rfl) (zak (callLst (K:=K)) (by rfl) mli zst (za0 (pv 0) za4)))
  (za2 (zfr (za7 zjo (za7 zjo (zbz (slL (K:=K)) (zai (ixL (K:=K)) (pv 0) (pv 1) (fun _ _=>rfl)) zci (zch (pv 3))) (zar (za0 (za9 G hr (by rfl) mG kG bG .nil pass0 (za0 (pv 1) (za0 (za7 zat (pv 2) za3) za4))) za4))) (pv 4)) (zjg (pv 5) (pv 1) zej))
  (za2 (zas (zac zd7 (pv 1) za3 (nomark _)) (za6 (zfr (zar (za0 (za9 G hr (by rfl) mG kG bG .nil pass0 (za0 za3 (za0 (za7 zat (pv 2) za3) za4))) za4)) (zjg (pv 5) za3 zej))) zad)
  (za6 (zag (pv 5))))))),?_⟩
 have p3:p<3:=by have:=(List.getElem?_eq_some_iff.mp hp).1; omega
 obtain⟨b,hb,hbR⟩:=hA.get hp;have hb':H b=some (.lst (R.map V.str)):=hbR;have lR:(R.map V.str).length=R.length:=List.length_map _;have lls:ls.length=3:=by rw[hA.1,r3]
 have rp:0<R.length:=List.length_pos_iff.mpr rn;obtain⟨aa,ha,al⟩:=zf6 (z / 2) (show(0:Int)<R.length by omega);obtain⟨e,he,el⟩:=zf6 z (show(0:Int)<2 by decide);have ixp:=zaf (zd4 hb);refine⟨_,rfl,_,_,rfl,rfl,⟨by decide,by decide⟩,_,rfl,_,rfl,L,_,_,_,rfl,rfl,SqL.of hL,ixp,b,_,rfl,.inl (SqL.of hb'),_,_,rfl,rfl,by rw[lR]; omega,?_⟩;rw[lR,ha];refine⟨_,rfl,_,rfl,L,_,_,_,rfl,rfl,SqL.of hL,ixp,_,rfl,_,rfl,_,_,rfl,rfl,(show(0:Int)<2 by decide),_,_,rfl,rfl,_,rfl,b,_,rfl,SqL.of hb',fun k hk=>?_⟩;rw[he,show(aa:Int)+(e:Int)=((aa+e:Nat):Int) by omega,ze0,<-List.map_drop];have s1:=za5 hk (.lst ((R.drop (aa+e)).map V.str));have e1:(upd H k (.lst ((R.drop (aa+e)).map V.str))) k=some (.lst ((R.drop (aa+e)).map V.str)):=za1;generalize upd H k (.lst ((R.drop (aa+e)).map V.str))=H1 at s1 e1;refine⟨_,rfl,L,_,rfl,.inl (SqL.of (s1 _ _ hL)),fun M hM=>?_⟩;have s2:=za5 hM (.lst (ls.map V.ref));have e2:(upd H1 M (.lst (ls.map V.ref))) M=some (.lst (ls.map V.ref)):=za1;have fM:H M=none:=s1.free hM;have kM:k≠M:=ne_of_none e1 hM;generalize upd H1 M (.lst (ls.map V.ref))=H2 at s2 e2;have s02:=s1.trans s2;dsimp only;refine zaq ?_;refine zb8 fun U hU=>?_
 refine⟨_,rfl,_,rfl,L,_,_,_,rfl,rfl,SqL.of (s02 _ _ hL),ixp,_,rfl,_,rfl,b,_,rfl,SqL.of (s02 _ _ hb'),fun t ht=>?_⟩;rw[zfh (by rw[lR]; omega),<-List.map_take];have s3:=za5 ht (.lst ((R.take aa).map V.str));have e3:(upd H2 t (.lst ((R.take aa).map V.str))) t=some (.lst ((R.take aa).map V.str)):=za1;generalize upd H2 t (.lst ((R.take aa).map V.str))=H3 at s3 e3;refine⟨_,rfl,_,rfl,_,_,rfl,rfl,⟨by decide,by decide⟩,_,_,rfl,by omega,fun w' H4 s4 bw=>?_⟩;refine⟨by show 1<=sizeLine; decide,fun l1 hl1=>?_⟩;have s5:=za5 hl1 (.lst [.str w']);have e5:(upd H4 l1 (.lst [.str w'])) l1=some (.lst [.str w']):=za1;generalize upd H4 l1 (.lst [.str w'])=H5 at s5 e5;have lT:((R.take aa).map V.str).length<=100:=by rw[List.length_map,List.length_take]; omega
 have lD:((R.drop (aa+e)).map V.str).length<=100:=by rw[List.length_map,List.length_drop]; omega
 refine⟨t,l1,_,_,rfl,rfl,s5 _ _ (s4 _ _ e3),e5,by show _+1<=_; rw[sizeLine_eq]; omega,fun t2 ht2=>?_⟩;have s6:=za5 ht2 (.lst ((R.take aa).map V.str++[.str w']));have e6:(upd H5 t2 (.lst ((R.take aa).map V.str++[.str w']))) t2=some (.lst ((R.take aa).map V.str++[.str w'])):=za1;generalize upd H5 t2 (.lst ((R.take aa).map V.str++[.str w']))=H6 at s6 e6;have s26:=s3.trans (s4.trans (s5.trans s6));refine⟨_,rfl,t2,k,_,_,rfl,rfl,e6,s26 _ _ (s2 _ _ e1),by rw[List.length_append,sizeLine_eq]; show _+1+_<=_; omega,fun t3 ht3=>?_⟩;have s7:=za5 ht3 (.lst ((R.take aa).map V.str++[.str w']++(R.drop (aa+e)).map V.str));have e7:StrsL (upd H6 t3 (.lst ((R.take aa).map V.str++[.str w']++(R.drop (aa+e)).map V.str))) t3 (R.take aa++[w']++R.drop (aa+e)):=by
  unfold StrsL;rw[za1,List.map_append,List.map_append];rfl
 generalize upd H6 t3 (.lst ((R.take aa).map V.str++[.str w']++(R.drop (aa+e)).map V.str))=H7 at s7 e7;have s27:=s26.trans s7;have e2':=s27 _ _ e2;have s07:=s02.trans s27;have lm:(ls.map V.ref).length=3:=by rw[List.length_map,lls]
 refine⟨_,rfl,_,rfl,M,_,_,p,rfl,rfl,e2',by rw[lm]; exact zqj p3,?_⟩;rw[<-List.map_set];have MT:t3≠M:=fun z=>ne_of_none (s26 _ _ e2) ht3 z.symm
 have lsM:∀b∈ls,b≠M:=fun c hc=>by
  obtain⟨j,hj⟩:=List.mem_iff_getElem?.mp hc;have jl:=(List.getElem?_eq_some_iff.mp hj).1;obtain⟨x,hx⟩:∃x,Rs[j]?=some x:=⟨_,List.getElem?_eq_getElem (by omega)⟩;have hc':H c=some (.lst (x.map V.str)):=hA.2 j c x hj hx;exact ne_of_none hc' fM
 have setM:∀{c:Addr} {j:Nat},c≠M->∀b∈ls.set j c,b≠M:=fun {c j} hc b hb=>by
  rcases List.mem_or_eq_of_mem_set hb with z | z
  ·exact lsM b z
  ·rw[z]; exact hc
 have a7:=(hA.keep zgs s07).set p e7;have s8:=s07.up fM (.lst ((ls.set p t3).map V.ref));have e8:RowsR (upd H7 M (.lst ((ls.set p t3).map V.ref))) M (Rs.set p (R.take aa++[w']++R.drop (aa+e))):=⟨ls.set p t3,za1,zk7 a7 (setM MT)⟩;have u8:(upd H7 M (.lst ((ls.set p t3).map V.ref))) M=some (.lst ((ls.set p t3).map V.ref)):=za1;have a8:=zk7 (o:=.lst ((ls.set p t3).map V.ref)) a7 (setM MT);generalize upd H7 M (.lst ((ls.set p t3).map V.ref))=H8 at s8 e8 u8 a8;subst hU;dsimp only;refine zb8 fun U2 hU2=>?_
 refine⟨_,rfl,rfl,_,rfl,?_⟩;by_cases p0:p=0;rotate_left
 ·refine iteDF (ivn (by omega)) ?_;dsimp only[tNext];subst hU2;exact⟨_,rfl,q M _ H8 s8 e8 ⟨w',aa,aa+e,bw,by omega,by omega,.inl ⟨rfl,p0⟩⟩⟩
 subst p0;refine iteDT (iv rfl) ?_;refine⟨_,rfl,_,_,rfl,rfl,⟨by decide,by decide⟩,_,_,rfl,.inl rfl,fun w2 H9 s9 bw2=>?_⟩;refine⟨by show 1<=sizeLine; decide,fun l2 hl2=>?_⟩;have s10:=za5 hl2 (.lst [.str w2]);have e10:StrsL (upd H9 l2 (.lst [.str w2])) l2 [w2]:=za1;have Ml2:l2≠M:=fun z=>ne_of_none (s9 _ _ u8) hl2 z.symm
 generalize upd H9 l2 (.lst [.str w2])=H10 at s10 e10;have s810:=s9.trans s10;have lm2:((ls.set 0 t3).map V.ref).length=3:=by rw[List.length_map,List.length_set,lls]
 refine⟨_,rfl,M,_,_,0,rfl,rfl,s810 _ _ u8,by rw[lm2]; exact zqj (by decide),?_⟩;rw[<-List.map_set,List.set_set];subst hU2;have a10:=(a8.keep zgs s810).set 0 e10;rw[List.set_set,List.set_set] at a10;refine⟨_,rfl,q M [w2] _ ((s8.trans s810).up fM _) ⟨ls.set 0 l2,za1,zk7 a10 (setM Ml2)⟩ ⟨w2,0,0,bw2,Nat.zero_le _,Nat.le_refl _,.inr rfl⟩⟩
def joinT(w0:Str)(R1 R2:List Str):Str:=Str.join spS [w0,Str.join spC R1,Str.join spB R2]
inductive SpJoR(vs:List V)(H:Hp)(Q:VK):Prop
 | mk (L:Addr) (w0:Str) (R1 R2:List Str) (h_0:vs=[.ref L]) (h_1:RowsR H L [[w0],R1,R2]) (h_2:w0.length<=300) (h_3:∀w∈R1,w.length<=300) (h_4:∀w∈R2,w.length<=300) (h_5:R1.length<=20) (h_6:R2.length<=20) (h_7:∀H',Same H H'->Q (.str (joinT w0 R1 R2)) H'):SpJoR vs H Q
def spJo:Sp:=fun vs H Q _=>SpJoR vs H Q
theorem scJo:FnScope ["_law_rows"] ["_law_rows"] (defScope zbk):=⟨rfl,rfl,rfl,by decide +kernel,rfl,by decide +kernel,by decide +kernel⟩
theorem zel{R:List Str}{y:Str}(h:∀w∈R,w.length<=300)(hl:R.length<=20)(hy:y.length<=3):(R.map (·.length)).sum+R.length*y.length<=16777216/\(Str.join y R).length<=6060:=by
 have h1:=zj7 h;have h2:=zdw (y:=y) h;have h3:=Nat.mul_le_mul_left R.length hy;have h4:R.length*(300+y.length)<=R.length*303:=Nat.mul_le_mul_left _ (by omega);omega
set_option maxHeartbeats 4000000 in
seal L2.PSs L2.PS L2.PE L2.PA in
theorem ok_jo(F:Fun K "_law_joined" "_law_joined" zbk f fd):FnOk P w K mg base CX0 1 f fd ["_law_rows"] spJo:=by
 refine F.ok scJo (fun vs H Q E h=>?_) (fun cdv A outer s H vs Q E hr h=>?_)
 ·obtain⟨L,w0,R1,R2,rfl,_⟩:=h;rfl
 obtain⟨L,w0,R1,R2,rfl,⟨ls,hL,hA⟩,z0,z1,z2,l1,l2,q⟩:=h;refine⟨_,za6 (zag (zap K PySem.F.plainAttrs_str PySem.F.slot_str_join PySem.F.type_str_join zgq zaa (za0 (zar (za0 (zai (ixL (K:=K)) (zai (ixL (K:=K)) (pv 0) za3 (fun _ _=>rfl)) za3 (fun _ _=>rfl)) (za0 (zap K PySem.F.plainAttrs_str PySem.F.slot_str_join PySem.F.type_str_join zgq zaa (za0 (zai (ixL (K:=K)) (pv 0) za3 (fun _ _=>rfl)) za4)) (za0 (zap K PySem.F.plainAttrs_str PySem.F.slot_str_join PySem.F.type_str_join zgq zaa (za0 (zai (ixL (K:=K)) (pv 0) za3 (fun _ _=>rfl)) za4)) za4)))) za4))),?_⟩;obtain⟨b0,hb0,h0⟩:=hA.get (i:=0) rfl;obtain⟨b1,hb1,h1⟩:=hA.get (i:=1) rfl;obtain⟨b2,hb2,h2⟩:=hA.get (i:=2) rfl;have h0':H b0=some (.lst [.str w0]):=h0;have h1':H b1=some (.lst (R1.map V.str)):=h1;have h2':H b2=some (.lst (R2.map V.str)):=h2;obtain⟨m1,m2⟩:=zel (y:=spC) z1 l1 (by decide);obtain⟨n1,n2⟩:=zel (y:=spB) z2 l2 (by decide);refine⟨rfl,_,rfl,L,_,_,_,rfl,rfl,SqL.of hL,zaf (j:=0) (zd4 hb0),b0,_,_,_,rfl,rfl,SqL.of h0',zaf (j:=0) rfl,?_⟩;refine⟨rfl,_,rfl,L,_,_,_,rfl,rfl,SqL.of hL,zaf (j:=1) (zd4 hb1),_,b1,_,rfl,rfl,h1',m1,?_⟩;refine⟨rfl,_,rfl,L,_,_,_,rfl,rfl,SqL.of hL,zaf (j:=2) (zd4 hb2),_,b2,_,rfl,rfl,h2',n1,?_⟩;refine⟨by show 3<=sizeLine; decide,fun l hl=>?_⟩;refine⟨_,l,[w0,Str.join spC R1,Str.join spB R2],rfl,rfl,za1,?_,q _ (za5 hl _)⟩;show w0.length+((Str.join spC R1).length+((Str.join spB R2).length+0))+3*2<=16777216;omega
end
def PipW(t:Str):Prop:=∀i,i<t.cps.toList.length->t.cps.toList[i]?=some 124->0<i/\t.cps.toList[i-1]?≠some 32
theorem zbq:spB.cps.toList=[32,124,32]:=by decide +kernel
theorem zez{x:Str}:∀(ts:List Str) (pre:List Nat) (cuts:List Nat) (f:Nat),ts≠[]->(∀t∈ts,PipW t)->x.cps.toList=pre++(Str.join spB ts).cps.toList →
  StrLaws.ChainG x spB x.length pre.length cuts f->(∀k,f<=k->¬StrLaws.At x spB x.length k)->StrLaws.partsFrom x spB.length pre.length cuts=ts
 | [],_,_,_,h,_,_,_,_=>absurd rfl h
 | [t],pre,cuts,f,_,hf,hx,hch,_=>by
  have hx':x.cps.toList=pre++t.cps.toList:=hx;cases cuts with
  | nil =>
   show [Builtin.Str.strSub x pre.length x.length]=[t];congr 1;apply PyProof.Rows.ext_toList;rw[zcc,zca,hx',List.drop_left,List.take_of_length_le (by rw[List.length_append]; omega)]
  | cons c1 r =>
   obtain⟨h1,hA,_,_⟩:=hch;have g1:=zg4 hA (i:=1) (by rw[zbq]; decide);have g0:=zg4 hA (i:=0) (by rw[zbq]; decide);rw[zbq,hx',List.getElem?_append_right (by omega)] at g1 g0;have gl:=(List.getElem?_eq_some_iff.mp g1).1
   have:=(hf t (by simp) _ gl g1).2
   rw[show c1+1-pre.length-1=c1+0-pre.length by omega] at this;exact absurd g0 this
 | t :: t2 :: r,pre,cuts,f,_,hf,hx,hch,hn=>by
  have hx':x.cps.toList=pre++(t.cps.toList++spB.cps.toList++(Str.join spB (t2 :: r)).cps.toList):=by
   rw[hx];show pre++(t++spB++Str.join spB (t2 :: r)).cps.toList=_;rw[zb7,zb7]
  have ly:=zca spB;have l3:spB.cps.toList.length=3:=by rw[zbq]; rfl
  have A0:StrLaws.At x spB x.length (pre.length+t.cps.toList.length):=by
   refine at_list.mpr ⟨?_,?_⟩
   ·rw[zca,zca,hx',List.length_append,List.length_append,List.length_append];omega
   ·rw[hx',List.append_assoc,<-List.append_assoc pre,List.drop_left' (by rw[List.length_append]),ly,List.take_left]
  cases cuts with
  | nil =>
   have e:f=pre.length:=hch;exact absurd A0 (hn _ (by omega))
  | cons c1 cs =>
   obtain⟨h1,hA,hg,hch2⟩:=hch;have le:c1<=pre.length+t.cps.toList.length:=Nat.le_of_not_lt fun z=>hg _ (by omega) z A0
   have e1:c1=pre.length+t.cps.toList.length:=by
    refine Nat.le_antisymm le (Nat.le_of_not_lt fun z=>?_);have g1:=zg4 hA (i:=1) (by rw[zbq]; decide);have g0:=zg4 hA (i:=0) (by rw[zbq]; decide);rw[hx',List.getElem?_append_right (by omega),List.append_assoc] at g1 g0;rw[List.getElem?_append_left (by omega),zbq] at g0;rcases Nat.lt_or_ge (c1+1-pre.length) t.cps.toList.length with q | q
    ·rw[List.getElem?_append_left q,zbq] at g1
     have:=(hf t (by simp) _ q g1).2
     rw[show c1+1-pre.length-1=c1+0-pre.length by omega] at this;exact absurd g0 this
    ·rw[List.getElem?_append_right q,List.getElem?_append_left (by omega),show c1+1-pre.length-t.cps.toList.length=0 by omega,zbq] at g1;cases g1
   subst e1;show Builtin.Str.strSub x pre.length (pre.length+t.cps.toList.length) :: StrLaws.partsFrom x spB.length (pre.length+t.cps.toList.length+spB.length) cs=_;congr 1
   ·apply PyProof.Rows.ext_toList;rw[zcc,hx',List.drop_left,Nat.add_sub_cancel_left,List.append_assoc,List.take_left]
   ·have:=zez (t2 :: r) (pre++(t.cps.toList++spB.cps.toList)) cs f (by simp) (fun u hu=>hf u (List.mem_cons_of_mem _ hu)) (by rw[hx',List.append_assoc,List.append_assoc,List.append_assoc])
    rw[List.length_append,List.length_append,<-ly,<-Nat.add_assoc] at this;exact this hch2 hn
theorem zny{ts:List Str}(hne:ts≠[])(hf:∀t∈ts,PipW t):Txt.split (Str.join spB ts) spB=ts:=by
 have ly:=zca spB;have l3:spB.cps.toList.length=3:=by rw[zbq]; rfl
 have hk:Builtin.Str.strKind spB=1:=by decide +kernel
 generalize hx:Str.join spB ts=x;obtain⟨f,hch,hn⟩:=StrLaws.occ_tight x spB (by omega);have key:=zez ts [] _ f hne hf (by rw[<-hx]; rfl) hch hn;have nil:Builtin.Str.occurrences x spB 0 x.length (x.length+1)=[]->[x]=ts:=fun e=>by
  rw[e] at key;rw[<-key];show [x]=[Builtin.Str.strSub x 0 x.length];congr 1;apply PyProof.Rows.ext_toList;rw[zcc,zca,List.drop_zero,List.take_of_length_le (by omega)]
 unfold Txt.split;split
 ·rename_i h
  rw[Bool.or_eq_true,decide_eq_true_eq,decide_eq_true_eq] at h;have kp:=zgv x;refine nil ?_;cases ho:Builtin.Str.occurrences x spB 0 x.length (x.length+1) with
  | nil=>rfl
  | cons c1 r =>
   rw[ho] at hch
   have:=hch.2.1.1
   omega
 ·split
  ·rename_i h
   exact nil (List.isEmpty_iff.mp h)
  ·rw[StrLaws.partsBetween_eq];exact key
theorem zbd{c:Nat}{y:Str}:∀{ts:List Str},c∈(Str.join y ts).cps.toList->c∈y.cps.toList\/∃t∈ts,c∈t.cps.toList
 | [],h=>absurd h (by show c∉([]:List Nat); simp)
 | [t],h=>.inr ⟨t,by simp,h⟩
 | t :: u :: r,h=>by
  have h':c∈(t++y++Str.join y (u :: r)).cps.toList:=h;rw[zb7,zb7,List.mem_append,List.mem_append] at h';rcases h' with (z | z) | z
  ·exact .inr ⟨t,by simp,z⟩
  ·exact .inl z
  ·rcases zbd z with z | ⟨v,hv,z⟩
   ·exact .inl z
   ·exact .inr ⟨v,List.mem_cons_of_mem _ hv,z⟩
theorem asc_C:∀c∈spC.cps.toList,c<128:=by decide +kernel
theorem asc_B:∀c∈spB.cps.toList,c<128:=by decide +kernel
theorem asc_S:∀c∈spS.cps.toList,c<128:=by decide +kernel
theorem zhf{x y z:Str}(hy:y.length≠0)(hl:y.length<=x.length)(hk:Builtin.Str.strKind y=1):Txt.replace x y z=Str.join z (Txt.split x y):=by
 have kp:=zgv x;have b:(decide (x.length<y.length) || decide (Builtin.Str.strKind x<Builtin.Str.strKind y))=false:=by
  rw[Bool.or_eq_false_iff,decide_eq_false_iff_not,decide_eq_false_iff_not];omega
 have y0:(y.length == 0)=false:=beq_eq_false_iff_ne.mpr hy;unfold Txt.replace Txt.split;simp only[b,y0,Bool.false_and,Bool.or_false,Bool.false_eq_true,if_false];split
 ·rfl
 ·rw[StrLaws.glued_eq_join]
theorem znz{x:Str}(h:59∉x.cps.toList):(Txt.split x spS).length=1:=by
 have:=zeh (ts:=[x]) (by simp) (fun t ht=>by rw[List.mem_singleton.mp ht]; exact h)
 rw[show Str.join spS [x]=x from rfl] at this;rw[this];rfl
section
variable {w0:Str} {R1 R2:List Str}
structure RowO(w0:Str)(R1 R2:List Str):Prop where
 a:wpB 0 w0=true
 b:∀w∈R1,wpB 1 w=true
 c:∀w∈R2,wpB 2 w=true
 n1:R1≠[]
 n2:R2≠[]
 l1:R1.length<=20
 l2:R2.length<=20
theorem RowO.free(h:RowO w0 R1 R2):∀t∈[w0,Str.join spC R1,Str.join spB R2],59∉t.cps.toList/\Asc t/\t.length<=6060:=by
 have k1:=zel (y:=spC) (fun w hw=>(zd2 (h.b w hw)).2.2) h.l1 (by decide);have k2:=zel (y:=spB) (fun w hw=>(zd2 (h.c w hw)).2.2) h.l2 (by decide);intro t ht;simp only[List.mem_cons,List.not_mem_nil,or_false] at ht;rcases ht with rfl | rfl | rfl
 ·obtain⟨a,b,c⟩:=zd2 h.a;exact⟨b,a,by omega⟩
 ·refine⟨fun z=>?_,fun c z=>?_,k1.2⟩
  ·rcases zbd z with z | ⟨t,ht,z⟩
   ·exact absurd z (by decide)
   ·exact(zd2 (h.b t ht)).2.1 z
  ·rcases zbd z with z | ⟨t,ht,z⟩
   ·exact asc_C c z
   ·exact(zd2 (h.b t ht)).1 c z
 ·refine⟨fun z=>?_,fun c z=>?_,k2.2⟩
  ·rcases zbd z with z | ⟨t,ht,z⟩
   ·rw[zbq] at z; exact absurd z (by decide)
   ·exact(zd2 (h.c t ht)).2.1 z
  ·rcases zbd z with z | ⟨t,ht,z⟩
   ·exact asc_B c z
   ·exact(zd2 (h.c t ht)).1 c z
theorem RowO.text(h:RowO w0 R1 R2):Txt.split (joinT w0 R1 R2) spS=[w0,Str.join spC R1,Str.join spB R2]/\Txt.split (Str.join spC R1) spC=R1/\Txt.split (Str.join spB R2) spB=R2/\Asc (joinT w0 R1 R2)/\(joinT w0 R1 R2).length<=20000:=by
 refine⟨zeh (by simp) fun t ht=>(h.free t ht).1,znx h.n1 fun t ht=>wp_one (h.b t ht),zny h.n2 fun t ht=>wp_two (h.c t ht),fun c z=>?_,?_⟩
 ·rcases zbd z with z | ⟨t,ht,z⟩
  ·exact asc_S c z
  ·exact(h.free t ht).2.1 c z
 ·have:=zdw (y:=spS) (ts:=[w0,Str.join spC R1,Str.join spB R2]) (b:=6060) fun t ht=>(h.free t ht).2.2
  have e:spS.length=2:=rfl;rw[e] at this;show(Str.join spS [w0,Str.join spC R1,Str.join spB R2]).length<=20000;have e3:([w0,Str.join spC R1,Str.join spB R2]:List Str).length=3:=rfl;rw[e3] at this;omega
theorem RowO.len1(h:RowO w0 R1 R2):lenOk R1:=⟨by have:=h.l1; omega,fun w hw=>by have:=(zd2 (h.b w hw)).2.2; omega⟩
theorem RowO.len2(h:RowO w0 R1 R2):lenOk R2:=⟨by have:=h.l2; omega,fun w hw=>by have:=(zd2 (h.c w hw)).2.2; omega⟩
theorem RowO.at0(h:RowO w0 R1 R2)(z:numOk w0 3=false):TxP (joinT w0 R1 R2) 0:=.inr ⟨_,_,_,h.text.1,.inl ⟨z,rfl⟩⟩
theorem RowO.at1(h:RowO w0 R1 R2)(o:numOk w0 3=true)(z:∃w∈R1,ropeR w=none):TxP (joinT w0 R1 R2) 1:=by
 obtain⟨t1,t2,t3,_⟩:=h.text;exact .inr ⟨_,_,_,t1,.inr ⟨o,by rw[t2]; exact h.len1,.inl ⟨by rw[t2]; exact z,rfl⟩⟩⟩
theorem RowO.at2(h:RowO w0 R1 R2)(o:numOk w0 3=true){rs:List Raw}(r:R1.map ropeR=rs.map some)(z:∃w∈R2,turnR w=none):TxP (joinT w0 R1 R2) 2:=by
 obtain⟨t1,t2,t3,_⟩:=h.text;exact .inr ⟨_,_,_,t1,.inr ⟨o,by rw[t2]; exact h.len1,.inr ⟨rs,by rw[t2]; exact r,by rw[t3]; exact h.len2,by rw[t3]; exact z,rfl⟩⟩⟩
theorem RowO.net(h:RowO w0 R1 R2)(o:numOk w0 3=true){rs:List Raw}{ts:List (List Int)}(r:R1.map ropeR=rs.map some)(z:R2.map turnR=ts.map some)(tl:∀t∈ts,t.length<64):TxN (joinT w0 R1 R2) (numV w0) rs ts:=by
 obtain⟨t1,t2,t3,_⟩:=h.text;exact⟨_,_,_,t1,o,rfl,by rw[t2]; exact h.len1,by rw[t2]; exact r,by rw[t3]; exact h.len2,by rw[t3]; exact z,tl⟩
end
def T3(x:Str):Prop:=TxP x 3/\Asc x/\x.length<=50000
theorem zr7{x:Str}(h:(Txt.split x spS).length≠3)(a:Asc x)(l:x.length<=50000):T3 x:=⟨.inl ⟨h,rfl⟩,a,l⟩
theorem zh2{x y:Str}(hx:Asc x)(hy:Asc y):Asc (x++y):=fun c hc=>by
 rw[zb7,List.mem_append] at hc;rcases hc with z | z
 ·exact hx c z
 ·exact hy c z
theorem asc_1:Asc (sS "; 1"):=by unfold Asc; decide +kernel
theorem asc_2:Asc (sS "; "):=by unfold Asc; decide +kernel
section
variable {w0:Str} {R1 R2:List Str}
theorem RowO.x1(h:RowO w0 R1 R2):T3 (joinT w0 R1 R2++sS "; 1"):=by
 obtain⟨_,_,_,asc,xl⟩:=h.text;have e:joinT w0 R1 R2++sS "; 1" = Str.join spS [w0,Str.join spC R1,Str.join spB R2,sS "1"]:=by
  apply PyProof.Rows.ext_toList;show(joinT w0 R1 R2++sS "; 1").cps.toList=(w0++spS++(Str.join spC R1++spS++(Str.join spB R2++spS++sS "1"))).cps.toList;have e1:(joinT w0 R1 R2).cps.toList=(w0++spS++(Str.join spC R1++spS++Str.join spB R2)).cps.toList:=rfl;have e2:(sS "; 1").cps.toList=spS.cps.toList++(sS "1").cps.toList:=by decide +kernel
  simp only[zb7,e1,e2,List.append_assoc]
 refine zr7 ?_ (zh2 asc asc_1) (by rw[zc9]; have:(sS "; 1").length=3:=rfl; omega);rw[e,zeh (by simp) fun t ht=>?_]
 ·show 4≠3;decide
 ·simp only[List.mem_cons,List.not_mem_nil,or_false] at ht;rcases ht with z | z | z | z
  ·exact(h.free t (by simp[z])).1
  ·exact(h.free t (by simp[z])).1
  ·exact(h.free t (by simp[z])).1
  ·rw[z]; decide +kernel
theorem RowO.x3(h:RowO w0 R1 R2):T3 (sS "; "++joinT w0 R1 R2):=by
 obtain⟨_,_,_,asc,xl⟩:=h.text;have e:sS "; "++joinT w0 R1 R2=Str.join spS [sS "",w0,Str.join spC R1,Str.join spB R2]:=by
  apply PyProof.Rows.ext_toList;show(spS++joinT w0 R1 R2).cps.toList=(sS ""++spS++joinT w0 R1 R2).cps.toList;have e2:(sS "").cps.toList=[]:=by decide +kernel
  simp only[zb7,e2,List.nil_append]
 refine zr7 ?_ (zh2 asc_2 asc) (by rw[zc9]; have:(sS "; ").length=2:=rfl; omega);rw[e,zeh (by simp) fun t ht=>?_]
 ·show 4≠3;decide
 ·simp only[List.mem_cons,List.not_mem_nil,or_false] at ht;rcases ht with z | z | z | z
  ·rw[z]; decide +kernel
  ·exact(h.free t (by simp[z])).1
  ·exact(h.free t (by simp[z])).1
  ·exact(h.free t (by simp[z])).1
theorem zib{x:Str}(h:59∉x.cps.toList)(a:Asc x)(l:x.length<=50000):T3 x:=zr7 (by rw[znz h]; decide) a l
theorem RowO.len6(h:RowO w0 R1 R2):2<=(joinT w0 R1 R2).length:=by
 show 2<=(w0++spS++(Str.join spC R1++spS++Str.join spB R2)).length;simp only[zc9];have e:spS.length=2:=rfl;omega
theorem RowO.x4(h:RowO w0 R1 R2):T3 (Txt.replace (joinT w0 R1 R2) spS spC):=by
 obtain⟨t1,_,_,asc,xl⟩:=h.text;rw[zhf (y:=spS) (by decide) (show spS.length<=_ from h.len6) (by decide +kernel),t1];have jl:=zdw (y:=spC) (ts:=[w0,Str.join spC R1,Str.join spB R2]) (b:=6060) fun t ht=>(h.free t ht).2.2
 refine zib (fun z=>?_) (fun c z=>?_) ?_
 ·rcases zbd z with z | ⟨t,ht,z⟩
  ·exact absurd z (by decide +kernel)
  ·exact(h.free t ht).1 z
 ·rcases zbd z with z | ⟨t,ht,z⟩
  ·exact asc_C c z
  ·exact(h.free t ht).2.1 c z
 ·have e:spC.length=2:=rfl;have e3:([w0,Str.join spC R1,Str.join spB R2]:List Str).length=3:=rfl;rw[e,e3] at jl;omega
theorem RowO.x2(h:RowO w0 R1 R2):T3 (Txt.replace (joinT w0 R1 R2) (sS ";") (sS "")):=by
 obtain⟨t1,_,_,asc,xl⟩:=h.text;have l6:=h.len6;have fr:∀t∈[w0,bl1++Str.join spC R1,bl1++Str.join spB R2],59∉t.cps.toList/\Asc t/\t.length<=6061:=fun t ht=>by
  simp only[List.mem_cons,List.not_mem_nil,or_false] at ht;have b59:59∉bl1.cps.toList:=by decide +kernel
  have ba:Asc bl1:=by unfold Asc; decide +kernel
  have e:bl1.length=1:=rfl;rcases ht with z | z | z
  ·obtain⟨a,b,c⟩:=h.free w0 (by simp);rw[z];exact⟨a,b,by omega⟩
  ·obtain⟨a,b,c⟩:=h.free (Str.join spC R1) (by simp);rw[z,zc9,e];refine⟨fun y=>?_,zh2 ba b,by omega⟩;rw[zb7,List.mem_append] at y;rcases y with y | y
   ·exact b59 y
   ·exact a y
  ·obtain⟨a,b,c⟩:=h.free (Str.join spB R2) (by simp);rw[z,zc9,e];refine⟨fun y=>?_,zh2 ba b,by omega⟩;rw[zb7,List.mem_append] at y;rcases y with y | y
   ·exact b59 y
   ·exact a y
 have e:joinT w0 R1 R2=Str.join (sS ";") [w0,bl1++Str.join spC R1,bl1++Str.join spB R2]:=by
  apply PyProof.Rows.ext_toList;show(w0++spS++(Str.join spC R1++spS++Str.join spB R2)).cps.toList=(w0++sS ";"++(bl1++Str.join spC R1++sS ";"++(bl1++Str.join spB R2))).cps.toList;have e2:spS.cps.toList=(sS ";").cps.toList++bl1.cps.toList:=by decide +kernel
  simp only[zb7,e2,List.append_assoc]
 have sp:Txt.split (joinT w0 R1 R2) (sS ";")=[w0,bl1++Str.join spC R1,bl1++Str.join spB R2]:=by
  rw[e];exact zck (c:=59) (j:=0) rfl (fun i hi=>by have:=(List.getElem?_eq_some_iff.mp hi).1; have e:(sS ";").cps.toList.length=1:=rfl; omega) (by decide +kernel) (by simp) fun t ht=>(fr t ht).1
 have l1:(sS ";").length=1:=rfl;rw[zhf (by decide) (by omega) (by decide +kernel),sp];have jl:=zdw (y:=sS "") (ts:=[w0,bl1++Str.join spC R1,bl1++Str.join spB R2]) (b:=6061) fun t ht=>(fr t ht).2.2
 have n0:(sS "").cps.toList=[]:=by decide +kernel
 refine zib (fun z=>?_) (fun c z=>?_) ?_
 ·rcases zbd z with z | ⟨t,ht,z⟩
  ·rw[n0] at z; cases z
  ·exact(fr t ht).1 z
 ·rcases zbd z with z | ⟨t,ht,z⟩
  ·rw[n0] at z; cases z
  ·exact(fr t ht).2.1 c z
 ·have e:(sS "").length=0:=rfl;have e3:([w0,bl1++Str.join spC R1,bl1++Str.join spB R2]:List Str).length=3:=rfl;rw[e,e3] at jl;omega
theorem x5:T3 (sS ""):=zib (by decide +kernel) (by unfold Asc; decide +kernel) (by decide)
end
theorem zr0{p:Int}{w:Str}(h:∀c∈w.cps.toList,c<128/\c≠59/\c≠44/\c≠124)(hl:w.length<=300):wpB p w=true:=by
 unfold wpB;have a:(w.cps.toList.all fun c=>decide (c<128) && decide (c≠59))=true:=by
  rw[List.all_eq_true];intro c hc;obtain⟨a,b,_⟩:=h c hc;rw[decide_eq_true a,decide_eq_true b];rfl
 have b:w.cps.toList.contains 44=false:=by
  cases q:w.cps.toList.contains 44 with
  | false=>rfl
  | true=>exact absurd rfl (h 44 (List.contains_iff_mem.mp q)).2.2.1
 have c:pipB w.cps.toList=true:=decide_eq_true fun i _ e=>absurd rfl (h 124 (List.mem_of_getElem? e)).2.2.2
 rw[a,decide_eq_true hl,b,c];simp
def rawTx(r:Raw):Str:=Str.join bl1 [txt r.1,txt r.2.1,Str.join slC [txt r.2.2.1,txt r.2.2.2]]
def turnTx(t:List Int):Str:=Str.join bl1 (t.map txt)
structure GdR(r:Raw):Prop where
 i:0<=r.1/\r.1<1000
 j:0<=r.2.1/\r.2.1<1000
 t:0<=r.2.2.1/\r.2.2.1<((10 ^ 40:Nat):Int)
 b:0<r.2.2.2/\r.2.2.2<((10 ^ 40:Nat):Int)
 f:Mth.frac r.2.2.1 r.2.2.2=r.2.2
structure GdT(t:List Int):Prop where
 n:t≠[]
 x:∀x∈t,0<=x/\x<1000
 l:t.length<=40
theorem zhm{z:Int}{k:Nat}(hk:0<k)(h0:0<=z)(h:z<((10 ^ k:Nat):Int)):numOk (txt z) k=true/\numV (txt z)=z/\(txt z).length<=k/\∀c∈(txt z).cps.toList,48<=c/\c<=57:=by
 obtain⟨n,rfl⟩:=Int.eq_ofNat_of_zero_le h0;have hn:n<10 ^ k:=Int.ofNat_lt.mp h;obtain⟨a,b⟩:=zs7 hk hn;exact⟨a,b,zl7 hk hn,fun c hc=>zl8 hc⟩
theorem zhd{r:Raw}(h:GdR r):ropeR (rawTx r)=some r/\wpB 1 (rawTx r)=true:=by
 obtain⟨i,j,t,b⟩:=r;obtain⟨⟨i0,i1⟩,⟨j0,j1⟩,⟨t0,t1⟩,⟨b0,b1⟩,fr⟩:=h;obtain⟨a1,a2,a3,a4⟩:=zhm (k:=3) (by decide) i0 i1;obtain⟨c1,c2,c3,c4⟩:=zhm (k:=3) (by decide) j0 j1;obtain⟨d1,d2,d3,d4⟩:=zhm (k:=40) (by decide) t0 t1;obtain⟨e1,e2,e3,e4⟩:=zhm (k:=40) (by decide) (Int.le_of_lt b0) b1;dsimp only at *;have sl47:∀c∈slC.cps.toList,c=47:=by decide +kernel
 have b32:∀c∈bl1.cps.toList,c=32:=by decide +kernel
 have wd:∀c∈(Str.join slC [txt t,txt b]).cps.toList,47<=c/\c<=57:=fun c z=>by
  rcases zbd z with z | ⟨u,hu,z⟩
  ·have:=sl47 c z; omega
  ·simp only[List.mem_cons,List.not_mem_nil,or_false] at hu;rcases hu with rfl | rfl
   ·have:=d4 c z; omega
   ·have:=e4 c z; omega
 have se:Txt.split (Str.join slC [txt t,txt b]) slC=[txt t,txt b]:=znw (by simp) fun u hu z=>by
  simp only[List.mem_cons,List.not_mem_nil,or_false] at hu;rcases hu with rfl | rfl
  ·have:=d4 47 z; omega
  ·have:=e4 47 z; omega
 have ee:easeR (Str.join slC [txt t,txt b])=some (t,b):=by
  unfold easeR;rw[se];show(if (numOk (txt t) 40 && numOk (txt b) 40 && decide (numV (txt b)≠0))=true then some (Mth.frac (numV (txt t)) (numV (txt b))) else none)=_;rw[d1,e1,d2,e2,decide_eq_true (show b≠0 by omega),fr];rfl
 have sr:Txt.split (rawTx (i,j,t,b)) bl1=[txt i,txt j,Str.join slC [txt t,txt b]]:=zj8 (by simp) fun u hu z=>by
  simp only[List.mem_cons,List.not_mem_nil,or_false] at hu;rcases hu with rfl | rfl | rfl
  ·have:=a4 32 z; omega
  ·have:=c4 32 z; omega
  ·have:=wd 32 z; omega
 refine⟨?_,zr0 (fun c z=>?_) ?_⟩
 ·unfold ropeR;rw[sr];show(if (numOk (txt i) 3 && numOk (txt j) 3)=true then (easeR (Str.join slC [txt t,txt b])).map fun e=>(numV (txt i),numV (txt j),e.1,e.2) else none)=_;rw[a1,c1,a2,c2,ee];rfl
 ·rcases zbd z with z | ⟨u,hu,z⟩
  ·have:=b32 c z; omega
  ·simp only[List.mem_cons,List.not_mem_nil,or_false] at hu;rcases hu with rfl | rfl | rfl
   ·have:=a4 c z; omega
   ·have:=c4 c z; omega
   ·have:=wd c z; omega
 ·show(txt i++bl1++(txt j++bl1++(txt t++slC++txt b))).length<=300;simp only[zc9];have x1:bl1.length=1:=rfl;have x2:slC.length=1:=rfl;omega
theorem zh3{t:List Int}(h:GdT t):turnR (turnTx t)=some t/\wpB 2 (turnTx t)=true:=by
 have b32:∀c∈bl1.cps.toList,c=32:=by decide +kernel
 have nm:∀x∈t,numOk (txt x) 3=true/\numV (txt x)=x/\(txt x).length<=3/\∀c∈(txt x).cps.toList,48<=c/\c<=57:=fun x hx=>zhm (by decide) (h.x x hx).1 (h.x x hx).2
 have sr:Txt.split (turnTx t) bl1=t.map txt:=zj8 (by simpa using h.n) fun u hu z=>by
  obtain⟨x,hx,rfl⟩:=List.mem_map.mp hu
  have:=(nm x hx).2.2.2 32 z
  omega
 refine⟨?_,zr0 (fun c z=>?_) ?_⟩
 ·unfold turnR;rw[sr,if_pos,List.map_map]
  ·congr 1
   have:t.map (numV ∘ txt)=t.map id:=List.map_congr_left fun x hx=>(nm x hx).2.1
   rw[this,List.map_id]
  ·rw[List.all_eq_true];intro u hu;obtain⟨x,hx,rfl⟩:=List.mem_map.mp hu;exact(nm x hx).1
 ·rcases zbd z with z | ⟨u,hu,z⟩
  ·have:=b32 c z; omega
  ·obtain⟨x,hx,rfl⟩:=List.mem_map.mp hu
   have:=(nm x hx).2.2.2 c z
   omega
 ·have:=zdw (y:=bl1) (ts:=t.map txt) (b:=3) fun u hu=>by
   obtain⟨x,hx,rfl⟩:=List.mem_map.mp hu;exact(nm x hx).2.2.1
  rw[List.length_map] at this;have e:bl1.length=1:=rfl;have l:=h.l;show(Str.join bl1 (t.map txt)).length<=300;rw[e] at this;omega
theorem zgn{n:Int}(h0:0<=n)(h:n<1000):numOk (txt n) 3=true/\numV (txt n)=n/\wpB 0 (txt n)=true:=by
 obtain⟨a,b,c,d⟩:=zhm (k:=3) (by decide) h0 h;refine⟨a,b,zr0 (fun x z=>?_) (by omega)⟩
 have:=d x z
 omega
end My
namespace L2
open PySem PySem.Spec PyProof.Rows PySem.W
section
def rCatB:R2:=fun x y H Q=>∃a b xs ys,x=.ref a/\y=.ref b/\H a=some (.tup xs)/\H b=some (.tup ys)/\xs.length+ys.length<=sizeLine/\∀p H',Same H H'->H' p=some (.tup (xs++ys))->Q (.ref p) H'
theorem zf2{X:Cx}:OpR X (binaryOp .Add) rCatB:=by
 intro pins s σ H x y v u Q I rx ry h;obtain⟨a,b,xs,ys,rfl,rfl,ha,hb,hz,q⟩:=h;by_cases hy:ys=[]
 ·by_cases hx:xs=[]
  ·subst hx hy;cases rx;cases ry;obtain⟨its,r1,p1,_⟩:=I.tuple (SqT.of ha);obtain⟨its2,r2,p2,_⟩:=I.tuple (SqT.of hb);have e0:its=[]:=r1.nil_iff.mpr rfl;obtain⟨⟨cls,dd,data,sl⟩,ho,hc,n,hd⟩:=id p1;obtain⟨⟨cls2,dd2,data2,sl2⟩,ho2,hc2,n2,hd2⟩:=id p2;simp only at hc hd hc2 hd2;subst hc hd hc2 hd2;exact concat_meets ⟨_,ho,rfl⟩ ⟨_,ho2,rfl⟩ noFill_tuple_add seq_tuple_add PySem.F.slot_tuple_add PySem.F.entry_tuple_add (PySem.F.args_tuple_add_2 _ _)
    (tuple_addW0 a b its.toArray its2.toArray n n2 dd dd2 sl sl2 (by simp[e0])) ⟨ho,ho2,⟨.ref b,H,I,rfl,q b H (Same.refl _) hb⟩⟩
  ·exact zin pins s σ H _ _ v u Q I rx ry ⟨a,b,xs,ys,rfl,rfl,SqT.of ha,SqT.of hb,hx,hz,fun z=>q a H (Same.refl _) (by rw[z,List.append_nil]; exact ha),fun z=>absurd hy z⟩
 ·exact zrr pins s σ H _ _ v u Q I rx ry ⟨a,b,xs,ys,rfl,rfl,SqT.of ha,SqT.of hb,hy,hz,fun z=>q b H (Same.refl _) (by rw[z,List.nil_append]; exact hb),fun _ p hp=>q p _ (My.za5 hp _) za1⟩
end
end L2
namespace My
open PySem L2 Mth
theorem slogI{z:Int}(h0:0<=z)(h:z<((10 ^ 40:Nat):Int)):z.natAbs.log2<1920:=by
 obtain⟨n,rfl⟩:=Int.eq_ofNat_of_zero_le h0;have hn:n<10 ^ 40:=Int.ofNat_lt.mp h;exact slog (Nat.lt_of_lt_of_le hn (by decide))
theorem th40:(1000:Int)<((10 ^ 40:Nat):Int):=by decide
theorem fitS{a b:Str}(h:a.length+b.length<=1000):a.length+b.length<=sizeLine:=by rw[sizeLine_eq]; omega
theorem raw_tx(i j t b:Int):txt i++bl1++txt j++bl1++(txt t++slC++txt b)=rawTx (i,j,t,b):=by
 apply PyProof.Rows.ext_toList;show _=(txt i++bl1++(txt j++bl1++(txt t++slC++txt b))).cps.toList;simp only[zb7,List.append_assoc]
theorem zsb{z:Int}(h0:0<=z)(h:z<1000):(txt z).length<=3:=(zhm (k:=3) (by decide) h0 h).2.2.1
theorem len_b{z:Int}(h0:0<=z)(h:z<((10 ^ 40:Nat):Int)):(txt z).length<=40:=(zhm (k:=40) (by decide) h0 h).2.2.1
abbrev rStr:List V->Hp->VK->Prop:=fun xs H Q=>∃i:Int,xs=[.int i]/\i.natAbs.log2<1920/\Q (.str (toString i)) H
theorem zpp{t:List Int}(h:GdT t):((t.map txt).map (·.length)).sum+(t.map txt).length*bl1.length<=16777216:=by
 have:=zj7 (ts:=t.map txt) (b:=3) fun u hu=>by
  obtain⟨x,hx,rfl⟩:=List.mem_map.mp hu;exact zsb (h.x x hx).1 (h.x x hx).2
 have e:bl1.length=1:=rfl;have l:=h.l;rw[List.length_map] at this ⊢;rw[e];omega
theorem zn0{H1:Hp}{a acc:Addr}{t:List Int}{G:Hp->Prop}{K:PySem.W.Frag}(ha:H1 a=some (.tup (t.map V.int)))(h:GdT t)(hacc:H1 acc=none)(fin:∀H2,Same H1 H2->H2 acc=some (.lst ((t.map txt).map V.str))->G H2):
  ∃W:Nat->Nat->List V->St->Hp->Prop,(∃m,W 0 m [] [none] (upd H1 acc (.lst [])))/\∀i m ys σc H2,W i m ys σc H2 →
   ((Itt K a).stop i H2/\G H2)\/((Itt K a).go i H2/\∀x H3,(Itt K a).yld i H2 x H3->gName 0 x σc H3 fun σ4 H4=>tCB rStr (tCons (tVar 0) tNil) σ4 H4 fun v H6=>H6 acc=some (.lst ys)/\ys.length<sizeLine/\∃m',m' < m/\W (i+1) m' (ys++[v]) σ4 (upd H6 acc (.lst (ys++[v])))):=by
 have hl:=h.l;refine zc1 (zgb ha) (by rw[List.length_map]; omega) hacc (fun i ys σ hp=>ys=((t.map txt).take i).map V.str/\∃u,σ=[u]) ⟨rfl,none,rfl⟩ ?_ ?_
 ·rintro i ys σ H3 x H4 hi sm hacc2 ⟨rfl,u,rfl⟩ ⟨rfl,hx⟩ Cc hC;obtain⟨e,rfl,he⟩:=zfe hx;obtain⟨h0,h1⟩:=h.x e (List.mem_of_getElem? he)
  have:=th40
  refine⟨_,rfl,_,rfl,slogI h0 (by omega),hC _ _ _ (Same.refl _) ⟨?_,_,rfl⟩⟩;rw[zau (show(t.map txt)[i]?=some (txt e) by rw[List.getElem?_map,he]; rfl),List.map_append];rfl
 ·rintro ys σ H4 s4 ha4 hl4 ⟨rfl,u,rfl⟩;rw[List.length_map,List.take_of_length_le (by rw[List.length_map]; exact Nat.le_refl _)] at ha4;exact fin H4 s4 ha4
theorem znu{xs:List V}:cutV xs (some 1) none=xs.drop 1:=by
 have:=ze0 (xs:=xs) (b:=1)
 exact this
theorem zha{K:PySem.W.Frag}{a:Addr}{xs:List V}{lo hi:Option Int}{H:Hp}{Q:VK}(ha:H a=some (.tup xs))(q:∀p H',Same H H'->H' p=some (.tup (cutV xs lo hi))->Q (.ref p) H'):rSlTA K (.ref a) lo hi H Q :=
 ⟨a,xs,rfl,SqT.of ha,fun z=>q a H (Same.refl _) (by rw[ha]; unfold cutV; rw[z.1,z.2]; simp),fun _ p hp=>q p _ (za5 hp _) za1⟩
theorem zfy{c:TT}{t u rest:TS}{D:Ends}{σ:L2.St}{H:Hp}(C:L2.St->Hp->Prop)(hr:∀σ' H',C σ' H'->rest D σ' H')(hi:∀nx:L2.St->Hp->Prop,(∀σ' H',C σ' H'->nx σ' H')->tIfS c t u { D with nx:=nx } σ H):tSeq (tIfS c t u) rest D σ H:=hi (rest D) hr
theorem zgg{xs:List Int}{z:Int}{P:Int->Prop}(ha:∀x∈xs,P x)(h:0<=z)(h2:z<(xs.length:Int)):∃x,atI (xs.map V.int) z=some (.int x)/\P x:=by
 obtain⟨i,rfl⟩:=Int.eq_ofNat_of_zero_le h;have il:i<xs.length:=by omega
 refine⟨xs[i],zaf ?_,ha _ (List.getElem_mem il)⟩;rw[List.getElem?_map,List.getElem?_eq_getElem il];rfl
section
variable {P:Program} {w:World} {K:PySem.W.Frag} {mg:Str->Option Value} {base:Heap} {f g h f1 f2 f3 f4 f5 fI:Addr} {fd gd hd d1 d2 d3 d4 d5 dI:FuncData}
structure GdN(n:Int)(rs:List Raw)(ts:List (List Int)):Prop where
 n:0<=n/\n<1000
 r:∀r∈rs,GdR r
 t:∀t∈ts,GdT t
 rn:rs≠[]
 tn:ts≠[]
 rl:rs.length<=14
 tl:ts.length<=15
inductive SpWellR(vs:List V)(H:Hp)(Q:VK):Prop
 | mk (a ra ta:Addr) (n z:Int) (rs:List Raw) (ts:List (List Int)) (h_0:vs=[.ref a,.int z]) (h_1:H a=some (.tup [.int n,.ref ra,.ref ta])) (h_2:TupR RawR H ra rs) (h_3:TupR IntsT H ta ts) (h_4:GdN n rs ts) (h_5:1<=n) (h_6:n<999)
  (h_7:∀p pn ra' ta' L n' rs' ts' H',Same H H'->H' p=some (.tup [.ref pn,.ref L])->H' pn=some (.tup [.int n',.ref ra',.ref ta'])->TupR RawR H' ra' rs'->TupR IntsT H' ta' ts'->RowsR H' L [[txt n'],rs'.map rawTx,ts'.map turnTx]->GdN n' rs' ts'->Q (.ref p) H'):SpWellR vs H Q
def spWell:Sp:=fun vs H Q _=>SpWellR vs H Q
theorem scWell:FnScope ["_law_net","_law_cell","_law_places","_law_ropes","_law_turns","_law_at","_law_rope","_law_turn","_law_changed","_law_rows","_law_one","_law_other","_law_ease_here","_law_word","_law_lines"] ["_law_net","_law_cell"] (defScope zc3):=⟨rfl,rfl,rfl,by decide +kernel,rfl,by decide +kernel,by decide +kernel⟩
theorem ndOCT:(["_law_other","_law_changed","_law_turn"]:List Str).Nodup:=by decide +kernel
theorem ndLTu:(["_law_turn"]:List Str).Nodup:=by decide +kernel
theorem ndLEn:(["_law_end"]:List Str).Nodup:=by decide +kernel
set_option maxHeartbeats 4000000 in
seal L2.PSs L2.PS L2.PE L2.PA in
theorem zrs(F:Fun K "_law_well" "_law_well" zc3 f fd)(ml:mg "len" = none)(mt:mg "tuple" = none)(ms:mg "str" = none):FnOk P w K mg base CX0 1 f fd ["_law_net","_law_cell"] spWell:=by
 refine F.ok scWell (fun vs H Q E h=>?_) (fun cdv A outer s H vs Q E hr h=>?_)
 ·obtain⟨a,ra,ta,n,z,rs,ts,rfl,_⟩:=h;rfl
 obtain⟨a,ra,ta,n,z,rs,ts,rfl,ha,hR,hT,gd,n1,n9,q⟩:=h;refine⟨_,za2 (zfr (pv 0) (pgTup (n:=3) (K:=K) rfl (zaw (zae (i:=2) scWell.nd rfl (Or.inl rfl)) (zaw (zae (i:=3) scWell.nd rfl (Or.inl rfl)) (zaw (zae (i:=4) scWell.nd rfl (Or.inl rfl)) zdj)))))
  (za2 (za8 (i:=5) scWell.nd rfl (Or.inl rfl) (za7 zaj (za7 zat (pv 1) za3) (zab (callLen (K:=K)) (by rfl) ml zav (za0 (pv 3) za4))))
  (za2 (zas (zac zd7 (za7 zaj (pv 1) za3) za3 (nomark _)) (za6 (za8 (i:=3) scWell.nd rfl (Or.inl rfl) (za7 zf2 (za7 zf2 (zbz (slTA (K:=K)) (pv 3) zci (zch (pv 5))) (zb3 (za0 (zb3 (za0 (zai (ixT (K:=K)) (zai (ixT (K:=K)) (pv 3) (pv 5) (fun _ _=>rfl)) za3 (fun _ _=>rfl)) (za0 (zai (ixT (K:=K)) (zai (ixT (K:=K)) (pv 3) (pv 5) (fun _ _=>rfl)) za3 (fun _ _=>rfl)) (za0 (zb3 (za0 za3 (za0 za3 za4))) za4)))) za4))) (zbz (slTA (K:=K)) (pv 3) (zch (za7 zb1 (pv 5) za3)) zci)))) zad)
  (za2 (zas (zac zd7 (za7 zaj (pv 1) za3) za3 (nomark _)) (za6 (za8 (i:=2) scWell.nd rfl (Or.inl rfl) (zai (ixL (K:=K)) (zar (za0 za3 (za0 za3 (za0 za3 (za0 za3 (za0 za3 (za0 za3 (za0 za3 (za0 (za7 zb1 (pv 2) za3) (za0 (za7 zd8 (pv 2) za3) za4)))))))))) (za7 zaj (za7 zat (pv 1) za3) za3) (fun _ _=>rfl)))) zad)
  (za2 (zas (zac zd7 (za7 zaj (pv 1) za3) za3 (nomark _)) (za2 (za8 (i:=6) scWell.nd rfl (Or.inl rfl) (zb3 (za0 (zai (ixT (K:=K)) (zai (ixT (K:=K)) (pv 3) (pv 5) (fun _ _=>rfl)) za3 (fun _ _=>rfl)) (za0 (zai (ixL (K:=K)) (zar (za0 (pv 2) (za0 za3 (za0 za3 (za0 za3 za4))))) (za7 zaj (za7 zat (pv 1) za3) za3) (fun _ _=>rfl)) (za0 (zai (ixT (K:=K)) (zai (ixT (K:=K)) (pv 3) (pv 5) (fun _ _=>rfl)) za3 (fun _ _=>rfl)) za4)))))
   (za6 (za8 (i:=3) scWell.nd rfl (Or.inl rfl) (za7 zf2 (za7 zf2 (zbz (slTA (K:=K)) (pv 3) zci (zch (pv 5))) (zb3 (za0 (pv 6) za4))) (zbz (slTA (K:=K)) (pv 3) (zch (za7 zb1 (pv 5) za3)) zci))))) zad)
  (za2 (zas (zac zim (za7 zaj (pv 1) za3) za3 (nomark _)) (za2 (za8 (i:=7) scWell.nd rfl (Or.inr rfl) (zai (ixT (K:=K)) (pv 4) (za7 zaj (za7 zat (pv 1) za3) (zab (callLen (K:=K)) (by rfl) ml zav (za0 (pv 4) za4))) (fun _ _=>rfl)))
   (za2 (za8 (i:=8) scWell.nd rfl (Or.inr rfl) (za7 zf2 (zb3 (za0 (za7 zaj (za7 zat (pv 1) za3) (zai (ixL (K:=K)) (zar (za0 za3 (za0 za3 za4))) (za7 zaj (pv 1) za3) (fun _ _=>rfl))) za4)) (zbz (slTA (K:=K)) (pv 7) (zch za3) zci)))
   (za6 (za8 (i:=4) scWell.nd rfl (Or.inl rfl) (zak (callTup (K:=K)) (by rfl) mt zc0 (za0 (zgj (Nc:=["_law_other","_law_changed","_law_turn"]) (cap:=[(1,8),(2,7)]) (g:=gName 0) (te:=tIf (tTest (tOp rEqG (tVar 0) (tVar 2))) (tVar 1) (tVar 0)) rfl (piTup (K:=K) (pv 4))
    (zd0 rfl rfl (by decide +kernel) (by decide +kernel) (List.forall_mem_cons.mpr ⟨⟨rfl,rfl⟩,List.forall_mem_cons.mpr ⟨⟨rfl,rfl⟩,List.forall_mem_nil _⟩⟩) rfl (List.forall_mem_cons.mpr ⟨⟨_,_,rfl,rfl,rfl,rfl,rfl⟩,List.forall_mem_cons.mpr ⟨⟨_,_,rfl,rfl,rfl,rfl,rfl⟩,List.forall_mem_nil _⟩⟩)) (fun C fp pins s' H'=>zae (i:=0) ndOCT rfl (Or.inl rfl))
    (fun C fp pins s' H'=>zem (zac (op_eqG hr.units) (pv 0) (pv 2) (nomark _)) (pv 1) (pv 0))) za4)))))) zad)
  (za2 (za8 (i:=9) scWell.nd rfl (Or.inl rfl) (zar za4))
  (za2 (zbs PassesOwn.never rfl (piTup (K:=K) (pv 3)) (pgTup (n:=3) (K:=K) rfl (zaw (zae (i:=10) scWell.nd rfl (Or.inl rfl)) (zaw (zae (i:=11) scWell.nd rfl (Or.inl rfl)) (zaw (zae (i:=12) scWell.nd rfl (Or.inl rfl)) zdj))))
   (za2 (za8 (i:=13) scWell.nd rfl (Or.inl rfl) (za7 zbo (za7 zbo (zak zbp (by rfl) ms zg3 (za0 (zai (ixT (K:=K)) (pv 12) za3 (fun _ _=>rfl)) za4)) zaa) (zak zbp (by rfl) ms zg3 (za0 (zai (ixT (K:=K)) (pv 12) za3 (fun _ _=>rfl)) za4))))
   (za6 (zam (zap K PySem.F.plainAttrs_list PySem.F.slot_list_append PySem.F.type_list_append zal (pv 9) (za0 (za7 zbo (za7 zbo (za7 zbo (za7 zbo (zak zbp (by rfl) ms zg3 (za0 (pv 10) za4)) zaa) (zak zbp (by rfl) ms zg3 (za0 (pv 11) za4))) zaa) (pv 13)) za4))))))
  (za2 (zfq (i:=14) scWell.nd rfl (Or.inl rfl) (Nc:=["_law_turn"]) (cap:=[]) (g:=gName 0)
   (te:=tBM K "str" rJoin (tC (.str bl1)) (tCons (tComp 1 [] (iTup K (tVar 0)) (gName 0) (tCB rStr (tCons (tVar 0) tNil))) tNil)) rfl (piTup (K:=K) (pv 4))
   (zd0 rfl rfl (by decide +kernel) (by decide +kernel) (List.forall_mem_nil _) rfl (List.forall_mem_nil _)) (fun C fp pins s' H'=>zae (i:=0) ndLTu rfl (Or.inl rfl))
   (fun C fp pins s' H'=>zap K PySem.F.plainAttrs_str PySem.F.slot_str_join PySem.F.type_str_join zgq zaa (za0 (zgj (Nc:=["_law_end"]) (cap:=[]) (g:=gName 0) (te:=tCB rStr (tCons (tVar 0) tNil)) rfl (piTup (K:=K) (pv 0))
    (zd0 rfl rfl (by decide +kernel) (by decide +kernel) (List.forall_mem_nil _) rfl (List.forall_mem_nil _)) (fun C fp pins s' H'=>zae (i:=0) ndLEn rfl (Or.inl rfl)) (fun C fp pins s' H'=>zak zbp (by rfl) ms zg3 (za0 (pv 0) za4))) za4)))
  (za6 (zag (zb3 (za0 (zb3 (za0 (pv 2) (za0 (pv 3) (za0 (pv 4) za4)))) (za0 (zar (za0 (zar (za0 (zak zbp (by rfl) ms zg3 (za0 (pv 2) za4)) za4)) (za0 (pv 9) (za0 (pv 14) za4)))) za4))))))))))))),?_⟩
 obtain⟨bs,hra,hB⟩:=id hR;have lB:(bs.map V.ref).length=rs.length:=by rw[List.length_map,hB.1]
 have lbs:bs.length=rs.length:=hB.1;have rp:0<rs.length:=List.length_pos_iff.mpr gd.rn;have rl:=gd.rl;have tl:=gd.tl;have tp:0<ts.length:=List.length_pos_iff.mpr gd.tn;obtain⟨aa,haa,al⟩:=zf6 (z / 6) (show(0:Int)<rs.length by omega);have t40:=th40;refine⟨_,rfl,a,_,rfl,SqT.of ha,rfl,_,_,rfl,_,_,rfl,_,_,rfl,rfl,?_⟩;refine⟨_,rfl,_,_,rfl,rfl,⟨by decide,by decide⟩,_,rfl,ra,_,rfl,.inr (SqT.of hra),_,_,rfl,rfl,by rw[lB]; omega,?_⟩;rw[lB,haa];dsimp only;refine zaq ?_;refine zfy (fun σ H'=>∃(rb:Addr) (rs1:List Raw),σ=[some (.ref a),some (.int z),some (.int n),some (.ref rb),some (.ref ta),some (.int (aa:Int)),none,none,none,none,none,none,none,none,none]/\Same H H'/\TupR RawR H' rb rs1/\(∀r∈rs1,GdR r)/\rs1.length=rs.length) ?_ fun nx hn=>?_
 rotate_left
 ·refine⟨_,rfl,_,_,rfl,rfl,(show(0:Int)<6 by decide),rfl,_,rfl,?_⟩;by_cases c1:z % 6=1;rotate_left
  ·exact iteDF (ivn c1) (hn _ _ ⟨ra,rs,rfl,Same.refl _,hR,gd.r,rfl⟩)
  refine iteDT (iv c1) ?_;have htt:rs[aa]?=some rs[aa]:=List.getElem?_eq_getElem (by omega);have grr:=gd.r _ (List.getElem_mem (show aa<rs.length by omega));generalize rs[aa]=r at htt grr;obtain⟨c,hc,e,hce,hee⟩:=hB.get htt;refine⟨_,rfl,_,rfl,_,rfl,zha hra fun p1 H1 s1 e1=>?_⟩;rw[zfh (by rw[lB]; omega),<-List.map_take] at e1;have hra1:=s1 _ _ hra;have hce1:=s1 _ _ hce;refine⟨_,rfl,_,rfl,ra,_,_,_,rfl,rfl,SqT.of hra1,zaf (zd4 hc),c,_,_,_,rfl,rfl,SqT.of hce1,t3_0 _ _ _,?_⟩;refine⟨_,rfl,_,rfl,ra,_,_,_,rfl,rfl,SqT.of hra1,zaf (zd4 hc),c,_,_,_,rfl,rfl,SqT.of hce1,t3_1 _ _ _,?_⟩;refine⟨by show 2<=sizeLine; decide,fun p2 hp2=>?_⟩;have s2:=za5 hp2 (.tup [.int 0,.int 1]);have e2:(upd H1 p2 (.tup [.int 0,.int 1])) p2=some (.tup [.int 0,.int 1]):=za1;generalize upd H1 p2 (.tup [.int 0,.int 1])=H2 at s2 e2;refine⟨by show 3<=sizeLine; decide,fun p3 hp3=>?_⟩;have s3:=za5 hp3 (.tup [.int r.1,.int r.2.1,.ref p2]);have e3:RawR (upd H2 p3 (.tup [.int r.1,.int r.2.1,.ref p2])) p3 (r.1,r.2.1,0,1):=⟨p2,za1,s3 _ _ e2⟩;generalize upd H2 p3 (.tup [.int r.1,.int r.2.1,.ref p2])=H3 at s3 e3;refine⟨by show 1<=sizeLine; decide,fun p4 hp4=>?_⟩;have s4:=za5 hp4 (.tup [.ref p3]);have e4:(upd H3 p4 (.tup [.ref p3])) p4=some (.tup (([p3]:List Addr).map V.ref)):=za1;generalize upd H3 p4 (.tup [.ref p3])=H4 at s4 e4;refine⟨p1,p4,_,_,rfl,rfl,s4 _ _ (s3 _ _ (s2 _ _ e1)),e4,?_,fun p5 H5 s5 e5=>?_⟩
  ·rw[List.length_map,List.length_take,sizeLine_eq];show _+1<=_;omega
  rw[<-List.map_append] at e5;have s35:=s4.trans s5;have s05:=s1.trans (s2.trans (s3.trans s35));refine⟨_,rfl,_,rfl,_,_,rfl,rfl,_,rfl,?_⟩;dsimp only[tNoPart];refine zha (s05 _ _ hra) fun p6 H6 s6 e6=>?_
  rw[show((aa:Nat):Int)+1=((aa+1:Nat):Int) by omega,ze0,<-List.map_drop] at e6;refine⟨p5,p6,_,_,rfl,rfl,s6 _ _ e5,e6,?_,fun p7 H7 s7 e7=>?_⟩
  ·rw[List.length_map,List.length_map,List.length_append,List.length_take,List.length_drop,sizeLine_eq];show _+1+_<=_;omega
  rw[<-List.map_append] at e7;have s07:=s05.trans (s6.trans s7);have hB7:=hB.keep zd9 s07;have x7:=zd9 (s35.trans (s6.trans s7)) e3;refine hn _ _ ⟨p7,rs.take aa++[(r.1,r.2.1,0,1)]++rs.drop (aa+1),rfl,s07,⟨_,e7,((hB7.take aa).snoc x7).app (hB7.drop (aa+1))⟩,fun x hx=>?_,?_⟩
  ·rcases List.mem_append.mp hx with hx | hx
   ·rcases List.mem_append.mp hx with hx | hx
    ·exact gd.r x (List.mem_of_mem_take hx)
    ·rw[List.mem_singleton.mp hx];exact⟨grr.i,grr.j,⟨show(0:Int)<=0 by decide,show(0:Int)<((10 ^ 40:Nat):Int) by decide⟩,⟨show(0:Int)<1 by decide,show(1:Int)<((10 ^ 40:Nat):Int) by decide⟩,show Mth.frac 0 1=(0,1) by decide +kernel⟩
   ·exact gd.r x (List.mem_of_mem_drop hx)
  ·rw[List.length_append,List.length_append,List.length_take,List.length_drop];show _+1+_=_;omega
 clear lbs hB lB hra bs;rintro σ H1 ⟨rb,rs1,rfl,sH1,hR1,g1,l1⟩;refine zfy (fun σ H'=>∃(n1:Int),σ=[some (.ref a),some (.int z),some (.int n1),some (.ref rb),some (.ref ta),some (.int (aa:Int)),none,none,none,none,none,none,none,none,none]/\Same H1 H'/\0<=n1/\n1<1000) ?_ fun nx hn=>?_
 rotate_left
 ·refine⟨_,rfl,_,_,rfl,rfl,(show(0:Int)<6 by decide),rfl,_,rfl,?_⟩;by_cases c1:z % 6=2;rotate_left
  ·exact iteDF (ivn c1) (hn _ _ ⟨n,rfl,Same.refl _,gd.n.1,gd.n.2⟩)
  refine iteDT (iv c1) ?_;refine⟨_,rfl,_,_,rfl,rfl,_,rfl,_,_,rfl,rfl,by show 9<=sizeLine; decide,fun L hL=>?_⟩;have sL:=za5 hL (.lst (([0,1,15,16,99,100,999,n+1,n-1]:List Int).map V.int));have eL:(upd H1 L (.lst (([0,1,15,16,99,100,999,n+1,n-1]:List Int).map V.int))) L=some (.lst (([0,1,15,16,99,100,999,n+1,n-1]:List Int).map V.int)):=za1;obtain⟨x,hx,x0,x1⟩:=zgg (xs:=[0,1,15,16,99,100,999,n+1,n-1]) (z:=z / 84 % 9) (P:=fun x=>0<=x/\x<1000) (fun x hx=>by
   simp only[List.mem_cons,List.not_mem_nil,or_false] at hx;omega) (by omega) (by show _<((9:Nat):Int); omega)
  exact⟨_,rfl,_,_,rfl,rfl,⟨by decide,by decide⟩,_,_,rfl,rfl,(show(0:Int)<9 by decide),L,_,_,_,rfl,rfl,SqL.of eL,hx,hn _ _ ⟨x,rfl,sL,x0,x1⟩⟩
 rintro σ H2 ⟨n2,rfl,sH2,n20,n21⟩;replace hR1:=zf7 sH2 hR1;replace sH1:=sH1.trans sH2;obtain⟨bs,hrb,hB⟩:=id hR1;have lB:(bs.map V.ref).length=rs1.length:=by rw[List.length_map,hB.1]
 have lbs:bs.length=rs1.length:=hB.1;refine zfy (fun σ H'=>∃(rc:Addr) (rs2:List Raw) (u:Option V),σ=[some (.ref a),some (.int z),some (.int n2),some (.ref rc),some (.ref ta),some (.int (aa:Int)),u,none,none,none,none,none,none,none,none]/\Same H2 H'/\TupR RawR H' rc rs2/\(∀r∈rs2,GdR r)/\rs2.length=rs.length) ?_ fun nx hn=>?_
 rotate_left
 ·refine⟨_,rfl,_,_,rfl,rfl,(show(0:Int)<6 by decide),rfl,_,rfl,?_⟩;by_cases c1:z % 6=3;rotate_left
  ·exact iteDF (ivn c1) (hn _ _ ⟨rb,rs1,none,rfl,Same.refl _,hR1,g1,l1⟩)
  refine iteDT (iv c1) ?_;have htt:rs1[aa]?=some rs1[aa]:=List.getElem?_eq_getElem (by omega);have grr:=g1 _ (List.getElem_mem (show aa<rs1.length by omega));generalize rs1[aa]=r at htt grr;obtain⟨c,hc,e,hce,hee⟩:=hB.get htt;refine⟨_,rfl,_,rfl,rb,_,_,_,rfl,rfl,SqT.of hrb,zaf (zd4 hc),c,_,_,_,rfl,rfl,SqT.of hce,t3_0 _ _ _,?_⟩;refine⟨_,rfl,by show 4<=sizeLine; decide,fun L hL=>?_⟩;have sL:=za5 hL (.lst (([n2,99,100,999]:List Int).map V.int));have eL:(upd H2 L (.lst (([n2,99,100,999]:List Int).map V.int))) L=some (.lst (([n2,99,100,999]:List Int).map V.int)):=za1;obtain⟨x,hx,x0,x1⟩:=zgg (xs:=[n2,99,100,999]) (z:=z / 84 % 4) (P:=fun x=>0<=x/\x<1000) (fun x hx=>by
   simp only[List.mem_cons,List.not_mem_nil,or_false] at hx;omega) (by omega) (by show _<((4:Nat):Int); omega)
  refine⟨_,rfl,_,_,rfl,rfl,⟨by decide,by decide⟩,_,_,rfl,rfl,(show(0:Int)<4 by decide),L,_,_,_,rfl,rfl,SqL.of eL,hx,?_⟩;change tCons _ _ _ (upd H2 L (.lst (([n2,99,100,999]:List Int).map V.int))) _;generalize upd H2 L (.lst (([n2,99,100,999]:List Int).map V.int))=H3 at sL eL;refine⟨_,rfl,_,rfl,rb,_,_,_,rfl,rfl,SqT.of (sL _ _ hrb),zaf (zd4 hc),c,_,_,_,rfl,rfl,SqT.of (sL _ _ hce),t3_2 _ _ _,?_⟩;refine⟨by show 3<=sizeLine; decide,fun p3 hp3=>?_⟩;have s3:=za5 hp3 (.tup [.int r.1,.int x,.ref e]);have e3:RawR (upd H3 p3 (.tup [.int r.1,.int x,.ref e])) p3 (r.1,x,r.2.2):=⟨e,za1,s3 _ _ (sL _ _ hee)⟩;generalize upd H3 p3 (.tup [.int r.1,.int x,.ref e])=H4 at s3 e3;have s24:=sL.trans s3;dsimp only;refine zaq ?_;refine⟨_,rfl,_,rfl,_,rfl,zha (s24 _ _ hrb) fun p1 H5 s5 e5=>?_⟩;rw[zfh (by rw[lB]; omega),<-List.map_take] at e5;refine⟨_,rfl,by show 1<=sizeLine; decide,fun p4 hp4=>?_⟩;have s6:=za5 hp4 (.tup [.ref p3]);have e6:(upd H5 p4 (.tup [.ref p3])) p4=some (.tup (([p3]:List Addr).map V.ref)):=za1;generalize upd H5 p4 (.tup [.ref p3])=H6 at s6 e6;refine⟨p1,p4,_,_,rfl,rfl,s6 _ _ e5,e6,?_,fun p5 H7 s7 e7=>?_⟩
  ·rw[List.length_map,List.length_take,sizeLine_eq];show _+1<=_;omega
  rw[<-List.map_append] at e7;have s47:=s5.trans (s6.trans s7);have s27:=s24.trans s47;refine⟨_,rfl,_,rfl,_,_,rfl,rfl,_,rfl,?_⟩;dsimp only[tNoPart];refine zha (s27 _ _ hrb) fun p6 H8 s8 e8=>?_
  rw[show((aa:Nat):Int)+1=((aa+1:Nat):Int) by omega,ze0,<-List.map_drop] at e8;refine⟨p5,p6,_,_,rfl,rfl,s8 _ _ e7,e8,?_,fun p7 H9 s9 e9=>?_⟩
  ·rw[List.length_map,List.length_map,List.length_append,List.length_take,List.length_drop,sizeLine_eq];show _+1+_<=_;omega
  rw[<-List.map_append] at e9;have s29:=s27.trans (s8.trans s9);have hB9:=hB.keep zd9 s29;have x9:=zd9 (s47.trans (s8.trans s9)) e3;refine hn _ _ ⟨p7,rs1.take aa++[(r.1,x,r.2.2)]++rs1.drop (aa+1),_,rfl,s29,⟨_,e9,((hB9.take aa).snoc x9).app (hB9.drop (aa+1))⟩,fun y hy=>?_,?_⟩
  ·rcases List.mem_append.mp hy with hy | hy
   ·rcases List.mem_append.mp hy with hy | hy
    ·exact g1 y (List.mem_of_mem_take hy)
    ·rw[List.mem_singleton.mp hy];exact⟨grr.i,⟨x0,x1⟩,grr.t,grr.b,grr.f⟩
   ·exact g1 y (List.mem_of_mem_drop hy)
  ·rw[List.length_append,List.length_append,List.length_take,List.length_drop];show _+1+_=_;omega
 clear lbs hB lB hrb bs hR1 g1 l1;rintro σ H3 ⟨rc,rs2,u6,rfl,sH3,hR2,g2,l2⟩;replace sH1:=sH1.trans sH3;have hT3:=zdu sH1 hT;refine zfy (fun σ H'=>∃(tb:Addr) (ts1:List (List Int)) (u7 u8:Option V),σ=[some (.ref a),some (.int z),some (.int n2),some (.ref rc),some (.ref tb),some (.int (aa:Int)),u6,u7,u8,none,none,none,none,none,none]/\Same H3 H'/\TupR IntsT H' tb ts1/\(∀t∈ts1,GdT t)/\ts1.length=ts.length) ?_ fun nx hn=>?_
 rotate_left
 ·refine⟨_,rfl,_,_,rfl,rfl,(show(0:Int)<6 by decide),_,_,rfl,rfl,_,rfl,?_⟩;by_cases c1:(3:Int)<z % 6;rotate_left
  ·exact iteDF c1 (hn _ _ ⟨ta,ts,none,none,rfl,Same.refl _,hT3,gd.t,rfl⟩)
  refine iteDT c1 ?_;obtain⟨cs,hta,hC⟩:=id hT3;have lC:(cs.map V.ref).length=ts.length:=by rw[List.length_map,hC.1]
  obtain⟨bb,hbb,bl⟩:=zf6 (z / 84) (show(0:Int)<ts.length by omega);have htt:ts[bb]?=some ts[bb]:=List.getElem?_eq_getElem (by omega);have gtt:=gd.t _ (List.getElem_mem (show bb<ts.length by omega));generalize ts[bb]=t at htt gtt;obtain⟨c,hc,hct'⟩:=hC.get htt;have hct:H3 c=some (.tup (t.map V.int)):=hct';refine⟨_,rfl,_,rfl,_,_,rfl,rfl,⟨by decide,by decide⟩,_,rfl,ta,_,rfl,.inr (SqT.of hta),_,_,rfl,rfl,by rw[lC]; omega,?_⟩;rw[lC,hbb];refine⟨ta,_,_,_,rfl,rfl,SqT.of hta,zaf (zd4 hc),?_⟩;dsimp only;refine zaq ?_;refine⟨_,rfl,_,_,rfl,rfl,⟨by decide,by decide⟩,by show 2<=sizeLine; decide,fun L hL=>?_⟩;have sL:=za5 hL (.lst (([40,1000]:List Int).map V.int));have eL:(upd H3 L (.lst (([40,1000]:List Int).map V.int))) L=some (.lst (([40,1000]:List Int).map V.int)):=za1;obtain⟨x,hx,x0,x1⟩:=zgg (xs:=[40,1000]) (z:=z % 2) (P:=fun x=>0<x/\x<=1000) (fun x hx=>by
   simp only[List.mem_cons,List.not_mem_nil,or_false] at hx;omega) (by omega) (by show _<((2:Nat):Int); omega)
  refine⟨_,rfl,_,_,rfl,rfl,(show(0:Int)<2 by decide),L,_,_,_,rfl,rfl,SqL.of eL,hx,_,_,rfl,rfl,x0,?_⟩;have y0:=Int.emod_nonneg (z / 1260) (show x≠0 by omega);have y1:=Int.emod_lt_of_pos (z / 1260) x0;generalize z / 1260 % x=y at y0 y1;change TupNR _ (upd H3 L (.lst (([40,1000]:List Int).map V.int))) _;generalize upd H3 L (.lst (([40,1000]:List Int).map V.int))=H4 at sL eL;refine⟨by show 1<=sizeLine; decide,fun p1 hp1=>?_⟩;have s5:=za5 hp1 (.tup [.int y]);have e5:(upd H4 p1 (.tup [.int y])) p1=some (.tup (([y]:List Int).map V.int)):=za1;generalize upd H4 p1 (.tup [.int y])=H5 at s5 e5;have s35:=sL.trans s5;refine⟨_,rfl,_,rfl,?_⟩;dsimp only[tNoPart];refine zha (s35 _ _ hct) fun p2 H6 s6 e6=>?_
  rw[znu,<-List.map_drop] at e6;have lt:=gtt.l;refine⟨p1,p2,_,_,rfl,rfl,s6 _ _ e5,e6,?_,fun p3 H7 s7 e7=>?_⟩
  ·rw[List.length_map,List.length_map,List.length_drop,sizeLine_eq];show 1+_<=_;omega
  rw[<-List.map_append] at e7;have s37:=s35.trans (s6.trans s7);have gch:GdT ([y]++t.drop 1):=by
   refine⟨by simp,fun w hw=>?_,?_⟩
   ·rcases List.mem_append.mp hw with hw | hw
    ·rw[List.mem_singleton.mp hw];omega
    ·exact gtt.x w (List.mem_of_mem_drop hw)
   ·have:0<t.length:=List.length_pos_iff.mpr gtt.n
    rw[List.length_append,List.length_drop];show 1+_<=_;omega
  have e7':IntsT H7 p3 ([y]++t.drop 1):=e7;generalize [y]++t.drop 1=tc at e7' gch;have hta7:=s37 _ _ hta;have hct7:IntsT H7 c t:=s37 _ _ hct
  (try dsimp only)
  refine zaq ?_;refine⟨_,rfl,ta,rfl,⟨_,SqT.of hta7⟩,fun acc hacc=>?_⟩;refine zc1 (zgb hta7) (by rw[lC]; omega) hacc (fun i ys σ hp=>∃(ds:List Addr) (us:List (List Int)),ys=ds.map V.ref/\At IntsT hp ds us/\us.length=i/\(∀u∈us,GdT u)/\∃u,σ=[u,some (.ref p3),some (.ref c)]) ⟨[],[],rfl,At.nil,rfl,(fun u hu=>by cases hu),none,rfl⟩ ?_ ?_
  ·rintro i ys σ H8 v H9 hi sm hacc2 ⟨ds,us,rfl,hD,lu,gu,u,rfl⟩ ⟨rfl,hx⟩ Cc hCc;obtain⟨c',t',rfl,_,hy,hc'⟩:=hC.ref hx;have hc9:IntsT H9 c' t':=(s37.trans sm) _ _ hc';have hc9t:IntsT H9 c t:=sm _ _ hct7;have h3:IntsT H9 p3 tc:=sm _ _ e7';have gt':=gd.t t' (List.mem_of_getElem? hy);have dp:∀t:List Int,(intsD t).canLay0=true/\(intsD t).depth<=64:=fun t=>⟨zjr t,by have:=zk4 t; omega⟩
   have fin:∀(b:Addr) (t:List Int),IntsT H9 b t->GdT t->Cc [some (.ref c'),some (.ref p3),some (.ref c)] (.ref b) H9:=fun b t hb gt=>by
    refine hCc _ _ _ (Same.refl _) ⟨ds++[b],us++[t],by simp,?_,by rw[List.length_append,lu]; rfl,fun u hu=>?_,_,rfl⟩
    ·exact hD.snoc (IntsT.del (t:=t) hb hacc2)
    ·rcases List.mem_append.mp hu with hu | hu
     ·exact gu u hu
     ·rw[List.mem_singleton.mp hu]; exact gt
   refine⟨_,rfl,_,rfl,intsD t',intsD t,zid hc9,zid hc9t,dp _,dp _,_,rfl,?_⟩;split
   ·exact⟨_,rfl,fin p3 tc h3 gch⟩
   ·exact⟨_,rfl,fin c' t' hc9 gt'⟩
  ·rintro ys σ H8 s8 ha8 hl8 ⟨ds,us,rfl,hD,lu,gu,u,rfl⟩;refine⟨acc,_,rfl,.inl ⟨SqL.of ha8,fun p4 hp4=>?_⟩⟩;have s9:=za5 hp4 (.tup (ds.map V.ref));refine hn _ _ ⟨p4,us,_,_,rfl,(s37.trans s8).trans s9,⟨ds,za1,(hD.keep zbr (zeb H8 acc)).keep zbr s9⟩,gu,by rw[lu,lC]⟩
 rintro σ H4 ⟨tb,ts1,u7,u8,rfl,sH4,hT4,g4,l4⟩;replace hR2:=zf7 sH4 hR2;replace sH1:=sH1.trans sH4;clear sH4 hT3 sH3 sH2 hR hT;obtain⟨bs,hrc,hB⟩:=id hR2;obtain⟨cs,htb,hC⟩:=id hT4;have lB:(bs.map V.ref).length=rs2.length:=by rw[List.length_map,hB.1]
 have lC:(cs.map V.ref).length=ts1.length:=by rw[List.length_map,hC.1]
 refine⟨by show 0<=sizeLine; decide,fun Lr hLr=>?_⟩;have s5:=za5 hLr (.lst []);have e5:(upd H4 Lr (.lst [])) Lr=some (.lst []):=za1;generalize upd H4 Lr (.lst [])=H5 at s5 e5;dsimp only;refine zaq ?_;refine zb8 fun U hU=>?_
 refine⟨_,rfl,rc,rfl,⟨_,SqT.of (s5 _ _ hrc)⟩,?_⟩;refine ze9 (xs:=bs.map V.ref) (fun i σ H'=>(∃v0 v1 v2 v3,σ=[some (.ref a),some (.int z),some (.int n2),some (.ref rc),some (.ref tb),some (.int (aa:Int)),u6,u7,u8,some (.ref Lr),v0,v1,v2,v3,none])/\Same H4 H'/\H' Lr=some (.lst (((rs2.map rawTx).take i).map V.str)))
  ⟨⟨none,none,none,none,rfl⟩,s5,e5⟩ (fun i σ H' _ ⟨_,s',_⟩=>SqT.of (s' _ _ hrc)) ?_ ?_
 ·rintro i v σ H6 hx ⟨⟨v0,v1,v2,v3,rfl⟩,s6,e6⟩;obtain⟨c,r,rfl,_,hy,e,hce,hee⟩:=hB.ref hx;have gr:=g2 r (List.mem_of_getElem? hy);have il:i<rs2.length:=(List.getElem?_eq_some_iff.mp hy).1;have ee:=s6 _ _ hee;obtain⟨i0,j0,t0,b0,_⟩:=gr;have li:=zsb i0.1 i0.2;have lj:=zsb j0.1 j0.2;have lt:=len_b t0.1 t0.2;have lb:=len_b (Int.le_of_lt b0.1) b0.2;have e1:bl1.length=1:=rfl;have e2:slC.length=1:=rfl;refine⟨c,_,rfl,SqT.of (s6 _ _ hce),rfl,_,_,rfl,_,_,rfl,_,_,rfl,rfl,?_⟩;refine⟨_,rfl,e,_,_,_,rfl,rfl,SqT.of ee,zaf (j:=0) rfl,_,rfl,slogI t0.1 t0.2,_,_,rfl,rfl,fitS (by show(txt r.2.2.1).length+slC.length<=1000; omega),_,rfl,e,_,_,_,rfl,rfl,SqT.of ee,zaf (j:=1) rfl,_,rfl,slogI (Int.le_of_lt b0.1) b0.2,_,_,rfl,rfl,fitS (by show(txt r.2.2.1++slC).length+(txt r.2.2.2).length<=1000; rw[zc9]; omega),?_⟩;dsimp only;refine zaq ?_;refine⟨_,rfl,.inl ⟨rfl,_,SqL.of e6⟩,_,rfl,_,rfl,slogI i0.1 (by omega),_,_,rfl,rfl,fitS (by show(txt r.1).length+bl1.length<=1000; omega),_,rfl,_,rfl,slogI j0.1 (by omega),_,_,rfl,rfl,fitS (by show(txt r.1++bl1).length+(txt r.2.1).length<=1000; rw[zc9]; omega),_,_,rfl,rfl,fitS (by show(txt r.1++bl1++txt r.2.1).length+bl1.length<=1000; rw[zc9,zc9]; omega),_,rfl,_,_,rfl,rfl,fitS (by show(txt r.1++bl1++txt r.2.1++bl1).length+(txt r.2.2.1++slC++txt r.2.2.2).length<=1000; simp only[zc9]; omega),?_⟩;refine⟨Lr,_,_,rfl,rfl,e6,by rw[List.length_map,List.length_take,List.length_map]; exact szl (by omega),⟨_,_,_,_,rfl⟩,s6.up hLr _,?_⟩;rw[za1,zau (show(rs2.map rawTx)[i]?=some (rawTx r) by rw[List.getElem?_map,hy]; rfl),List.map_append];show some (HO.lst (_++[V.str (txt r.1++bl1++txt r.2.1++bl1++(txt r.2.2.1++slC++txt r.2.2.2))]))=_;rw[raw_tx];rfl
 rintro σ H6 ⟨⟨v0,v1,v2,v3,rfl⟩,s6,e6⟩;rw[lB,List.take_of_length_le (by rw[List.length_map]; exact Nat.le_refl _)] at e6;subst hU;have htb6:=s6 _ _ htb;refine⟨_,rfl,tb,rfl,⟨_,SqT.of htb6⟩,fun acc hacc=>?_⟩;refine zc1 (zgb htb6) (by rw[lC]; omega) hacc (fun i ys σ hp=>ys=((ts1.map turnTx).take i).map V.str/\∃u,σ=[u]) ⟨rfl,none,rfl⟩ ?_ ?_
 ·rintro i ys σ H7 v H8 hi sm hacc2 ⟨rfl,u,rfl⟩ ⟨rfl,hx⟩ Cc hCc;obtain⟨c,t,rfl,_,hy,hc⟩:=hC.ref hx;have gt:=g4 t (List.mem_of_getElem? hy);have hc':H8 c=some (.tup (t.map V.int)):=(s6.trans sm) _ _ hc;refine⟨rfl,_,rfl,c,rfl,⟨_,SqT.of hc'⟩,fun acc4 hacc4=>?_⟩;refine zn0 hc' gt hacc4 fun H9 s9 h9=>?_
  refine⟨_,acc4,_,rfl,rfl,h9,zpp gt,hCc _ _ _ s9 ⟨?_,_,rfl⟩⟩;rw[zau (show(ts1.map turnTx)[i]?=some (turnTx t) by rw[List.getElem?_map,hy]; rfl),List.map_append];rfl
 rintro ys σ H7 s7 ha7 hl7 ⟨rfl,u,rfl⟩;rw[lC,List.take_of_length_le (by rw[List.length_map]; exact Nat.le_refl _)] at ha7;dsimp only;refine zaq ?_;refine⟨_,rfl,_,rfl,_,rfl,by show 3<=sizeLine; decide,fun pn hpn=>?_⟩;have s8:=za5 hpn (.tup [.int n2,.ref rc,.ref tb]);have e8:(upd H7 pn (.tup [.int n2,.ref rc,.ref tb])) pn=some (.tup [.int n2,.ref rc,.ref tb]):=za1;generalize upd H7 pn (.tup [.int n2,.ref rc,.ref tb])=H8 at s8 e8;refine⟨_,rfl,_,rfl,slogI n20 (by omega),by show 1<=sizeLine; decide,fun l0 hl0=>?_⟩;have s9:=za5 hl0 (.lst [.str (txt n2)]);have e9:StrsL (upd H8 l0 (.lst [.str (txt n2)])) l0 [txt n2]:=za1;generalize upd H8 l0 (.lst [.str (txt n2)])=H9 at s9 e9;refine⟨_,rfl,_,rfl,by show 3<=sizeLine; decide,fun L hL=>?_⟩;have s10:=za5 hL (.lst [.ref l0,.ref Lr,.ref acc]);have e10:(upd H9 L (.lst [.ref l0,.ref Lr,.ref acc])) L=some (.lst (([l0,Lr,acc]:List Addr).map V.ref)):=za1;generalize upd H9 L (.lst [.ref l0,.ref Lr,.ref acc])=H10 at s10 e10;refine⟨by show 2<=sizeLine; decide,fun p hp=>?_⟩;have s11:=za5 hp (.tup [.ref pn,.ref L]);have e11:(upd H10 p (.tup [.ref pn,.ref L])) p=some (.tup [.ref pn,.ref L]):=za1;generalize upd H10 p (.tup [.ref pn,.ref L])=H11 at s11 e11;have s911:=s10.trans s11;have s711:=s8.trans (s9.trans s911);have s411:=s6.trans (s7.trans s711);have k1:StrsL H11 Lr (rs2.map rawTx):=(s7.trans s711) _ _ e6;have k2:StrsL H11 acc (ts1.map turnTx):=s711 _ _ ha7;refine q p pn rc tb L n2 rs2 ts1 H11 (sH1.trans s411) e11 ((s9.trans s911) _ _ e8) (zf7 s411 hR2) (zdu s411 hT4) ⟨[l0,Lr,acc],s11 _ _ e10,((At.nil.snoc (zgs s911 e9)).snoc k1).snoc k2⟩ ⟨⟨n20,n21⟩,g2,g4,?_,?_,by omega,by omega⟩
 ·exact List.length_pos_iff.mp (by omega)
 ·exact List.length_pos_iff.mp (by omega)
end
theorem zph{n:Nat}{rs:List Rope}{ts:List (List Int)}(N:NetW n rs ts):GdN (n:Int) (rs.map ofRp) ts:=by
 have m14:=N.m14;have m1:=N.m1;have n2:=N.n2;have n15:=N.n15;have nl:=N.len;refine⟨⟨by omega,by omega⟩,fun r hr=>?_,fun t ht=>⟨N.ne t ht,fun x hx=>?_,by have:=N.tlen ht; omega⟩,?_,?_,by rw[List.length_map]; exact m14,by omega⟩
 ·obtain⟨q,hq,rfl⟩:=List.mem_map.mp hr;obtain⟨⟨k1,k2,k3⟩,h1,h2⟩:=N.ease q hq;have e40:((10 ^ 40:Nat):Int)=10 ^ 40:=by decide
  have dp:=q.2.2.den_pos;refine⟨⟨by show(0:Int)<=(q.1:Int); omega,by show(q.1:Int)<1000; omega⟩,⟨by show(0:Int)<=(q.2.1:Int); omega,by show(q.2.1:Int)<1000; omega⟩,⟨by show 0<=q.2.2.num; omega,by rw[e40]; exact k2⟩,⟨by show(0:Int)<(q.2.2.den:Int); omega,by rw[e40]; exact k3⟩,?_⟩;show Mth.frac q.2.2.num (q.2.2.den:Int)=(q.2.2.num,(q.2.2.den:Int));refine zpj _ _ (by omega) ?_
  have:=q.2.2.reduced
  unfold Int.gcd;rw[Int.natAbs_natCast];exact this
 ·have:=(N.tn.mem x).mp (List.mem_flatten.mpr ⟨t,ht,hx⟩)
  obtain⟨h1,h2⟩:=this;push_cast at h2;omega
 ·exact List.length_pos_iff.mp (by rw[List.length_map]; omega)
 ·exact List.length_pos_iff.mp (by omega)
section
variable {n:Int} {rs:List Raw} {ts:List (List Int)} {w0:Str} {R1 R2:List Str} {ps:List Int}
structure StS(n:Int)(rs:List Raw)(ts:List (List Int))(ps:List Int)(w0:Str)(R1 R2:List Str):Prop where
 o:RowO w0 R1 R2
 l1:R1.length<=14+ps.length
 l2:R2.length<=15+ps.length
 p:∀p∈ps,p=0\/p=1\/p=2
 a0:(0:Int)∈ps->numOk w0 3=false
 a1:(0:Int)∉ps->w0=txt n
 b0:(1:Int)∈ps->∃w∈R1,ropeR w=none
 b1:(1:Int)∉ps->R1=rs.map rawTx
 c0:(2:Int)∈ps->∃w∈R2,turnR w=none
 c1:(2:Int)∉ps->R2=ts.map turnTx
theorem sts_0(g:GdN n rs ts):StS n rs ts [] (txt n) (rs.map rawTx) (ts.map turnTx):=by
 have rl:=g.rl;have tl:=g.tl;refine⟨⟨(zgn g.n.1 g.n.2).2.2,fun w hw=>?_,fun w hw=>?_,by simpa using g.rn,by simpa using g.tn,by rw[List.length_map]; omega,by rw[List.length_map]; omega⟩,by rw[List.length_map]; exact rl,by rw[List.length_map]; exact tl,(fun p hp=>by cases hp),(fun h=>by cases h),fun _=>rfl,(fun h=>by cases h),fun _=>rfl,(fun h=>by cases h),fun _=>rfl⟩
 ·obtain⟨r,hr,rfl⟩:=List.mem_map.mp hw;exact(zhd (g.r r hr)).2
 ·obtain⟨t,ht,rfl⟩:=List.mem_map.mp hw;exact(zh3 (g.t t ht)).2
theorem zlc{p:Nat}{R R':List Str}(h:Spo p R R')(hw:∀w∈R,wpB (p:Int) w=true):(∀w∈R',wpB (p:Int) w=true)/\R'≠[]/\R'.length<=R.length+1/\∃w∈R',badB (p:Int) w=true:=by
 obtain⟨w,a,b,bw,al,ab,h⟩:=h;rcases h with ⟨rfl,_⟩ | rfl
 ·refine⟨fun v hv=>?_,by simp,?_,w,by simp,bw⟩
  ·rcases List.mem_append.mp hv with hv | hv
   ·rcases List.mem_append.mp hv with hv | hv
    ·exact hw v (List.mem_of_mem_take hv)
    ·rw[List.mem_singleton.mp hv]; exact znk bw
   ·exact hw v (List.mem_of_mem_drop hv)
  ·rw[List.length_append,List.length_append,List.length_take,List.length_drop];show _+1+_<=_;omega
 ·refine⟨fun v hv=>?_,by simp,by show 1<=_; omega,w,by simp,bw⟩;rw[List.mem_singleton.mp hv];exact znk bw
theorem sts_at{p:Nat}{R:List Str}(S:StS n rs ts ps w0 R1 R2)(h:([[w0],R1,R2]:List (List Str))[p]?=some R):R≠[]/\R.length<=15+ps.length:=by
 have l1:=S.l1;have l2:=S.l2
 match p,h with
 | 0,h=>cases h; exact⟨by simp,by show 1<=_; omega⟩
 | 1,h=>cases h; exact⟨S.o.n1,by omega⟩
 | 2,h=>cases h; exact⟨S.o.n2,by omega⟩
 | p+3,h=>simp at h
theorem sts_s{p:Nat}{R R':List Str}(S:StS n rs ts ps w0 R1 R2)(hp:([[w0],R1,R2]:List (List Str))[p]?=some R)(h:Spo p R R')(pl:ps.length<=2):∃w0' R1' R2',([[w0],R1,R2]:List (List Str)).set p R'=[[w0'],R1',R2']/\StS n rs ts (ps++[(p:Int)]) w0' R1' R2':=by
 have l1:=S.l1;have l2:=S.l2;have pp:∀x∈ps++[(p:Int)],p<3->x=0\/x=1\/x=2:=fun x hx p3=>by
  rcases List.mem_append.mp hx with hx | hx
  ·exact S.p x hx
  ·rw[List.mem_singleton.mp hx]; omega
 have ll:(ps++[(p:Int)]).length=ps.length+1:=by rw[List.length_append]; rfl
 have inn:∀k:Int,k∈ps++[(p:Int)]->k≠(p:Int)->k∈ps:=fun k hk hn=>by
  rcases List.mem_append.mp hk with hk | hk
  ·exact hk
  ·exact absurd (List.mem_singleton.mp hk) hn
 have out:∀k:Int,k∉ps++[(p:Int)]->k∉ps:=fun k hk h=>hk (List.mem_append_left _ h)
 have self:(p:Int)∈ps++[(p:Int)]:=List.mem_append_right _ (List.mem_singleton.mpr rfl)
 match p,hp,h,pp,ll,inn,out,self with
 | 0,hp,h,pp,ll,inn,out,self =>
  cases hp;obtain⟨w,a,b,bw,_,_,h⟩:=h;rcases h with ⟨_,z⟩ | rfl
  ·exact absurd rfl z
  refine⟨w,R1,R2,rfl,⟨znk bw,S.o.b,S.o.c,S.o.n1,S.o.n2,S.o.l1,S.o.l2⟩,by omega,by omega,fun x hx=>pp x hx (by decide),fun _=>bad_0 bw,fun z=>absurd self z,fun z=>S.b0 (inn _ z (by decide)),fun z=>S.b1 (out _ z),fun z=>S.c0 (inn _ z (by decide)),fun z=>S.c1 (out _ z)⟩
 | 1,hp,h,pp,ll,inn,out,self =>
  cases hp;obtain⟨m1,m2,m3,w,hw,bw⟩:=zlc h S.o.b;refine⟨w0,R',R2,rfl,⟨S.o.a,m1,S.o.c,m2,S.o.n2,by omega,S.o.l2⟩,by omega,by omega,fun x hx=>pp x hx (by decide),fun z=>S.a0 (inn _ z (by decide)),fun z=>S.a1 (out _ z),fun _=>⟨w,hw,bad_1 bw⟩,fun z=>absurd self z,fun z=>S.c0 (inn _ z (by decide)),fun z=>S.c1 (out _ z)⟩
 | 2,hp,h,pp,ll,inn,out,self =>
  cases hp;obtain⟨m1,m2,m3,w,hw,bw⟩:=zlc h S.o.c;refine⟨w0,R1,R',rfl,⟨S.o.a,S.o.b,m1,S.o.n1,m2,S.o.l1,by omega⟩,by omega,by omega,fun x hx=>pp x hx (by decide),fun z=>S.a0 (inn _ z (by decide)),fun z=>S.a1 (out _ z),fun z=>S.b0 (inn _ z (by decide)),fun z=>S.b1 (out _ z),fun _=>⟨w,hw,bad_2 bw⟩,fun z=>absurd self z⟩
 | p+3,hp,_,_,_,_,_,_=>simp at hp
theorem zgt(g:GdN n rs ts):(rs.map rawTx).map ropeR=rs.map some/\(ts.map turnTx).map turnR=ts.map some:=by
 rw[List.map_map,List.map_map];exact⟨List.map_congr_left fun r hr=>(zhd (g.r r hr)).1,List.map_congr_left fun t ht=>(zh3 (g.t t ht)).1⟩
theorem zra(g:GdN n rs ts)(S:StS n rs ts ps w0 R1 R2){m:Int}(hm:m∈ps)(hl:∀a∈ps,m<=a):TxP (joinT w0 R1 R2) m:=by
 have num:(0:Int)∉ps->numOk w0 3=true:=fun z=>by rw[S.a1 z]; exact(zgn g.n.1 g.n.2).1
 rcases S.p m hm with rfl | rfl | rfl
 ·exact S.o.at0 (S.a0 hm)
 ·have n0:(0:Int)∉ps:=fun z=>by have:=hl 0 z; omega
  exact S.o.at1 (num n0) (S.b0 hm)
 ·have n0:(0:Int)∉ps:=fun z=>by have:=hl 0 z; omega
  have n1:(1:Int)∉ps:=fun z=>by have:=hl 1 z; omega
  exact S.o.at2 (num n0) (rs:=rs) (by rw[S.b1 n1]; exact(zgt g).1) (S.c0 hm)
theorem zr9(g:GdN n rs ts)(S:StS n rs ts [] w0 R1 R2):TxN (joinT w0 R1 R2) n rs ts:=by
 have e0:=S.a1 (by simp);have e1:=S.b1 (by simp);have e2:=S.c1 (by simp);obtain⟨a,b,_⟩:=zgn g.n.1 g.n.2
 have:=S.o.net (by rw[e0]; exact a) (rs:=rs) (ts:=ts) (by rw[e1]; exact(zgt g).1) (by rw[e2]; exact(zgt g).2) fun t ht=>by have:=(g.t t ht).l; omega
 rw[e0,b] at this;rw[e0];exact this
def DueAt(H:Hp)(n:Int)(rs:List Raw)(ts:List (List Int))(x:Str)(o:Addr):Prop:=(∃p,TxP x p/\H o=some (.tup [.str "text",.int p]))\/∃d,TxN x n rs ts/\DueP n rs ts d/\resH H n rs ts o d
theorem zn2{H H':Hp}{T o:Addr}{q:Str}{x:Str}(hT:TabM H T q)(bt:ButT T H H')(h:DueAt H n rs ts x o):DueAt H' n rs ts x o:=by
 rcases h with ⟨p,h1,h2⟩ | ⟨d,h1,h2,h3⟩
 ·exact .inl ⟨p,h1,bt _ _ (zcb hT h2) h2⟩
 ·exact .inr ⟨d,h1,h2,zod hT bt h3⟩
theorem zr6{H:Hp}{T b:Addr}{q:Str}{xs:List V}(h:TabM H T q)(e:H b=some (.lst xs)):b≠T:=fun z=>by
 obtain⟨L,hT,_⟩:=h;rw[z,hT] at e;cases e
theorem zq9{H:Hp}{o:Addr}{p:Int}(h:H o=some (.tup [.str "text",.int p])):RdD H (.ref o) (txtD p):=zfo h (.str _) (.int _)
theorem sn_due {H:Hp} {Q:VK} {CP CN CR CT CL CX f od:Addr} {A1 A2:Hp->Prop} {x:Str} (h1:A1 H) (h2:A2 H) (asc:Asc x) (xl:x.length<=50000) (hd:DueAt H n rs ts x od)
  (q:∀o H' D,Same H H'->RdD H' (.ref o) D->RdD H' (.ref od) D->D.canLay0=true/\D.depth<=64->Q (.ref o) H'):ssG CP CN CR CT CL CX (fun H Q E=>A1 H/\A2 H/\rdN CP CN CR CT CL CX [.str x] H Q E) f H Q:=by
 rcases hd with ⟨p,hp,ho⟩ | ⟨d,hx,hd,ho⟩
 ·exact sn_ref h1 h2 asc xl hp fun o H' s' h'=>q o H' (txtD p) s' (zq9 h') (zq9 (s' _ _ ho)) (zr4 p)
 ·refine sn_net h1 h2 asc xl hx fun o d' H' s' hd' h'=>?_
  obtain rfl:=zpr hd hd';exact q o H' (ansD n rs ts d) s' (zqa h') (zqa (zme s' ho)) (zsx hd.det)
end
theorem zrj{H:Hp}{a:Addr}{rs:List Rope}(h:TupR RopeR H a rs):TupR RawR H a (rs.map ofRp):=by
 obtain⟨bs,h1,hl,hB⟩:=h;refine⟨bs,h1,by rw[List.length_map,hl],fun i b r e1 e2=>?_⟩;rw[List.getElem?_map] at e2;cases q:rs[i]? with
 | none=>rw[q] at e2; cases e2
 | some x =>
  rw[q] at e2;cases e2;exact zoa (hB i b x e1 q)
theorem zsl{H:Hp}{b Lp:Addr}{ws:List Str}{ps:List Int}(h:StrsL H b ws)(hw:ws≠[])(e:H Lp=some (.lst (ps.map V.int))):b≠Lp:=fun z=>by
 unfold StrsL at h;rw[z,e] at h;cases ws with
 | nil=>exact hw rfl
 | cons w r =>
  cases ps with
  | nil=>simp at h
  | cons p q=>simp at h
theorem zo7{H:Hp}{L Lp:Addr}{w0:Str}{R1 R2:List Str}{ps:List Int}{o:HO}(h:RowsR H L [[w0],R1,R2])(n1:R1≠[])(n2:R2≠[])(e:H Lp=some (.lst (ps.map V.int))):RowsR (upd H Lp o) L [[w0],R1,R2]:=by
 obtain⟨ls,h1,h2⟩:=h;have ll:ls.length=3:=h2.1;refine⟨ls,?_,zk7 h2 fun b hb=>?_⟩
 ·rw[upd_ne fun z=>by
   rw[z,e] at h1;cases ls with
   | nil=>cases ll
   | cons c r =>
    cases ps with
    | nil=>simp at h1
    | cons p q=>simp at h1]
  exact h1
 ·obtain⟨i,hi⟩:=List.mem_iff_getElem?.mp hb;have il:=(List.getElem?_eq_some_iff.mp hi).1;obtain⟨R,hR⟩:∃R,([[w0],R1,R2]:List (List Str))[i]?=some R:=⟨_,List.getElem?_eq_getElem (by show i<3; omega)⟩;refine zsl (h2.2 i b R hi hR) ?_ e
  match i,hR with
  | 0,hR=>cases hR; simp
  | 1,hR=>cases hR; exact n1
  | 2,hR=>cases hR; exact n2
  | i+3,hR=>simp at hR
theorem zon{xs:List Str}{z:Int}{P:Str->Prop}(ha:∀x∈xs,P x)(h:0<=z)(h2:z<(xs.length:Int)):∃x,atI (xs.map V.str) z=some (.str x)/\P x:=by
 obtain⟨i,rfl⟩:=Int.eq_ofNat_of_zero_le h;have il:i<xs.length:=by omega
 refine⟨xs[i],zaf ?_,ha _ (List.getElem_mem il)⟩;rw[List.getElem?_map,List.getElem?_eq_getElem il];rfl
def lamQ7:Str:=(("law":Str)++".<locals>.")++"<lambda>"
section
variable {P:Program} {w:World} {K:PySem.W.Frag} {mg:Str->Option Value} {base:Heap} {f f1 f2 f3 f4 f5 f6 f7 f8 c T CP CN CR CT CL CX:Addr} {fd d1 d2 d3 d4 d5 d6 d7 d8:FuncData}
theorem Fun.okC {x qual:Str} {st:Stmt} {f:Addr} {fd:FuncData} {N ps:List Str} {k:Nat} {sp:Sp} (F:Fun K x qual st f fd) (S:FnScope N ps (defScope st)) (len:∀vs H Q E,sp vs H Q E->vs.length=ps.length)
  (hbody:∀(A:Around) (outer:List Env) (s:Shared) (H:Hp) (vs:List V) (Q:VK) (E:XK),Room k (A.deeper (PyProof.Rows.envOfC qual (defScope st) s.heap.objs.size f fd.code))->sp vs H Q E →
   ∃t,PSs (cxOf CX0 P w K mg base N qual (defScope st) f fd.code A outer s H E).nox (defBody st) t/\t { nx:=fun _ H'=>Q .non H',rt:=Q } (start N vs) H):FnOk P w K mg base CX0 (k+1) f fd ps sp:=by
 obtain⟨oc,od,kV,doc,pm,an,cdv,ct,osl,rfl,lk,hcd⟩:=F.ex;refine zsi lk hcd S len fun A outer s H vs Q E hr hsp=>?_
 obtain⟨t,h,q⟩:=hbody A outer s H vs Q E hr hsp;exact⟨t,h.nox,q⟩
def spLaw(T:Addr)(K:PySem.W.Frag):Sp:=fun vs H Q _=>∃(a:Addr) (ns:List Int),vs=[.ref a]/\SqL K H a (ns.map V.int)/\ns.length<=63/\H T=some (.tbl #[])/\∀H',Q (.bl true) H'
theorem scLw:FnScope ["_law_script","_law_cell","_law_net","_law_rows","_law_parts","_law_k","_law_way","_law_text","_law_due","_law_again"] ["_law_script"] (defScope sLaw):=⟨rfl,rfl,rfl,by decide +kernel,rfl,by decide +kernel,by decide +kernel⟩
set_option maxHeartbeats 4000000 in
seal L2.PSs L2.PS L2.PE L2.PA L2.PAk L2.PEk L2.PEt in
theorem ok_law (F:Fun K "law" "law" sLaw f fd) (hcd:fd.code=.ref c) (hC:PySem.W.CodeHd base c T) (hB:BMain mg base)
  (G1:FnOk P w K mg base CX0 2 f1 d1 ["_law_script","_law_k"] (spDrawn K)) (b1:Binds K d1 ["_law_script","_law_k"] []) (k1:PySem.W.keepIn K (.ref f1)=true) (m1:mg "_law_drawn" = some (.ref f1))
  (G2:FnOk P w K mg base CX0 4 f2 d2 ["_law_script","_law_start","_law_many"] (spGrown K)) (b2:Binds K d2 ["_law_script","_law_start","_law_many"] []) (k2:PySem.W.keepIn K (.ref f2)=true) (m2:mg "_law_grown" = some (.ref f2))
  (G3:FnOk P w K mg base CX0 1 f3 d3 ["_law_net","_law_cell"] spWell) (b3:Binds K d3 ["_law_net","_law_cell"] []) (k3:PySem.W.keepIn K (.ref f3)=true) (m3:mg "_law_well" = some (.ref f3))
  (G4:FnOk P w K mg base CX0 2 f4 d4 ["_law_rows","_law_part","_law_cell"] spSpo) (b4:Binds K d4 ["_law_rows","_law_part","_law_cell"] []) (k4:PySem.W.keepIn K (.ref f4)=true) (m4:mg "_law_spoilt" = some (.ref f4))
  (G5:FnOk P w K mg base CX0 1 f5 d5 ["_law_rows"] spJo) (b5:Binds K d5 ["_law_rows"] []) (k5:PySem.W.keepIn K (.ref f5)=true) (m5:mg "_law_joined" = some (.ref f5))
  (G6:AskOk P w K mg base 7 8 f6 d6 ["_law_ask"] (ssG CP CN CR CT CL CX)) (b6:Binds K d6 ["_law_ask"] []) (k6:PySem.W.keepIn K (.ref f6)=true) (m6:mg "_law_said" = some (.ref f6))
  (G7:FnOk P w K mg base (CXr P w) 5 f7 d7 ["places","ropes","turns"] (spCk CN CR CT CL CX)) (b7:Binds K d7 ["places","ropes","turns"] []) (k7:PySem.W.keepIn K (.ref f7)=true) (m7:mg "checked" = some (.ref f7))
  (G8:FnOk P w K mg base (CXr P w) 6 f8 d8 ["text"] (spNd CP CN CR CT CL CX)) (b8:Binds K d8 ["text"] []) (k8:PySem.W.keepIn K (.ref f8)=true) (m8:mg "net_read" = some (.ref f8)) (mr:mg "range" = none) (mn:mg "min" = none) :
  FnOk P w K mg base CX0 9 f fd ["_law_script"] (spLaw T K):=by
 refine Fun.okC F scLw (fun vs H Q E h=>?_) (fun A outer s H vs Q E hr h=>?_)
 ·obtain⟨a,ns,rfl,_⟩:=h;rfl
 obtain⟨a,ns,rfl,hS,hn,hT,q⟩:=h;have r1:=hr.mono (show 1<=8 by decide);have r2:=hr.mono (show 2<=8 by decide);have r4:=hr.mono (show 4<=8 by decide);refine⟨_,za2 (za8 (i:=1) scLw.nd rfl (Or.inl rfl) (za9 G1 r2 (by rfl) m1 k1 b1 .nil pass0 (za0 (pv 0) (za0 za3 za4))))
  (za2 (zfr (za9 G3 r1 (by rfl) m3 k3 b3 .nil pass0 (za0 (za9 G2 r4 (by rfl) m2 k2 b2 .nil pass0 (za0 (pv 0) (za0 za3 (za0 (za7 zb1 za3 (za7 zaj (pv 1) za3)) za4)))) (za0 (za9 G1 r2 (by rfl) m1 k1 b1 .nil pass0 (za0 (pv 0) (za0 za3 za4))) za4))) (pgTup (n:=2) (K:=K) rfl (zaw (zae (i:=2) scLw.nd rfl (Or.inr rfl)) (zaw (zae (i:=3) scLw.nd rfl (Or.inl rfl)) zdj))))
  (za2 (za8 (i:=4) scLw.nd rfl (Or.inl rfl) (zar za4))
  (za2 (zbs PassesOwn.never rfl (zc7 (by rfl) mr (za0 (za7 zaj (za7 zat (pv 1) za3) za3) za4)) (zae (i:=5) scLw.nd rfl (Or.inl rfl))
   (za2 (za8 (i:=6) scLw.nd rfl (Or.inl rfl) (za9 G1 r2 (by rfl) m1 k1 b1 .nil pass0 (za0 (pv 0) (za0 (za7 zb1 za3 (pv 5)) za4))))
   (za2 (zam (zap K PySem.F.plainAttrs_list PySem.F.slot_list_append PySem.F.type_list_append zal (pv 4) (za0 (za7 zaj (pv 6) za3) za4)))
   (za6 (za8 (i:=3) scLw.nd rfl (Or.inl rfl) (za9 G4 r2 (by rfl) m4 k4 b4 .nil pass0 (za0 (pv 3) (za0 (za7 zaj (pv 6) za3) (za0 (za7 zat (pv 6) za3) za4)))))))))
  (za2 (za8 (i:=7) scLw.nd rfl (Or.inr rfl) (za9 G5 r1 (by rfl) m5 k5 b5 .nil pass0 (za0 (pv 3) za4)))
  (za2 (za8 (i:=8) scLw.nd rfl (Or.inl rfl) (zlu (j:=6) (N:=["_law_net"]) (js:=[2]) (rd:=rdL CN CR CT CL CX) (T:=T) (c:=c) G6 hr (by rfl) m6 k6 b6 rfl
    (zjs rfl rfl rfl rfl rfl (List.forall_mem_cons.mpr ⟨⟨_,rfl,rfl,rfl,rfl,rfl⟩,List.forall_mem_nil _⟩) (List.forall_mem_cons.mpr ⟨rfl,List.forall_mem_nil _⟩) (by decide +kernel)
     (List.forall_mem_cons.mpr ⟨(fun z=>by first | exact⟨_,rfl⟩ | cases z),List.forall_mem_cons.mpr ⟨(fun z=>by first | exact⟨_,rfl⟩ | cases z),List.forall_mem_nil _⟩⟩) fun _=>rfl) rfl hcd hC hB rfl (fun _ _ _ _=>rfl)
    (fun f c A outer s vs H Q E hr h=>⟨_,za9 (CX:=CXr P w) (E:=E) G7 (hr.mono (by decide)) (by rfl) m7 k7 b7 .nil zjl (za0 (zai (ixT (K:=K)) (pv 0) za3 (fun _ _=>rfl)) (za0 (zai (ixT (K:=K)) (pv 0) za3 (fun _ _=>rfl)) (za0 (zai (ixT (K:=K)) (pv 0) za3 (fun _ _=>rfl)) za4))),by
     obtain⟨a,ra,ta,n,rfl,h1,h2⟩:=id h;exact⟨_,rfl,a,_,_,_,rfl,rfl,SqT.of h1,t3_0 _ _ _,_,rfl,a,_,_,_,rfl,rfl,SqT.of h1,t3_1 _ _ _,_,rfl,a,_,_,_,rfl,rfl,SqT.of h1,t3_2 _ _ _,h2⟩⟩) (fun vs H Q Q' E E' a1 a2 h=>zog a1 a2 h)))
  (za2 (zas (zac (zlz hr.units) (pv 4) (zar za4) (nomark _)) (za6 (za8 (i:=8) scLw.nd rfl (Or.inl rfl) (zb3 (za0 zaa (za0 (zab (zng rfl) (by rfl) mn zqs (za0 (pv 4) za4)) za4))))) zad)
  (za2 (zas (zac zd7 (za7 zaj (za7 zat (pv 1) za3) za3) za3 (nomark _)) (za2 (za8 (i:=7) scLw.nd rfl (Or.inr rfl) (zai (ixL (K:=K)) (zar (pa_tok (zoq (pv 7)) (zgm (zlt (zii (i:=7) rfl (Or.inr (Or.inl rfl))) (by decide +kernel) (by decide)) (zgm (PEt.k (zor (zii (i:=7) rfl (Or.inr (Or.inl rfl))))) (zgm (zlt (zii (i:=7) rfl (Or.inr (Or.inl rfl))) (by decide +kernel) (by decide)) (PA.k (za0 zaa za4))))))) (za7 zaj (za7 zat (pv 1) za3) za3) (fun _ _=>rfl)))
   (za6 (za8 (i:=8) scLw.nd rfl (Or.inl rfl) (zb3 (za0 zaa (za0 za3 za4)))))) zad)
  (za2 (zbs PassesOwn.never rfl (zc7 (by rfl) mr (za0 za3 za4)) (zae (i:=9) scLw.nd rfl (Or.inl rfl))
   (za6 (zas (zac (op_neG hr.units) (zlu (j:=6) (N:=["_law_text"]) (js:=[7]) (rd:=rdN CP CN CR CT CL CX) (T:=T) (c:=c) G6 hr (by rfl) m6 k6 b6 rfl
    (zjs rfl rfl rfl rfl rfl (List.forall_mem_cons.mpr ⟨⟨_,rfl,rfl,rfl,rfl,rfl⟩,List.forall_mem_nil _⟩) (List.forall_mem_cons.mpr ⟨rfl,List.forall_mem_nil _⟩) (by decide +kernel)
     (List.forall_mem_cons.mpr ⟨(fun z=>by first | exact⟨_,rfl⟩ | cases z),List.forall_mem_cons.mpr ⟨(fun z=>by first | exact⟨_,rfl⟩ | cases z),List.forall_mem_nil _⟩⟩) fun _=>rfl) rfl hcd hC hB rfl (fun _ _ _ _=>rfl)
    (fun f c A outer s vs H Q E hr h=>⟨_,za9 (CX:=CXr P w) (E:=E) G8 hr (by rfl) m8 k8 b8 .nil zjl (za0 (pv 0) za4),by
     have h':=h;obtain⟨x,rfl,_⟩:=id h;exact⟨_,rfl,h'⟩⟩) (fun vs H Q Q' E E' a1 a2 h=>zof a1 a2 h)) (pv 8) (nomark _)) (za6 (zag zgl)) zad)))
  (za6 (zag zgl)))))))))),?_⟩
 refine⟨_,rfl,a,ns,0,rfl,⟨hS,hn⟩,by decide,by decide,fun z H1 s1 dz=>?_⟩;obtain⟨m,em⟩:∃m:Nat,1+z % 14=(m:Int):=⟨(1+z % 14).toNat,by omega⟩;refine⟨_,rfl,_,rfl,_,_,rfl,rfl,(show(0:Int)<14 by decide),_,_,rfl,rfl,a,ns,4,m,by rw[<-em]; rfl,⟨s1.seq hS,hn⟩,by decide,by omega,by omega,fun p ra ta n rs ts H2 s2 hp hR hTs N rl es=>?_⟩;have s02:=s1.trans s2;refine⟨_,rfl,a,ns,1,rfl,⟨s02.seq hS,hn⟩,by decide,by decide,fun z1 H3 s3 dz1=>?_⟩;have n2:=N.n2;have n15:=N.n15;refine⟨p,ra,ta,(n:Int),z1,rs.map ofRp,ts,rfl,s3 _ _ hp,zf7 s3 (zrj hR),zdu s3 hTs,zph N,by omega,by omega,fun pp pn rb tb L n' rs' ts' H4 s4 e4 en hR4 hT4 hL gd=>?_⟩;have s04:=s02.trans (s3.trans s4);clear s1 s2 s3 s4 hp hR hTs N rl es s02 H1 H2 H3;refine⟨pp,_,rfl,SqT.of e4,rfl,_,_,rfl,_,_,rfl,rfl,?_⟩;refine⟨by show 0<=sizeLine; decide,fun Lp hLp=>?_⟩;have s5:=za5 hLp (.lst []);have e5:(upd H4 Lp (.lst [])) Lp=some (.lst (([]:List Int).map V.int)):=za1;have fLp:H Lp=none:=s04.free hLp;generalize upd H4 Lp (.lst [])=H5 at s5 e5;dsimp only;refine zaq ?_;refine zb8 fun U1 hU1=>?_
 obtain⟨c',ec⟩:∃c:Nat,z / 14 % 3=(c:Int):=⟨(z / 14 % 3).toNat,by omega⟩;refine⟨_,rfl,_,_,rfl,rfl,⟨by decide,by decide⟩,_,_,rfl,rfl,(show(0:Int)<3 by decide),(c':Int),by rw[<-ec],by omega,by omega,?_⟩;rw[show((c':Int)).toNat=c' by omega];refine zcs (n:=c') (fun i σ H'=>∃(L:Addr) (ps:List Int) (w0:Str) (R1 R2:List Str) (u v:Option V),σ=[some (.ref a),some (.int z),some (.ref pn),some (.ref L),some (.ref Lp),u,v,none,none,none]/\Same H H'/\H' pn=some (.tup [.int n',.ref rb,.ref tb])/\TupR RawR H' rb rs'/\TupR IntsT H' tb ts'/\H' Lp=some (.lst (ps.map V.int))/\RowsR H' L [[w0],R1,R2]/\StS n' rs' ts' ps w0 R1 R2/\ps.length=i)
  ⟨L,[],_,_,_,none,none,rfl,s04.trans s5,s5 _ _ en,zf7 s5 hR4,zdu s5 hT4,e5,zmd s5 hL,sts_0 gd,rfl⟩ ?_ ?_
 ·rintro i σ H6 hi ⟨L,ps,w0,R1,R2,u,v,rfl,s6,en6,hR6,hT6,e6,hL6,S,lp⟩;refine⟨_,rfl,_,rfl,_,_,rfl,rfl,a,ns,_,rfl,⟨s6.seq hS,hn⟩,by omega,by omega,fun y H7 s7 dy=>?_⟩;dsimp only;refine zaq ?_;obtain⟨p3,hp3,p3l⟩:=zf6 y (show(0:Int)<3 by decide);have e7:=s7 _ _ e6;refine⟨_,rfl,.inl ⟨rfl,_,SqL.of e7⟩,_,rfl,_,_,rfl,rfl,(show(0:Int)<3 by decide),Lp,_,_,rfl,rfl,e7,by rw[List.length_map]; exact szl (by omega),?_⟩;rw[hp3];have s8:=(s6.trans s7).up fLp (.lst (ps.map V.int++[.int (p3:Int)]));have e8:(upd H7 Lp (.lst (ps.map V.int++[.int (p3:Int)]))) Lp=some (.lst ((ps++[(p3:Int)]).map V.int)):=by rw[za1,List.map_append]; rfl
  have kp:∀{b:Addr} {xs:List V},H7 b=some (.tup xs)->(upd H7 Lp (.lst (ps.map V.int++[.int (p3:Int)]))) b=some (.tup xs):=fun {b xs} h=>by
   rw[upd_ne fun z=>by rw[z,e7] at h; cases h];exact h
  have en8:=kp (s7 _ _ en6);have hR8:TupR RawR (upd H7 Lp (.lst (ps.map V.int++[.int (p3:Int)]))) rb rs':=by
   obtain⟨bs,g1,g2,g3⟩:=zf7 s7 hR6;refine⟨bs,kp g1,g2,fun i b r h1 h2=>?_⟩;obtain⟨e,k1,k2⟩:=g3 i b r h1 h2;exact⟨e,kp k1,kp k2⟩
  have hT8:TupR IntsT (upd H7 Lp (.lst (ps.map V.int++[.int (p3:Int)]))) tb ts':=by
   obtain⟨bs,g1,g2,g3⟩:=zdu s7 hT6;exact⟨bs,kp g1,g2,fun i b r h1 h2=>kp (g3 i b r h1 h2)⟩
  have hL8:RowsR (upd H7 Lp (.lst (ps.map V.int++[.int (p3:Int)]))) L [[w0],R1,R2]:=zo7 (zmd s7 hL6) S.o.n1 S.o.n2 e7;generalize upd H7 Lp (.lst (ps.map V.int++[.int (p3:Int)]))=H8 at s8 e8 en8 hR8 hT8 hL8;obtain⟨R,hp⟩:∃R,([[w0],R1,R2]:List (List Str))[p3]?=some R:=⟨_,List.getElem?_eq_getElem (by show p3<3; omega)⟩;obtain⟨rn,rl⟩:=sts_at S hp;refine⟨_,rfl,_,rfl,_,_,rfl,rfl,(show(0:Int)<3 by decide),_,rfl,_,_,rfl,rfl,⟨by decide,by decide⟩,L,[[w0],R1,R2],R,p3,y / 3,by rw[<-hp3]; rfl,hL8,hp,rfl,rn,by omega,fun L' R' H9 s9 hL9 hs=>?_⟩;obtain⟨w0',R1',R2',eR,S'⟩:=sts_s S hp hs (by omega);rw[eR] at hL9;exact⟨L',ps++[(p3:Int)],w0',R1',R2',_,_,rfl,s8.trans s9,s9 _ _ en8,zf7 s9 hR8,zdu s9 hT8,s9 _ _ e8,hL9,S',by rw[List.length_append,lp]; rfl⟩
 clear s5 e5 hL hR4 hT4 en s04 fLp hLp e4 L;rintro σ H6 ⟨L,ps,w0,R1,R2,u,v,rfl,s6,en6,hR6,hT6,e6,hL6,S,lp⟩;subst hU1;obtain⟨_,_,_,xa,xl⟩:=S.o.text;refine⟨_,rfl,L,w0,R1,R2,rfl,hL6,(zd2 S.o.a).2.2,fun w' hw=>(zd2 (S.o.b w' hw)).2.2,fun w' hw=>(zd2 (S.o.c w' hw)).2.2,S.o.l1,S.o.l2,fun H7 s7=>?_⟩;have hM:TabM H7 T lamQ7:=⟨[],s7 _ _ (s6 _ _ hT),fun e he=>by cases he⟩;have en7:=s7 _ _ en6;have e7:=s7 _ _ e6;have tl:∀t∈ts',t.length<64:=fun t ht=>by have:=(gd.t t ht).l; omega
 dsimp only;refine zaq ?_;refine⟨hM,[.ref pn],rfl,fun i j hij=>?_,fun fl c2 H8 bt8 nf tb8 hc8 hf8=>?_⟩
 ·match i,hij with
  | 0,hij=>cases hij; exact⟨_,rfl,rfl⟩
 refine sg_go hf8 hc8 (bt8 _ _ (zcb hM en7) en7) (zq7 hM bt8 (zf7 s7 hR6)) (zq3 hM bt8 (zdu s7 hT6)) tl fun od d H9 s9 hd h9=>?_
 have e9:=s9 _ _ (bt8 _ _ (zr6 hM e7) e7);have tb9:=tb8.same s9;clear hM en7 e7 bt8 tb8 hc8 hf8 nf hL6 hR6 hT6 en6 e6 s7 s6 s9 H8 H7 H6;generalize hx:joinT w0 R1 R2=x at xa xl;dsimp only;refine zaq ?_;refine zfy (fun σ H'=>∃(o:Addr),σ=[some (.ref a),some (.int z),some (.ref pn),some (.ref L),some (.ref Lp),u,v,some (.str x),some (.ref o),none]/\TabM H' T lamQ7/\DueAt H' n' rs' ts' x o) ?_ fun nx hn'=>?_
 rotate_left
 ·refine⟨_,rfl,by show 0<=sizeLine; decide,fun l2 hl2=>?_⟩;have s10:=za5 hl2 (.lst []);have e10:(upd H9 l2 (.lst [])) l2=some (.lst (([]:List Int).map V.int)):=za1;generalize upd H9 l2 (.lst [])=H10 at s10 e10;refine⟨Lp,l2,ps,[],rfl,rfl,s10 _ _ e9,e10,_,rfl,?_⟩;by_cases pz:ps=[]
  ·refine iteNS pz ?_;subst pz;have hN:=zr9 gd S;rw[hx] at hN;exact hn' _ _ ⟨od,rfl,tb9.same s10,.inr ⟨d,hN,hd,zme s10 h9⟩⟩
  ·refine iteNN pz ?_;refine⟨_,rfl,Lp,ps,rfl,s10 _ _ e9,List.length_pos_iff.mpr pz,fun m hm hl=>?_⟩;refine⟨by show 2<=sizeLine; decide,fun o ho=>?_⟩;have s11:=za5 ho (.tup [.str "text",.int m]);have hP:=zra gd S hm hl;rw[hx] at hP;exact hn' _ _ ⟨o,rfl,(tb9.same s10).same s11,.inl ⟨m,hP,za1⟩⟩
 clear e9 tb9 h9 hd H9;rintro σ H9 ⟨o,rfl,tb9,hd9⟩;refine zfy (fun σ H'=>∃(y:Str) (o:Addr),σ=[some (.ref a),some (.int z),some (.ref pn),some (.ref L),some (.ref Lp),u,v,some (.str y),some (.ref o),none]/\TabM H' T lamQ7/\DueAt H' n' rs' ts' y o/\Asc y/\y.length<=50000) ?_ fun nx hn'=>?_
 rotate_left
 ·refine⟨_,rfl,_,_,rfl,rfl,⟨by decide,by decide⟩,_,_,rfl,rfl,(show(0:Int)<6 by decide),rfl,_,rfl,?_⟩;by_cases c1:z / 42 % 6=1;rotate_left
  ·exact iteDF (ivn c1) (hn' _ _ ⟨x,o,rfl,tb9,hd9,xa,by omega⟩)
  refine iteDT (iv c1) ?_;have y1:=S.o.x1;have y2:=S.o.x2;have y3:=S.o.x3;have y4:=S.o.x4;rw[hx] at y1 y2 y3 y4;have ft:∀{a b:Str},a.length+b.length<=100000->a.length+b.length<=sizeLine:=fun {a b} h=>by rw[sizeLine_eq]; omega
  refine⟨_,rfl,_,_,rfl,rfl,ft (by show x.length+3<=100000; omega),_,rfl,_,rfl,by omega,_,rfl,_,_,rfl,rfl,ft (by show 2+x.length<=100000; omega),_,rfl,_,rfl,by omega,by show 5<=sizeLine; decide,fun l hl=>?_⟩;have sl:=za5 hl (.lst (([x++sS "; 1",Txt.replace x (sS ";") (sS ""),sS "; "++x,Txt.replace x spS spC,sS ""]:List Str).map V.str));have el:(upd H9 l (.lst (([x++sS "; 1",Txt.replace x (sS ";") (sS ""),sS "; "++x,Txt.replace x spS spC,sS ""]:List Str).map V.str))) l=some (.lst (([x++sS "; 1",Txt.replace x (sS ";") (sS ""),sS "; "++x,Txt.replace x spS spC,sS ""]:List Str).map V.str)):=za1;obtain⟨y,hy,ty⟩:=zon (xs:=[x++sS "; 1",Txt.replace x (sS ";") (sS ""),sS "; "++x,Txt.replace x spS spC,sS ""]) (z:=z / 252 % 5) (P:=T3) (fun t ht=>by
   simp only[List.mem_cons,List.not_mem_nil,or_false] at ht;rcases ht with e | e | e | e | e <;> rw[e]
   ·exact y1
   ·exact y2
   ·exact y3
   ·exact y4
   ·exact x5) (by omega) (by show _<((5:Nat):Int); omega)
  refine⟨_,rfl,_,_,rfl,rfl,⟨by decide,by decide⟩,_,_,rfl,rfl,(show(0:Int)<5 by decide),l,_,_,_,rfl,rfl,SqL.of el,hy,?_⟩;refine⟨by show 2<=sizeLine; decide,fun o2 ho2=>?_⟩;have s11:=za5 ho2 (.tup [.str "text",.int 3]);exact hn' _ _ ⟨y,o2,rfl,tb9.same (sl.trans s11),.inl ⟨3,ty.1,za1⟩,ty.2.1,ty.2.2⟩
 clear tb9 hd9 H9 o;rintro σ H9 ⟨y,o,rfl,tb9,hd9,ya,yl⟩;refine zb8 fun U2 hU2=>?_
 refine⟨(2:Int),rfl,by decide,by decide,?_⟩;refine zcs (n:=2) (fun i σ H'=>∃(v9:Option V),σ=[some (.ref a),some (.int z),some (.ref pn),some (.ref L),some (.ref Lp),u,v,some (.str y),some (.ref o),v9]/\TabM H' T lamQ7/\DueAt H' n' rs' ts' y o) ⟨none,rfl,tb9,hd9⟩ ?_ ?_
 ·rintro i σ H10 hi ⟨v9,rfl,hM,hD⟩;refine⟨hM,[.str y],rfl,fun i j hij=>?_,fun fl c2 H11 bt nf tb hc hf=>?_⟩
  ·match i,hij with
   | 0,hij=>cases hij; exact⟨_,rfl,rfl⟩
  refine sn_due hf hc ya yl (zn2 hM bt hD) fun o2 H12 D s12 r1 r2 lay=>?_
  refine⟨_,rfl,D,D,r1,r2,lay,lay,_,rfl,?_⟩;rw[SeqAt.eqv_refl _ lay.1];refine iteF ?_;exact⟨_,rfl,tb.same s12,zn2 hM (bt.sames s12) hD⟩
 ·rintro σ H10 ⟨v9,rfl,_⟩;subst hU2;exact q _
end
theorem ze7{α:Type}{us:List α}(h:us.length=1):∃a0,us=[a0]:=by
 match us,h with
 | [a0],_=>exact⟨a0,rfl⟩
theorem zcy{α:Type}{us:List α}(h:us.length=2):∃a0 a1,us=[a0,a1]:=by
 match us,h with
 | [a0,a1],_=>exact⟨a0,a1,rfl⟩
theorem zfa{α:Type}{us:List α}(h:us.length=3):∃a0 a1 a2,us=[a0,a1,a2]:=by
 match us,h with
 | [a0,a1,a2],_=>exact⟨a0,a1,a2,rfl⟩
theorem len_4{α:Type}{us:List α}(h:us.length=4):∃a0 a1 a2 a3,us=[a0,a1,a2,a3]:=by
 match us,h with
 | [a0,a1,a2,a3],_=>exact⟨a0,a1,a2,a3,rfl⟩
set_option maxHeartbeats 4000000 in
theorem all_mk {l:PySem.W.OpenLaw} {w:World} {K:PySem.W.Frag} {h:Heap} {mg:Str->Option Value} {fa c07 T07 CF CP CN CR CT CL CX f1 f2 f3 f4 f5 f6 f7 f8 f9 f10 f11 f12 f13 f14 f15 f16 f17 f18 f19 f20 f21 f22 f23 f24 f25 f26 f27 f28 f29 f30 f31 f32 f33 f34 f35 f36 f37 f38 f39 f40 f41 f42 f43 f44 f45:Addr} (X:K.In h) (G:h.Ns mainGlobals mg) (hfa:mg "law" = some (.ref fa))
  {od1 an1 od2 an2 od3 an3 od4 an4 od5 an5 od6 an6 od7 an7 od8 an8 od9 an9 od10 an10 od11 an11 od12 an12 od13 an13 od14 an14 od15 an15 od16 an16 od17 an17 od18 an18 od19 an19 od20 an20 od21 an21 od22 an22 od23 an23 od24 an24 od25 an25 od26 an26 od27 an27 od28 an28 od29 an29 od30 an30 od31 an31 od32 an32 od33 an33 od34 an34 od35 an35 od36 an36 od37 an37 od38 an38 od39 an39 od40 an40 od41 an41 od42 an42 od43 an43 od44 an44 od45 an45:Option Addr}
  {sl1 sl2 sl3 sl4 sl5 sl6 sl7 sl8 sl9 sl10 sl11 sl12 sl13 sl14 sl15 sl16 sl17 sl18 sl19 sl20 sl21 sl22 sl23 sl24 sl25 sl26 sl27 sl28 sl29 sl30 sl31 sl32 sl33 sl34 sl35 sl36 sl37 sl38 sl39 sl40 sl41 sl42 sl43 sl44 sl45:Array (Option Value)}
  {oc1 kV1 dc1 pm1 cd1 ct1 oc2 kV2 dc2 pm2 cd2 ct2 oc3 kV3 dc3 pm3 cd3 ct3 oc4 kV4 dc4 pm4 cd4 ct4 oc5 kV5 dc5 pm5 cd5 ct5 oc6 kV6 dc6 pm6 cd6 ct6 oc7 kV7 dc7 pm7 cd7 ct7 oc8 kV8 dc8 pm8 cd8 ct8 oc9 kV9 dc9 pm9 cd9 ct9 oc10 kV10 dc10 pm10 cd10 ct10 oc11 kV11 dc11 pm11 cd11 ct11 oc12 kV12 dc12 pm12 cd12 ct12 oc13 kV13 dc13 pm13 cd13 ct13 oc14 kV14 dc14 pm14 cd14 ct14 oc15 kV15 dc15 pm15 cd15 ct15 oc16 kV16 dc16 pm16 cd16 ct16 oc17 kV17 dc17 pm17 cd17 ct17 oc18 kV18 dc18 pm18 cd18 ct18 oc19 kV19 dc19 pm19 cd19 ct19 oc20 kV20 dc20 pm20 cd20 ct20 oc21 kV21 dc21 pm21 cd21 ct21 oc22 kV22 dc22 pm22 cd22 ct22 oc23 kV23 dc23 pm23 cd23 ct23 oc24 kV24 dc24 pm24 cd24 ct24 oc25 kV25 dc25 pm25 cd25 ct25 oc26 kV26 dc26 pm26 cd26 ct26 oc27 kV27 dc27 pm27 cd27 ct27 oc28 kV28 dc28 pm28 cd28 ct28 oc29 kV29 dc29 pm29 cd29 ct29 oc30 kV30 dc30 pm30 cd30 ct30 oc31 kV31 dc31 pm31 cd31 ct31 oc32 kV32 dc32 pm32 cd32 ct32 oc33 kV33 dc33 pm33 cd33 ct33 oc34 kV34 dc34 pm34 cd34 ct34 oc35 kV35 dc35 pm35 cd35 ct35 oc36 kV36 dc36 pm36 cd36 ct36 oc37 kV37 dc37 pm37 cd37 ct37 oc38 kV38 dc38 pm38 cd38 ct38 oc39 kV39 dc39 pm39 cd39 ct39 oc40 kV40 dc40 pm40 cd40 ct40 oc41 kV41 dc41 pm41 cd41 ct41 oc42 kV42 dc42 pm42 cd42 ct42 oc43 kV43 dc43 pm43 cd43 ct43 oc44 kV44 dc44 pm44 cd44 ct44 oc45 kV45 dc45 pm45 cd45 ct45:Value}
  (a1:PySem.W.nsIn K mainGlobals "common_part" = some (some (.ref f1))) (l1:K.lookup f1=some ⟨oc1,od1,.func (PySem.W.fnOf "common_part" "common_part" (defArgs sCommon) (defBody sCommon) (defScope sCommon) .none kV1 dc1 pm1 an1 cd1 ct1),sl1⟩) (c1:PySem.W.codeIn K cd1 "common_part" = true) (k1:PySem.W.keepIn K (.ref f1)=true)
  (a2:PySem.W.nsIn K mainGlobals "fraction" = some (some (.ref f2))) (l2:K.lookup f2=some ⟨oc2,od2,.func (PySem.W.fnOf "fraction" "fraction" (defArgs sFraction) (defBody sFraction) (defScope sFraction) .none kV2 dc2 pm2 an2 cd2 ct2),sl2⟩) (c2:PySem.W.codeIn K cd2 "fraction" = true) (k2:PySem.W.keepIn K (.ref f2)=true)
  (a3:PySem.W.nsIn K mainGlobals "other_end" = some (some (.ref f3))) (l3:K.lookup f3=some ⟨oc3,od3,.func (PySem.W.fnOf "other_end" "other_end" (defArgs sOther) (defBody sOther) (defScope sOther) .none kV3 dc3 pm3 an3 cd3 ct3),sl3⟩) (c3:PySem.W.codeIn K cd3 "other_end" = true) (k3:PySem.W.keepIn K (.ref f3)=true)
  (a4:PySem.W.nsIn K mainGlobals "ends_ahead" = some (some (.ref f4))) (l4:K.lookup f4=some ⟨oc4,od4,.func (PySem.W.fnOf "ends_ahead" "ends_ahead" (defArgs sAhead) (defBody sAhead) (defScope sAhead) .none kV4 dc4 pm4 an4 cd4 ct4),sl4⟩) (c4:PySem.W.codeIn K cd4 "ends_ahead" = true) (k4:PySem.W.keepIn K (.ref f4)=true)
  (a5:PySem.W.nsIn K mainGlobals "ring_from" = some (some (.ref f5))) (l5:K.lookup f5=some ⟨oc5,od5,.func (PySem.W.fnOf "ring_from" "ring_from" (defArgs sRingFrom) (defBody sRingFrom) (defScope sRingFrom) .none kV5 dc5 pm5 an5 cd5 ct5),sl5⟩) (c5:PySem.W.codeIn K cd5 "ring_from" = true) (k5:PySem.W.keepIn K (.ref f5)=true)
  (a6:PySem.W.nsIn K mainGlobals "rings" = some (some (.ref f6))) (l6:K.lookup f6=some ⟨oc6,od6,.func (PySem.W.fnOf "rings" "rings" (defArgs sRings) (defBody sRings) (defScope sRings) .none kV6 dc6 pm6 an6 cd6 ct6),sl6⟩) (c6:PySem.W.codeIn K cd6 "rings" = true) (k6:PySem.W.keepIn K (.ref f6)=true)
  (a7:PySem.W.nsIn K mainGlobals "is_ease" = some (some (.ref f7))) (l7:K.lookup f7=some ⟨oc7,od7,.func (PySem.W.fnOf "is_ease" "is_ease" (defArgs zcm) (defBody zcm) (defScope zcm) .none kV7 dc7 pm7 an7 cd7 ct7),sl7⟩) (c7:PySem.W.codeIn K cd7 "is_ease" = true) (k7:PySem.W.keepIn K (.ref f7)=true)
  (a8:PySem.W.nsIn K mainGlobals "check_numbers" = some (some (.ref f8))) (l8:K.lookup f8=some ⟨oc8,od8,.func (PySem.W.fnOf "check_numbers" "check_numbers" (defArgs zay) (defBody zay) (defScope zay) .none kV8 dc8 pm8 an8 cd8 ct8),sl8⟩) (c8:PySem.W.codeIn K cd8 "check_numbers" = true) (k8:PySem.W.keepIn K (.ref f8)=true)
  (a9:PySem.W.nsIn K mainGlobals "check_rope" = some (some (.ref f9))) (l9:K.lookup f9=some ⟨oc9,od9,.func (PySem.W.fnOf "check_rope" "check_rope" (defArgs zbm) (defBody zbm) (defScope zbm) .none kV9 dc9 pm9 an9 cd9 ct9),sl9⟩) (c9:PySem.W.codeIn K cd9 "check_rope" = true) (k9:PySem.W.keepIn K (.ref f9)=true)
  (a10:PySem.W.nsIn K mainGlobals "ends_at" = some (some (.ref f10))) (l10:K.lookup f10=some ⟨oc10,od10,.func (PySem.W.fnOf "ends_at" "ends_at" (defArgs zcn) (defBody zcn) (defScope zcn) .none kV10 dc10 pm10 an10 cd10 ct10),sl10⟩) (c10:PySem.W.codeIn K cd10 "ends_at" = true) (k10:PySem.W.keepIn K (.ref f10)=true)
  (a11:PySem.W.nsIn K mainGlobals "check_turns" = some (some (.ref f11))) (l11:K.lookup f11=some ⟨oc11,od11,.func (PySem.W.fnOf "check_turns" "check_turns" (defArgs zbb) (defBody zbb) (defScope zbb) .none kV11 dc11 pm11 an11 cd11 ct11),sl11⟩) (c11:PySem.W.codeIn K cd11 "check_turns" = true) (k11:PySem.W.keepIn K (.ref f11)=true)
  (a12:PySem.W.nsIn K mainGlobals "led_to" = some (some (.ref f12))) (l12:K.lookup f12=some ⟨oc12,od12,.func (PySem.W.fnOf "led_to" "led_to" (defArgs zde) (defBody zde) (defScope zde) .none kV12 dc12 pm12 an12 cd12 ct12),sl12⟩) (c12:PySem.W.codeIn K cd12 "led_to" = true) (k12:PySem.W.keepIn K (.ref f12)=true)
  (a13:PySem.W.nsIn K mainGlobals "check_hanging" = some (some (.ref f13))) (l13:K.lookup f13=some ⟨oc13,od13,.func (PySem.W.fnOf "check_hanging" "check_hanging" (defArgs zaz) (defBody zaz) (defScope zaz) .none kV13 dc13 pm13 an13 cd13 ct13),sl13⟩) (c13:PySem.W.codeIn K cd13 "check_hanging" = true) (k13:PySem.W.keepIn K (.ref f13)=true)
  (a14:PySem.W.nsIn K mainGlobals "check_flat" = some (some (.ref f14))) (l14:K.lookup f14=some ⟨oc14,od14,.func (PySem.W.fnOf "check_flat" "check_flat" (defArgs zbn) (defBody zbn) (defScope zbn) .none kV14 dc14 pm14 an14 cd14 ct14),sl14⟩) (c14:PySem.W.codeIn K cd14 "check_flat" = true) (k14:PySem.W.keepIn K (.ref f14)=true)
  (a15:PySem.W.nsIn K mainGlobals "begun_least" = some (some (.ref f15))) (l15:K.lookup f15=some ⟨oc15,od15,.func (PySem.W.fnOf "begun_least" "begun_least" (defArgs zbc) (defBody zbc) (defScope zbc) .none kV15 dc15 pm15 an15 cd15 ct15),sl15⟩) (c15:PySem.W.codeIn K cd15 "begun_least" = true) (k15:PySem.W.keepIn K (.ref f15)=true)
  (a16:PySem.W.nsIn K mainGlobals "told_turns" = some (some (.ref f16))) (l16:K.lookup f16=some ⟨oc16,od16,.func (PySem.W.fnOf "told_turns" "told_turns" (defArgs zbh) (defBody zbh) (defScope zbh) .none kV16 dc16 pm16 an16 cd16 ct16),sl16⟩) (c16:PySem.W.codeIn K cd16 "told_turns" = true) (k16:PySem.W.keepIn K (.ref f16)=true)
  (a17:PySem.W.nsIn K mainGlobals "checked" = some (some (.ref f17))) (l17:K.lookup f17=some ⟨oc17,od17,.func (PySem.W.fnOf "checked" "checked" (defArgs zco) (defBody zco) (defScope zco) .none kV17 dc17 pm17 an17 cd17 ct17),sl17⟩) (c17:PySem.W.codeIn K cd17 "checked" = true) (k17:PySem.W.keepIn K (.ref f17)=true)
  (a18:PySem.W.nsIn K mainGlobals "is_number" = some (some (.ref f18))) (l18:K.lookup f18=some ⟨oc18,od18,.func (PySem.W.fnOf "is_number" "is_number" (defArgs zbx) (defBody zbx) (defScope zbx) .none kV18 dc18 pm18 an18 cd18 ct18),sl18⟩) (c18:PySem.W.codeIn K cd18 "is_number" = true) (k18:PySem.W.keepIn K (.ref f18)=true)
  (a19:PySem.W.nsIn K mainGlobals "number_read" = some (some (.ref f19))) (l19:K.lookup f19=some ⟨oc19,od19,.func (PySem.W.fnOf "number_read" "number_read" (defArgs zb9) (defBody zb9) (defScope zb9) .none kV19 dc19 pm19 an19 cd19 ct19),sl19⟩) (c19:PySem.W.codeIn K cd19 "number_read" = true) (k19:PySem.W.keepIn K (.ref f19)=true)
  (a20:PySem.W.nsIn K mainGlobals "ease_read" = some (some (.ref f20))) (l20:K.lookup f20=some ⟨oc20,od20,.func (PySem.W.fnOf "ease_read" "ease_read" (defArgs zby) (defBody zby) (defScope zby) .none kV20 dc20 pm20 an20 cd20 ct20),sl20⟩) (c20:PySem.W.codeIn K cd20 "ease_read" = true) (k20:PySem.W.keepIn K (.ref f20)=true)
  (a21:PySem.W.nsIn K mainGlobals "rope_read" = some (some (.ref f21))) (l21:K.lookup f21=some ⟨oc21,od21,.func (PySem.W.fnOf "rope_read" "rope_read" (defArgs zbu) (defBody zbu) (defScope zbu) .none kV21 dc21 pm21 an21 cd21 ct21),sl21⟩) (c21:PySem.W.codeIn K cd21 "rope_read" = true) (k21:PySem.W.keepIn K (.ref f21)=true)
  (a22:PySem.W.nsIn K mainGlobals "turn_read" = some (some (.ref f22))) (l22:K.lookup f22=some ⟨oc22,od22,.func (PySem.W.fnOf "turn_read" "turn_read" (defArgs zbt) (defBody zbt) (defScope zbt) .none kV22 dc22 pm22 an22 cd22 ct22),sl22⟩) (c22:PySem.W.codeIn K cd22 "turn_read" = true) (k22:PySem.W.keepIn K (.ref f22)=true)
  (a23:PySem.W.nsIn K mainGlobals "net_read" = some (some (.ref f23))) (l23:K.lookup f23=some ⟨oc23,od23,.func (PySem.W.fnOf "net_read" "net_read" (defArgs zc2) (defBody zc2) (defScope zc2) .none kV23 dc23 pm23 an23 cd23 ct23),sl23⟩) (c23:PySem.W.codeIn K cd23 "net_read" = true) (k23:PySem.W.keepIn K (.ref f23)=true)
  (a24:PySem.W.nsIn K mainGlobals "_law_cell_at" = some (some (.ref f24))) (l24:K.lookup f24=some ⟨oc24,od24,.func (PySem.W.fnOf "_law_cell_at" "_law_cell_at" (defArgs zba) (defBody zba) (defScope zba) .none kV24 dc24 pm24 an24 cd24 ct24),sl24⟩) (c24:PySem.W.codeIn K cd24 "_law_cell_at" = true) (k24:PySem.W.keepIn K (.ref f24)=true)
  (a25:PySem.W.nsIn K mainGlobals "_law_drawn" = some (some (.ref f25))) (l25:K.lookup f25=some ⟨oc25,od25,.func (PySem.W.fnOf "_law_drawn" "_law_drawn" (defArgs zbw) (defBody zbw) (defScope zbw) .none kV25 dc25 pm25 an25 cd25 ct25),sl25⟩) (c25:PySem.W.codeIn K cd25 "_law_drawn" = true) (k25:PySem.W.keepIn K (.ref f25)=true)
  (a26:PySem.W.nsIn K mainGlobals "_law_common" = some (some (.ref f26))) (l26:K.lookup f26=some ⟨oc26,od26,.func (PySem.W.fnOf "_law_common" "_law_common" (defArgs zbl) (defBody zbl) (defScope zbl) .none kV26 dc26 pm26 an26 cd26 ct26),sl26⟩) (c26:PySem.W.codeIn K cd26 "_law_common" = true) (k26:PySem.W.keepIn K (.ref f26)=true)
  (a27:PySem.W.nsIn K mainGlobals "_law_lowest" = some (some (.ref f27))) (l27:K.lookup f27=some ⟨oc27,od27,.func (PySem.W.fnOf "_law_lowest" "_law_lowest" (defArgs zbj) (defBody zbj) (defScope zbj) .none kV27 dc27 pm27 an27 cd27 ct27),sl27⟩) (c27:PySem.W.codeIn K cd27 "_law_lowest" = true) (k27:PySem.W.keepIn K (.ref f27)=true)
  (a28:PySem.W.nsIn K mainGlobals "_law_next" = some (some (.ref f28))) (l28:K.lookup f28=some ⟨oc28,od28,.func (PySem.W.fnOf "_law_next" "_law_next" (defArgs sNext) (defBody sNext) (defScope sNext) .none kV28 dc28 pm28 an28 cd28 ct28),sl28⟩) (c28:PySem.W.codeIn K cd28 "_law_next" = true) (k28:PySem.W.keepIn K (.ref f28)=true)
  (a29:PySem.W.nsIn K mainGlobals "_law_ring" = some (some (.ref f29))) (l29:K.lookup f29=some ⟨oc29,od29,.func (PySem.W.fnOf "_law_ring" "_law_ring" (defArgs zc5) (defBody zc5) (defScope zc5) .none kV29 dc29 pm29 an29 cd29 ct29),sl29⟩) (c29:PySem.W.codeIn K cd29 "_law_ring" = true) (k29:PySem.W.keepIn K (.ref f29)=true)
  (a30:PySem.W.nsIn K mainGlobals "_law_put_ahead" = some (some (.ref f30))) (l30:K.lookup f30=some ⟨oc30,od30,.func (PySem.W.fnOf "_law_put_ahead" "_law_put_ahead" (defArgs zax) (defBody zax) (defScope zax) .none kV30 dc30 pm30 an30 cd30 ct30),sl30⟩) (c30:PySem.W.codeIn K cd30 "_law_put_ahead" = true) (k30:PySem.W.keepIn K (.ref f30)=true)
  (a31:PySem.W.nsIn K mainGlobals "_law_one_more" = some (some (.ref f31))) (l31:K.lookup f31=some ⟨oc31,od31,.func (PySem.W.fnOf "_law_one_more" "_law_one_more" (defArgs zb4) (defBody zb4) (defScope zb4) .none kV31 dc31 pm31 an31 cd31 ct31),sl31⟩) (c31:PySem.W.codeIn K cd31 "_law_one_more" = true) (k31:PySem.W.keepIn K (.ref f31)=true)
  (a32:PySem.W.nsIn K mainGlobals "_law_ease" = some (some (.ref f32))) (l32:K.lookup f32=some ⟨oc32,od32,.func (PySem.W.fnOf "_law_ease" "_law_ease" (defArgs sLEase) (defBody sLEase) (defScope sLEase) .none kV32 dc32 pm32 an32 cd32 ct32),sl32⟩) (c32:PySem.W.codeIn K cd32 "_law_ease" = true) (k32:PySem.W.keepIn K (.ref f32)=true)
  (a33:PySem.W.nsIn K mainGlobals "_law_grown" = some (some (.ref f33))) (l33:K.lookup f33=some ⟨oc33,od33,.func (PySem.W.fnOf "_law_grown" "_law_grown" (defArgs zbv) (defBody zbv) (defScope zbv) .none kV33 dc33 pm33 an33 cd33 ct33),sl33⟩) (c33:PySem.W.codeIn K cd33 "_law_grown" = true) (k33:PySem.W.keepIn K (.ref f33)=true)
  (a34:PySem.W.nsIn K mainGlobals "_law_said" = some (some (.ref f34))) (l34:K.lookup f34=some ⟨oc34,od34,.func (PySem.W.fnOf "_law_said" "_law_said" (defArgs zc4) (defBody zc4) (defScope zc4) .none kV34 dc34 pm34 an34 cd34 ct34),sl34⟩) (c34:PySem.W.codeIn K cd34 "_law_said" = true) (k34:PySem.W.keepIn K (.ref f34)=true)
  (a35:PySem.W.nsIn K mainGlobals "_law_bad" = some (some (.ref f35))) (l35:K.lookup f35=some ⟨oc35,od35,.func (PySem.W.fnOf "_law_bad" "_law_bad" (defArgs zcl) (defBody zcl) (defScope zcl) .none kV35 dc35 pm35 an35 cd35 ct35),sl35⟩) (c35:PySem.W.codeIn K cd35 "_law_bad" = true) (k35:PySem.W.keepIn K (.ref f35)=true)
  (a36:PySem.W.nsIn K mainGlobals "_law_spoilt" = some (some (.ref f36))) (l36:K.lookup f36=some ⟨oc36,od36,.func (PySem.W.fnOf "_law_spoilt" "_law_spoilt" (defArgs zbi) (defBody zbi) (defScope zbi) .none kV36 dc36 pm36 an36 cd36 ct36),sl36⟩) (c36:PySem.W.codeIn K cd36 "_law_spoilt" = true) (k36:PySem.W.keepIn K (.ref f36)=true)
  (a37:PySem.W.nsIn K mainGlobals "_law_joined" = some (some (.ref f37))) (l37:K.lookup f37=some ⟨oc37,od37,.func (PySem.W.fnOf "_law_joined" "_law_joined" (defArgs zbk) (defBody zbk) (defScope zbk) .none kV37 dc37 pm37 an37 cd37 ct37),sl37⟩) (c37:PySem.W.codeIn K cd37 "_law_joined" = true) (k37:PySem.W.keepIn K (.ref f37)=true)
  (a38:PySem.W.nsIn K mainGlobals "_law_well" = some (some (.ref f38))) (l38:K.lookup f38=some ⟨oc38,od38,.func (PySem.W.fnOf "_law_well" "_law_well" (defArgs zc3) (defBody zc3) (defScope zc3) .none kV38 dc38 pm38 an38 cd38 ct38),sl38⟩) (c38:PySem.W.codeIn K cd38 "_law_well" = true) (k38:PySem.W.keepIn K (.ref f38)=true)
  (a39:PySem.W.nsIn K mainGlobals "law" = some (some (.ref f39))) (l39:K.lookup f39=some ⟨oc39,od39,.func (PySem.W.fnOf "law" "law" (defArgs sLaw) (defBody sLaw) (defScope sLaw) .none kV39 dc39 pm39 an39 cd39 ct39),sl39⟩) (c39:PySem.W.codeIn K cd39 "law" = true) (k39:PySem.W.keepIn K (.ref f39)=true)
  (a40:PySem.W.findIn K (.ref CP) "__init__" = some (some (.ref f40))) (i40:PySem.W.isFn K (.ref f40)=true) (l40:K.lookup f40=some ⟨oc40,od40,.func (PySem.W.fnOf "__init__" "NoText.__init__" (defArgs sNXInit) (defBody sNXInit) (defScope sNXInit) .none kV40 dc40 pm40 an40 cd40 ct40),sl40⟩) (c40:PySem.W.codeIn K cd40 "NoText.__init__" = true) (k40:PySem.W.keepIn K (.ref f40)=true)
  (a41:PySem.W.findIn K (.ref CN) "__init__" = some (some (.ref f41))) (i41:PySem.W.isFn K (.ref f41)=true) (l41:K.lookup f41=some ⟨oc41,od41,.func (PySem.W.fnOf "__init__" "NoNet.__init__" (defArgs sNNInit) (defBody sNNInit) (defScope sNNInit) .none kV41 dc41 pm41 an41 cd41 ct41),sl41⟩) (c41:PySem.W.codeIn K cd41 "NoNet.__init__" = true) (k41:PySem.W.keepIn K (.ref f41)=true)
  (a42:PySem.W.findIn K (.ref CR) "__init__" = some (some (.ref f42))) (i42:PySem.W.isFn K (.ref f42)=true) (l42:K.lookup f42=some ⟨oc42,od42,.func (PySem.W.fnOf "__init__" "NoRope.__init__" (defArgs sNRInit) (defBody sNRInit) (defScope sNRInit) .none kV42 dc42 pm42 an42 cd42 ct42),sl42⟩) (c42:PySem.W.codeIn K cd42 "NoRope.__init__" = true) (k42:PySem.W.keepIn K (.ref f42)=true)
  (a43:PySem.W.findIn K (.ref CT) "__init__" = some (some (.ref f43))) (i43:PySem.W.isFn K (.ref f43)=true) (l43:K.lookup f43=some ⟨oc43,od43,.func (PySem.W.fnOf "__init__" "NoTurn.__init__" (defArgs sNTInit) (defBody sNTInit) (defScope sNTInit) .none kV43 dc43 pm43 an43 cd43 ct43),sl43⟩) (c43:PySem.W.codeIn K cd43 "NoTurn.__init__" = true) (k43:PySem.W.keepIn K (.ref f43)=true)
  (a44:PySem.W.findIn K (.ref CL) "__init__" = some (some (.ref f44))) (i44:PySem.W.isFn K (.ref f44)=true) (l44:K.lookup f44=some ⟨oc44,od44,.func (PySem.W.fnOf "__init__" "Loose.__init__" (defArgs sLoInit) (defBody sLoInit) (defScope sLoInit) .none kV44 dc44 pm44 an44 cd44 ct44),sl44⟩) (c44:PySem.W.codeIn K cd44 "Loose.__init__" = true) (k44:PySem.W.keepIn K (.ref f44)=true)
  (a45:PySem.W.findIn K (.ref CX) "__init__" = some (some (.ref f45))) (i45:PySem.W.isFn K (.ref f45)=true) (l45:K.lookup f45=some ⟨oc45,od45,.func (PySem.W.fnOf "__init__" "NotFlat.__init__" (defArgs sNFInit) (defBody sNFInit) (defScope sNFInit) .none kV45 dc45 pm45 an45 cd45 ct45),sl45⟩) (c45:PySem.W.codeIn K cd45 "NotFlat.__init__" = true) (k45:PySem.W.keepIn K (.ref f45)=true)
  (aCF:PySem.W.nsIn K mainGlobals "FloorError" = some (some (.ref CF)))
  (aCP:PySem.W.nsIn K mainGlobals "NoText" = some (some (.ref CP)))
  (aCN:PySem.W.nsIn K mainGlobals "NoNet" = some (some (.ref CN)))
  (aCR:PySem.W.nsIn K mainGlobals "NoRope" = some (some (.ref CR)))
  (aCT:PySem.W.nsIn K mainGlobals "NoTurn" = some (some (.ref CT)))
  (aCL:PySem.W.nsIn K mainGlobals "Loose" = some (some (.ref CL)))
  (aCX:PySem.W.nsIn K mainGlobals "NotFlat" = some (some (.ref CX)))
  (xP:L2.excI K CP [.type "ValueError",.type "Exception",.type "BaseException",.type "object"] "ValueError.__new__" f40=true)
  (eP:PySem.W.exmOne K (.ref CP) (.ref CF)=some true)
  (xN:L2.excI K CN [.type "ValueError",.type "Exception",.type "BaseException",.type "object"] "ValueError.__new__" f41=true)
  (eN:PySem.W.exmOne K (.ref CN) (.ref CF)=some true)
  (xR:L2.excI K CR [.type "ValueError",.type "Exception",.type "BaseException",.type "object"] "ValueError.__new__" f42=true)
  (eR:PySem.W.exmOne K (.ref CR) (.ref CF)=some true)
  (xT:L2.excI K CT [.type "ValueError",.type "Exception",.type "BaseException",.type "object"] "ValueError.__new__" f43=true)
  (eT:PySem.W.exmOne K (.ref CT) (.ref CF)=some true)
  (xL:L2.excI K CL [.type "ValueError",.type "Exception",.type "BaseException",.type "object"] "ValueError.__new__" f44=true)
  (eL:PySem.W.exmOne K (.ref CL) (.ref CF)=some true)
  (xX:L2.excI K CX [.type "ValueError",.type "Exception",.type "BaseException",.type "object"] "ValueError.__new__" f45=true)
  (eX:PySem.W.exmOne K (.ref CX) (.ref CF)=some true)
  (sP1:PySem.W.findIn K (.ref CP) "__setattr__" = some (some (.builtin "object.__setattr__")))
  (sP2:L2.exIn K CP=true)
  (sP_part:PySem.W.findIn K (.ref CP) "part" = some none)
  (yPP:PySem.W.kitOne K (.ref CP) (.ref CP)=some true)
  (yPN:PySem.W.kitOne K (.ref CP) (.ref CN)=some false)
  (yPR:PySem.W.kitOne K (.ref CP) (.ref CR)=some false)
  (yPT:PySem.W.kitOne K (.ref CP) (.ref CT)=some false)
  (yPL:PySem.W.kitOne K (.ref CP) (.ref CL)=some false)
  (yPX:PySem.W.kitOne K (.ref CP) (.ref CX)=some false)
  (gP1:PySem.W.findIn K (.ref CP) "__getattribute__" = some (some (.builtin "BaseException.__getattribute__")))
  (gP2:PySem.W.findIn K (.ref CP) "__getattr__" = some none)
  (gP3:PySem.W.findIn K (.ref CP) "__class__" = some (some (.builtin "object.__class__")))
  (gP6:PySem.W.mroIn K CP (.type "object")=some true)
  (gP7:PySem.W.mroIn K CP (.type "BaseException")=some true)
  (gP8:(PySem.W.clsIn K CP).isSome=true)
  (gP9:((PySem.W.clsIn K CP).any fun cd=>cd.hasDict)=true)
  (sN1:PySem.W.findIn K (.ref CN) "__setattr__" = some (some (.builtin "object.__setattr__")))
  (sN2:L2.exIn K CN=true)
  (sN_word:PySem.W.findIn K (.ref CN) "word" = some none)
  (yNP:PySem.W.kitOne K (.ref CN) (.ref CP)=some false)
  (yNN:PySem.W.kitOne K (.ref CN) (.ref CN)=some true)
  (yNR:PySem.W.kitOne K (.ref CN) (.ref CR)=some false)
  (yNT:PySem.W.kitOne K (.ref CN) (.ref CT)=some false)
  (yNL:PySem.W.kitOne K (.ref CN) (.ref CL)=some false)
  (yNX:PySem.W.kitOne K (.ref CN) (.ref CX)=some false)
  (gN1:PySem.W.findIn K (.ref CN) "__getattribute__" = some (some (.builtin "BaseException.__getattribute__")))
  (gN2:PySem.W.findIn K (.ref CN) "__getattr__" = some none)
  (gN3:PySem.W.findIn K (.ref CN) "__class__" = some (some (.builtin "object.__class__")))
  (gN6:PySem.W.mroIn K CN (.type "object")=some true)
  (gN7:PySem.W.mroIn K CN (.type "BaseException")=some true)
  (gN8:(PySem.W.clsIn K CN).isSome=true)
  (gN9:((PySem.W.clsIn K CN).any fun cd=>cd.hasDict)=true)
  (sR1:PySem.W.findIn K (.ref CR) "__setattr__" = some (some (.builtin "object.__setattr__")))
  (sR2:L2.exIn K CR=true)
  (sR_rope:PySem.W.findIn K (.ref CR) "rope" = some none)
  (sR_word:PySem.W.findIn K (.ref CR) "word" = some none)
  (yRP:PySem.W.kitOne K (.ref CR) (.ref CP)=some false)
  (yRN:PySem.W.kitOne K (.ref CR) (.ref CN)=some false)
  (yRR:PySem.W.kitOne K (.ref CR) (.ref CR)=some true)
  (yRT:PySem.W.kitOne K (.ref CR) (.ref CT)=some false)
  (yRL:PySem.W.kitOne K (.ref CR) (.ref CL)=some false)
  (yRX:PySem.W.kitOne K (.ref CR) (.ref CX)=some false)
  (gR1:PySem.W.findIn K (.ref CR) "__getattribute__" = some (some (.builtin "BaseException.__getattribute__")))
  (gR2:PySem.W.findIn K (.ref CR) "__getattr__" = some none)
  (gR3:PySem.W.findIn K (.ref CR) "__class__" = some (some (.builtin "object.__class__")))
  (gR6:PySem.W.mroIn K CR (.type "object")=some true)
  (gR7:PySem.W.mroIn K CR (.type "BaseException")=some true)
  (gR8:(PySem.W.clsIn K CR).isSome=true)
  (gR9:((PySem.W.clsIn K CR).any fun cd=>cd.hasDict)=true)
  (sT1:PySem.W.findIn K (.ref CT) "__setattr__" = some (some (.builtin "object.__setattr__")))
  (sT2:L2.exIn K CT=true)
  (sT_place:PySem.W.findIn K (.ref CT) "place" = some none)
  (yTP:PySem.W.kitOne K (.ref CT) (.ref CP)=some false)
  (yTN:PySem.W.kitOne K (.ref CT) (.ref CN)=some false)
  (yTR:PySem.W.kitOne K (.ref CT) (.ref CR)=some false)
  (yTT:PySem.W.kitOne K (.ref CT) (.ref CT)=some true)
  (yTL:PySem.W.kitOne K (.ref CT) (.ref CL)=some false)
  (yTX:PySem.W.kitOne K (.ref CT) (.ref CX)=some false)
  (gT1:PySem.W.findIn K (.ref CT) "__getattribute__" = some (some (.builtin "BaseException.__getattribute__")))
  (gT2:PySem.W.findIn K (.ref CT) "__getattr__" = some none)
  (gT3:PySem.W.findIn K (.ref CT) "__class__" = some (some (.builtin "object.__class__")))
  (gT6:PySem.W.mroIn K CT (.type "object")=some true)
  (gT7:PySem.W.mroIn K CT (.type "BaseException")=some true)
  (gT8:(PySem.W.clsIn K CT).isSome=true)
  (gT9:((PySem.W.clsIn K CT).any fun cd=>cd.hasDict)=true)
  (sL1:PySem.W.findIn K (.ref CL) "__setattr__" = some (some (.builtin "object.__setattr__")))
  (sL2:L2.exIn K CL=true)
  (sL_place:PySem.W.findIn K (.ref CL) "place" = some none)
  (yLP:PySem.W.kitOne K (.ref CL) (.ref CP)=some false)
  (yLN:PySem.W.kitOne K (.ref CL) (.ref CN)=some false)
  (yLR:PySem.W.kitOne K (.ref CL) (.ref CR)=some false)
  (yLT:PySem.W.kitOne K (.ref CL) (.ref CT)=some false)
  (yLL:PySem.W.kitOne K (.ref CL) (.ref CL)=some true)
  (yLX:PySem.W.kitOne K (.ref CL) (.ref CX)=some false)
  (gL1:PySem.W.findIn K (.ref CL) "__getattribute__" = some (some (.builtin "BaseException.__getattribute__")))
  (gL2:PySem.W.findIn K (.ref CL) "__getattr__" = some none)
  (gL3:PySem.W.findIn K (.ref CL) "__class__" = some (some (.builtin "object.__class__")))
  (gL6:PySem.W.mroIn K CL (.type "object")=some true)
  (gL7:PySem.W.mroIn K CL (.type "BaseException")=some true)
  (gL8:(PySem.W.clsIn K CL).isSome=true)
  (gL9:((PySem.W.clsIn K CL).any fun cd=>cd.hasDict)=true)
  (sX1:PySem.W.findIn K (.ref CX) "__setattr__" = some (some (.builtin "object.__setattr__")))
  (sX2:L2.exIn K CX=true)
  (sX_lands:PySem.W.findIn K (.ref CX) "lands" = some none)
  (yXP:PySem.W.kitOne K (.ref CX) (.ref CP)=some false)
  (yXN:PySem.W.kitOne K (.ref CX) (.ref CN)=some false)
  (yXR:PySem.W.kitOne K (.ref CX) (.ref CR)=some false)
  (yXT:PySem.W.kitOne K (.ref CX) (.ref CT)=some false)
  (yXL:PySem.W.kitOne K (.ref CX) (.ref CL)=some false)
  (yXX:PySem.W.kitOne K (.ref CX) (.ref CX)=some true)
  (gX1:PySem.W.findIn K (.ref CX) "__getattribute__" = some (some (.builtin "BaseException.__getattribute__")))
  (gX2:PySem.W.findIn K (.ref CX) "__getattr__" = some none)
  (gX3:PySem.W.findIn K (.ref CX) "__class__" = some (some (.builtin "object.__class__")))
  (gX6:PySem.W.mroIn K CX (.type "object")=some true)
  (gX7:PySem.W.mroIn K CX (.type "BaseException")=some true)
  (gX8:(PySem.W.clsIn K CX).isSome=true)
  (gX9:((PySem.W.clsIn K CX).any fun cd=>cd.hasDict)=true)
  (g4:PySem.W.specialIn K (.builtin "object.__class__") "__get__" = some (some (.builtin "getset_descriptor.__get__")))
  (g5:PySem.W.takesIn K (.builtin "object.__class__")=some true)
  (xcd:cd39=.ref c07)
  (xkt:K.lookup T07=none)
  (xhd:PySem.W.codeHdIn K c07 T07=true)
  (z_abs:PySem.W.nsIn K mainGlobals "abs" = some none)
  (z_len:PySem.W.nsIn K mainGlobals "len" = some none)
  (z_range:PySem.W.nsIn K mainGlobals "range" = some none)
  (z_list:PySem.W.nsIn K mainGlobals "list" = some none)
  (z_tuple:PySem.W.nsIn K mainGlobals "tuple" = some none)
  (z_enumerate:PySem.W.nsIn K mainGlobals "enumerate" = some none)
  (z_min:PySem.W.nsIn K mainGlobals "min" = some none)
  (z_max:PySem.W.nsIn K mainGlobals "max" = some none)
  (z_sorted:PySem.W.nsIn K mainGlobals "sorted" = some none)
  (z_isinstance:PySem.W.nsIn K mainGlobals "isinstance" = some none)
  (z_int:PySem.W.nsIn K mainGlobals "int" = some none)
  (z_str:PySem.W.nsIn K mainGlobals "str" = some none)
  : ∃fd:FuncData,(∀(s:Shared) (v:Value),BindsTo s fd ⟨[v],[]⟩ [("_law_script",v)])/\K.lookup T07=none/\(∃c,PySem.W.codeHdIn K c T07=true)/\∀base:Heap,K.In base->base.Ns mainGlobals mg->BMain mg base->FnOk l.prog w K mg base CX0 9 fa fd ["_law_script"] (spLaw T07 K):=by
 have e:=hfa.symm.trans (PySem.W.mg_of X G a39);cases e;have F1:=zah (st:=sCommon) l1 c1 k1;have b1:=F1.binds (ps:=["one","other"]) fun _ _ _ _ _ _ us hl=>by obtain⟨_,_,rfl⟩:=zcy hl; rfl
 have m1:=PySem.W.mg_of X G a1;have F2:=zah (st:=sFraction) l2 c2 k2;have b2:=F2.binds (ps:=["top","bottom"]) fun _ _ _ _ _ _ us hl=>by obtain⟨_,_,rfl⟩:=zcy hl; rfl
 have m2:=PySem.W.mg_of X G a2;have F3:=zah (st:=sOther) l3 c3 k3;have b3:=F3.binds (ps:=["end"]) fun _ _ _ _ _ _ us hl=>by obtain⟨_,rfl⟩:=ze7 hl; rfl
 have m3:=PySem.W.mg_of X G a3;have F4:=zah (st:=sAhead) l4 c4 k4;have b4:=F4.binds (ps:=["turns"]) fun _ _ _ _ _ _ us hl=>by obtain⟨_,rfl⟩:=ze7 hl; rfl
 have m4:=PySem.W.mg_of X G a4;have F5:=zah (st:=sRingFrom) l5 c5 k5;have b5:=F5.binds (ps:=["start","ahead"]) fun _ _ _ _ _ _ us hl=>by obtain⟨_,_,rfl⟩:=zcy hl; rfl
 have m5:=PySem.W.mg_of X G a5;have F6:=zah (st:=sRings) l6 c6 k6;have b6:=F6.binds (ps:=["turns"]) fun _ _ _ _ _ _ us hl=>by obtain⟨_,rfl⟩:=ze7 hl; rfl
 have m6:=PySem.W.mg_of X G a6;have F7:=zah (st:=zcm) l7 c7 k7;have b7:=F7.binds (ps:=["ease"]) fun _ _ _ _ _ _ us hl=>by obtain⟨_,rfl⟩:=ze7 hl; rfl
 have m7:=PySem.W.mg_of X G a7;have F8:=zah (st:=zay) l8 c8 k8;have b8:=F8.binds (ps:=["places","ropes"]) fun _ _ _ _ _ _ us hl=>by obtain⟨_,_,rfl⟩:=zcy hl; rfl
 have m8:=PySem.W.mg_of X G a8;have F9:=zah (st:=zbm) l9 c9 k9;have b9:=F9.binds (ps:=["places","number","rope"]) fun _ _ _ _ _ _ us hl=>by obtain⟨_,_,_,rfl⟩:=zfa hl; rfl
 have m9:=PySem.W.mg_of X G a9;have F10:=zah (st:=zcn) l10 c10 k10;have b10:=F10.binds (ps:=["places","ropes"]) fun _ _ _ _ _ _ us hl=>by obtain⟨_,_,rfl⟩:=zcy hl; rfl
 have m10:=PySem.W.mg_of X G a10;have F11:=zah (st:=zbb) l11 c11 k11;have b11:=F11.binds (ps:=["places","ropes","turns"]) fun _ _ _ _ _ _ us hl=>by obtain⟨_,_,_,rfl⟩:=zfa hl; rfl
 have m11:=PySem.W.mg_of X G a11;have F12:=zah (st:=zde) l12 c12 k12;have b12:=F12.binds (ps:=["start","ropes"]) fun _ _ _ _ _ _ us hl=>by obtain⟨_,_,rfl⟩:=zcy hl; rfl
 have m12:=PySem.W.mg_of X G a12;have F13:=zah (st:=zaz) l13 c13 k13;have b13:=F13.binds (ps:=["places","ropes"]) fun _ _ _ _ _ _ us hl=>by obtain⟨_,_,rfl⟩:=zcy hl; rfl
 have m13:=PySem.W.mg_of X G a13;have F14:=zah (st:=zbn) l14 c14 k14;have b14:=F14.binds (ps:=["places","ropes","turns"]) fun _ _ _ _ _ _ us hl=>by obtain⟨_,_,_,rfl⟩:=zfa hl; rfl
 have m14:=PySem.W.mg_of X G a14;have F15:=zah (st:=zbc) l15 c15 k15;have b15:=F15.binds (ps:=["turn"]) fun _ _ _ _ _ _ us hl=>by obtain⟨_,rfl⟩:=ze7 hl; rfl
 have m15:=PySem.W.mg_of X G a15;have F16:=zah (st:=zbh) l16 c16 k16;have b16:=F16.binds (ps:=["turns"]) fun _ _ _ _ _ _ us hl=>by obtain⟨_,rfl⟩:=ze7 hl; rfl
 have m16:=PySem.W.mg_of X G a16;have F17:=zah (st:=zco) l17 c17 k17;have b17:=F17.binds (ps:=["places","ropes","turns"]) fun _ _ _ _ _ _ us hl=>by obtain⟨_,_,_,rfl⟩:=zfa hl; rfl
 have m17:=PySem.W.mg_of X G a17;have F18:=zah (st:=zbx) l18 c18 k18;have b18:=F18.binds (ps:=["text","most"]) fun _ _ _ _ _ _ us hl=>by obtain⟨_,_,rfl⟩:=zcy hl; rfl
 have m18:=PySem.W.mg_of X G a18;have F19:=zah (st:=zb9) l19 c19 k19;have b19:=F19.binds (ps:=["text","most","part"]) fun _ _ _ _ _ _ us hl=>by obtain⟨_,_,_,rfl⟩:=zfa hl; rfl
 have m19:=PySem.W.mg_of X G a19;have F20:=zah (st:=zby) l20 c20 k20;have b20:=F20.binds (ps:=["text"]) fun _ _ _ _ _ _ us hl=>by obtain⟨_,rfl⟩:=ze7 hl; rfl
 have m20:=PySem.W.mg_of X G a20;have F21:=zah (st:=zbu) l21 c21 k21;have b21:=F21.binds (ps:=["text"]) fun _ _ _ _ _ _ us hl=>by obtain⟨_,rfl⟩:=ze7 hl; rfl
 have m21:=PySem.W.mg_of X G a21;have F22:=zah (st:=zbt) l22 c22 k22;have b22:=F22.binds (ps:=["text"]) fun _ _ _ _ _ _ us hl=>by obtain⟨_,rfl⟩:=ze7 hl; rfl
 have m22:=PySem.W.mg_of X G a22;have F23:=zah (st:=zc2) l23 c23 k23;have b23:=F23.binds (ps:=["text"]) fun _ _ _ _ _ _ us hl=>by obtain⟨_,rfl⟩:=ze7 hl; rfl
 have m23:=PySem.W.mg_of X G a23;have F24:=zah (st:=zba) l24 c24 k24;have b24:=F24.binds (ps:=["_law_script","_law_k"]) fun _ _ _ _ _ _ us hl=>by obtain⟨_,_,rfl⟩:=zcy hl; rfl
 have m24:=PySem.W.mg_of X G a24;have F25:=zah (st:=zbw) l25 c25 k25;have b25:=F25.binds (ps:=["_law_script","_law_k"]) fun _ _ _ _ _ _ us hl=>by obtain⟨_,_,rfl⟩:=zcy hl; rfl
 have m25:=PySem.W.mg_of X G a25;have F26:=zah (st:=zbl) l26 c26 k26;have b26:=F26.binds (ps:=["_law_one","_law_other"]) fun _ _ _ _ _ _ us hl=>by obtain⟨_,_,rfl⟩:=zcy hl; rfl
 have m26:=PySem.W.mg_of X G a26;have F27:=zah (st:=zbj) l27 c27 k27;have b27:=F27.binds (ps:=["_law_top","_law_bottom"]) fun _ _ _ _ _ _ us hl=>by obtain⟨_,_,rfl⟩:=zcy hl; rfl
 have m27:=PySem.W.mg_of X G a27;have F28:=zah (st:=sNext) l28 c28 k28;have b28:=F28.binds (ps:=["_law_turns","_law_homes","_law_end"]) fun _ _ _ _ _ _ us hl=>by obtain⟨_,_,_,rfl⟩:=zfa hl; rfl
 have m28:=PySem.W.mg_of X G a28;have F29:=zah (st:=zc5) l29 c29 k29;have b29:=F29.binds (ps:=["_law_turns","_law_homes","_law_start"]) fun _ _ _ _ _ _ us hl=>by obtain⟨_,_,_,rfl⟩:=zfa hl; rfl
 have m29:=PySem.W.mg_of X G a29;have F30:=zah (st:=zax) l30 c30 k30;have b30:=F30.binds (ps:=["_law_turns","_law_homes","_law_spot","_law_end"]) fun _ _ _ _ _ _ us hl=>by obtain⟨_,_,_,_,rfl⟩:=len_4 hl; rfl
 have m30:=PySem.W.mg_of X G a30;have F31:=zah (st:=zb4) l31 c31 k31;have b31:=F31.binds (ps:=["_law_turns","_law_homes","_law_cell"]) fun _ _ _ _ _ _ us hl=>by obtain⟨_,_,_,rfl⟩:=zfa hl; rfl
 have m31:=PySem.W.mg_of X G a31;have F32:=zah (st:=sLEase) l32 c32 k32;have b32:=F32.binds (ps:=["_law_cell"]) fun _ _ _ _ _ _ us hl=>by obtain⟨_,rfl⟩:=ze7 hl; rfl
 have m32:=PySem.W.mg_of X G a32;have F33:=zah (st:=zbv) l33 c33 k33;have b33:=F33.binds (ps:=["_law_script","_law_start","_law_many"]) fun _ _ _ _ _ _ us hl=>by obtain⟨_,_,_,rfl⟩:=zfa hl; rfl
 have m33:=PySem.W.mg_of X G a33;have F34:=zah (st:=zc4) l34 c34 k34;have b34:=F34.binds (ps:=["_law_ask"]) fun _ _ _ _ _ _ us hl=>by obtain⟨_,rfl⟩:=ze7 hl; rfl
 have m34:=PySem.W.mg_of X G a34;have F35:=zah (st:=zcl) l35 c35 k35;have b35:=F35.binds (ps:=["_law_part","_law_cell"]) fun _ _ _ _ _ _ us hl=>by obtain⟨_,_,rfl⟩:=zcy hl; rfl
 have m35:=PySem.W.mg_of X G a35;have F36:=zah (st:=zbi) l36 c36 k36;have b36:=F36.binds (ps:=["_law_rows","_law_part","_law_cell"]) fun _ _ _ _ _ _ us hl=>by obtain⟨_,_,_,rfl⟩:=zfa hl; rfl
 have m36:=PySem.W.mg_of X G a36;have F37:=zah (st:=zbk) l37 c37 k37;have b37:=F37.binds (ps:=["_law_rows"]) fun _ _ _ _ _ _ us hl=>by obtain⟨_,rfl⟩:=ze7 hl; rfl
 have m37:=PySem.W.mg_of X G a37;have F38:=zah (st:=zc3) l38 c38 k38;have b38:=F38.binds (ps:=["_law_net","_law_cell"]) fun _ _ _ _ _ _ us hl=>by obtain⟨_,_,rfl⟩:=zcy hl; rfl
 have m38:=PySem.W.mg_of X G a38;have F39:=zah (st:=sLaw) l39 c39 k39;have F40:=zah (st:=sNXInit) l40 c40 k40;have b40:=F40.binds (ps:=["self","part"]) fun _ _ _ _ _ _ us hl=>by obtain⟨_,_,rfl⟩:=zcy hl; rfl
 have F41:=zah (st:=sNNInit) l41 c41 k41;have b41:=F41.binds (ps:=["self","word"]) fun _ _ _ _ _ _ us hl=>by obtain⟨_,_,rfl⟩:=zcy hl; rfl
 have F42:=zah (st:=sNRInit) l42 c42 k42;have b42:=F42.binds (ps:=["self","rope","word"]) fun _ _ _ _ _ _ us hl=>by obtain⟨_,_,_,rfl⟩:=zfa hl; rfl
 have F43:=zah (st:=sNTInit) l43 c43 k43;have b43:=F43.binds (ps:=["self","place"]) fun _ _ _ _ _ _ us hl=>by obtain⟨_,_,rfl⟩:=zcy hl; rfl
 have F44:=zah (st:=sLoInit) l44 c44 k44;have b44:=F44.binds (ps:=["self","place"]) fun _ _ _ _ _ _ us hl=>by obtain⟨_,_,rfl⟩:=zcy hl; rfl
 have F45:=zah (st:=sNFInit) l45 c45 k45;have b45:=F45.binds (ps:=["self","lands"]) fun _ _ _ _ _ _ us hl=>by obtain⟨_,_,rfl⟩:=zcy hl; rfl
 have mCF:=PySem.W.mg_of X G aCF;have mCP:=PySem.W.mg_of X G aCP;have mCN:=PySem.W.mg_of X G aCN;have mCR:=PySem.W.mg_of X G aCR;have mCT:=PySem.W.mg_of X G aCT;have mCL:=PySem.W.mg_of X G aCL;have mCX:=PySem.W.mg_of X G aCX;have SP_part:L2.XStore K CP "part":=⟨sP1,sP2,sP_part⟩;have GP_part:L2.XGet K CP "part":=⟨⟨gP1,gP2,gP3,g4,g5,gP6,gP7,gP8⟩,sP_part,gP9⟩;have KP:Kits K CP CP CN CR CT CL CX true false false false false false:=⟨yPP,yPN,yPR,yPT,yPL,yPX⟩;have SN_word:L2.XStore K CN "word":=⟨sN1,sN2,sN_word⟩;have GN_word:L2.XGet K CN "word":=⟨⟨gN1,gN2,gN3,g4,g5,gN6,gN7,gN8⟩,sN_word,gN9⟩;have KN:Kits K CN CP CN CR CT CL CX false true false false false false:=⟨yNP,yNN,yNR,yNT,yNL,yNX⟩;have SR_rope:L2.XStore K CR "rope":=⟨sR1,sR2,sR_rope⟩;have GR_rope:L2.XGet K CR "rope":=⟨⟨gR1,gR2,gR3,g4,g5,gR6,gR7,gR8⟩,sR_rope,gR9⟩;have SR_word:L2.XStore K CR "word":=⟨sR1,sR2,sR_word⟩;have GR_word:L2.XGet K CR "word":=⟨⟨gR1,gR2,gR3,g4,g5,gR6,gR7,gR8⟩,sR_word,gR9⟩;have KR:Kits K CR CP CN CR CT CL CX false false true false false false:=⟨yRP,yRN,yRR,yRT,yRL,yRX⟩;have ST_place:L2.XStore K CT "place":=⟨sT1,sT2,sT_place⟩;have GT_place:L2.XGet K CT "place":=⟨⟨gT1,gT2,gT3,g4,g5,gT6,gT7,gT8⟩,sT_place,gT9⟩;have KT:Kits K CT CP CN CR CT CL CX false false false true false false:=⟨yTP,yTN,yTR,yTT,yTL,yTX⟩;have SL_place:L2.XStore K CL "place":=⟨sL1,sL2,sL_place⟩;have GL_place:L2.XGet K CL "place":=⟨⟨gL1,gL2,gL3,g4,g5,gL6,gL7,gL8⟩,sL_place,gL9⟩;have KL:Kits K CL CP CN CR CT CL CX false false false false true false:=⟨yLP,yLN,yLR,yLT,yLL,yLX⟩;have SX_lands:L2.XStore K CX "lands":=⟨sX1,sX2,sX_lands⟩;have GX_lands:L2.XGet K CX "lands":=⟨⟨gX1,gX2,gX3,g4,g5,gX6,gX7,gX8⟩,sX_lands,gX9⟩;have KX:Kits K CX CP CN CR CT CL CX false false false false false true:=⟨yXP,yXN,yXR,yXT,yXL,yXX⟩;have m_abs:=PySem.W.mg_none_of X G z_abs;have m_len:=PySem.W.mg_none_of X G z_len;have m_range:=PySem.W.mg_none_of X G z_range;have m_list:=PySem.W.mg_none_of X G z_list;have m_tuple:=PySem.W.mg_none_of X G z_tuple;have m_enumerate:=PySem.W.mg_none_of X G z_enumerate;have m_min:=PySem.W.mg_none_of X G z_min;have m_max:=PySem.W.mg_none_of X G z_max;have m_sorted:=PySem.W.mg_none_of X G z_sorted;have m_isinstance:=PySem.W.mg_none_of X G z_isinstance;have m_int:=PySem.W.mg_none_of X G z_int;have m_str:=PySem.W.mg_none_of X G z_str;refine⟨PySem.W.fnOf "law" "law" (defArgs sLaw) (defBody sLaw) (defScope sLaw) .none kV39 dc39 pm39 an39 cd39 ct39,fun s v=>.of_eq rfl,xkt,⟨_,xhd⟩,fun base X' _ hB=>?_⟩;have hC:=PySem.W.codeHd_of_K X' xhd;have O1:FnOk l.prog w K mg base CX0 1 f1 _ ["one","other"] spGcd:=zm2 F1   m_abs;have O2:FnOk l.prog w K mg base CX0 2 f2 _ ["top","bottom"] spLow:=zp1 F2  O1 b1 k1 m1;have O3:FnOk l.prog w K mg base CX0 1 f3 _ ["end"] spOth:=zow F3;have O4:FnOk l.prog w K mg base CX0 1 f4 _ ["turns"] spAhead:=zp4 F4   m_enumerate;have O5:FnOk l.prog w K mg base CX0 2 f5 _ ["start","ahead"] spRing:=zio F5  O3 b3 k3 m3 m_tuple;have O6:FnOk l.prog w K mg base CX0 3 f6 _ ["turns"] spRings:=zov F6  O4 b4 k4 m4 O5 b5 k5 m5 m_len m_range m_tuple;have O7:FnOk l.prog w K mg base CX0 2 f7 _ ["ease"] spIsX:=ok_isX F7  O1 b1 k1 m1 m_len;have O40:FnOk l.prog w K mg base CX0 1 f40 _ ["self","part"] (sp1 CP "part"):=zrv F40 SP_part;have O41:FnOk l.prog w K mg base CX0 1 f41 _ ["self","word"] (sp1 CN "word"):=zrz F41 SN_word;have O42:FnOk l.prog w K mg base CX0 1 f42 _ ["self","rope","word"] (spNRin CR):=zry F42 SR_rope SR_word;have O43:FnOk l.prog w K mg base CX0 1 f43 _ ["self","place"] (sp1 CT "place"):=zrx F43 ST_place;have O44:FnOk l.prog w K mg base CX0 1 f44 _ ["self","place"] (spLoin CL):=zs4 F44 SL_place;have O45:FnOk l.prog w K mg base CX0 1 f45 _ ["self","lands"] (sp1 CX "lands"):=zs0 F45 SX_lands;have O8:FnOk l.prog w K mg base (CXr l.prog w) 3 f8 _ ["places","ropes"] (spCN CN):=ok_cn F8   m_len O41 b41 i41 mCN xN;have O9:FnOk l.prog w K mg base (CXr l.prog w) 3 f9 _ ["places","number","rope"] (spCR CR):=ok_cr F9  O7 b7 k7 m7 O42 b42 i42 mCR xR;have O10:FnOk l.prog w K mg base CX0 1 f10 _ ["places","ropes"] spEnds:=zs5 F10   m_len m_range m_enumerate;have O11:FnOk l.prog w K mg base (CXr l.prog w) 3 f11 _ ["places","ropes","turns"] (spCT CT):=ok_ct F11  O10 b10 k10 m10 m_len m_enumerate m_sorted O43 b43 i43 mCT xT;have O12:FnOk l.prog w K mg base CX0 1 f12 _ ["start","ropes"] spLed:=ok_led F12   m_len;have O13:FnOk l.prog w K mg base (CXr l.prog w) 3 f13 _ ["places","ropes"] (spHg CL):=ok_hg F13  O12 b12 k12 m12 m_range O44 b44 i44 mCL xL;have O14:FnOk l.prog w K mg base (CXr l.prog w) 4 f14 _ ["places","ropes","turns"] (spCF CX):=ok_cf F14  O6 b6 k6 m6 m_len O45 b45 i45 mCX xX;have O15:FnOk l.prog w K mg base CX0 1 f15 _ ["turn"] spBeg:=ok_beg F15   m_min;have O16:FnOk l.prog w K mg base CX0 2 f16 _ ["turns"] spTold:=zrt F16  O15 b15 k15 m15 m_tuple;have O17:FnOk l.prog w K mg base (CXr l.prog w) 5 f17 _ ["places","ropes","turns"] (spCk CN CR CT CL CX):=ok_ck F17  O8 b8 k8 m8 O9 b9 k9 m9 O11 b11 k11 m11 O13 b13 k13 m13 O14 b14 k14 m14 O16 b16 k16 m16 m_enumerate;have O18:FnOk l.prog w K mg base CX0 1 f18 _ ["text","most"] spIn:=zoz F18   m_len;have O19:FnOk l.prog w K mg base (CXr l.prog w) 3 f19 _ ["text","most","part"] (spNr CP):=zrw F19  O18 b18 k18 m18 m_int O40 b40 i40 mCP xP;have O20:FnOk l.prog w K mg base (CXr l.prog w) 4 f20 _ ["text"] (spEr CP):=zp2 F20  O19 b19 k19 m19 O2 b2 k2 m2 m_len O40 b40 i40 mCP xP;have O21:FnOk l.prog w K mg base (CXr l.prog w) 5 f21 _ ["text"] (spRr CP):=zou F21  O19 b19 k19 m19 O20 b20 k20 m20 m_len O40 b40 i40 mCP xP;have O22:FnOk l.prog w K mg base (CXr l.prog w) 4 f22 _ ["text"] (spTr CP):=zot F22  O19 b19 k19 m19 m_tuple;have O23:FnOk l.prog w K mg base (CXr l.prog w) 6 f23 _ ["text"] (spNd CP CN CR CT CL CX):=zs2 F23  O19 b19 k19 m19 O21 b21 k21 m21 O22 b22 k22 m22 O17 b17 k17 m17 m_len m_tuple O40 b40 i40 mCP xP;have O24:FnOk l.prog w K mg base CX0 1 f24 _ ["_law_script","_law_k"] (spCell K):=zs6 F24   m_len;have O25:FnOk l.prog w K mg base CX0 2 f25 _ ["_law_script","_law_k"] (spDrawn K):=zp3 F25  O24 b24 k24 m24 m_int;have O26:FnOk l.prog w K mg base CX0 1 f26 _ ["_law_one","_law_other"] spGcd:=zkm F26   m_abs;have O27:FnOk l.prog w K mg base CX0 2 f27 _ ["_law_top","_law_bottom"] spLow:=zm1 F27  O26 b26 k26 m26;have O28:FnOk l.prog w K mg base CX0 1 f28 _ ["_law_turns","_law_homes","_law_end"] spNext:=zs1 F28;have O29:FnOk l.prog w K mg base CX0 2 f29 _ ["_law_turns","_law_homes","_law_start"] spLRing:=zox F29  O28 b28 k28 m28;have O30:FnOk l.prog w K mg base CX0 1 f30 _ ["_law_turns","_law_homes","_law_spot","_law_end"] spPut:=ok_put F30;have O31:FnOk l.prog w K mg base CX0 3 f31 _ ["_law_turns","_law_homes","_law_cell"] spMore:=zs3 F31  O29 b29 k29 m29 O30 b30 k30 m30 m_len;have O32:FnOk l.prog w K mg base CX0 3 f32 _ ["_law_cell"] spLEase:=zoy F32  O27 b27 k27 m27;have O33:FnOk l.prog w K mg base CX0 4 f33 _ ["_law_script","_law_start","_law_many"] (spGrown K):=zp0 F33  O31 b31 k31 m31 O25 b25 k25 m25 O32 b32 k32 m32 m_len m_range m_tuple;have O34:AskOk l.prog w K mg base 7 8 f34 _ ["_law_ask"] (ssG CP CN CR CT CL CX):=zru F34 mCF mCP mCN mCR mCT mCL mCX m_isinstance eP eN eR eT eL eX KP KN KR KT KL KX GP_part GN_word GR_rope GR_word GT_place GL_place GX_lands;have O35:FnOk l.prog w K mg base CX0 1 f35 _ ["_law_part","_law_cell"] spBad:=ok_bad F35;have O36:FnOk l.prog w K mg base CX0 2 f36 _ ["_law_rows","_law_part","_law_cell"] spSpo:=ok_spo F36  O35 b35 k35 m35 m_len m_list;have O37:FnOk l.prog w K mg base CX0 1 f37 _ ["_law_rows"] spJo:=ok_jo F37;have O38:FnOk l.prog w K mg base CX0 1 f38 _ ["_law_net","_law_cell"] spWell:=zrs F38   m_len m_tuple m_str;exact ok_law F39 xcd hC hB O25 b25 k25 m25 O33 b33 k33 m33 O38 b38 k38 m38 O36 b36 k36 m36 O37 b37 k37 m37 O34 b34 k34 m34 O17 b17 k17 m17 O23 b23 k23 m23 m_range m_min
theorem walk {l:PySem.W.OpenLaw} {q:Program} {loose:List Str} {XP:(Str->Option Value)->Heap->Prop} {YP:World->Heap->Prop} {d:DefRec} {K:Params->PySem.W.Frag} {T:Addr} (hn:l.most=some 63) (hdf:d.params.defaults=[])
  (hY:∀(w:World) (h:Heap),YP w h->(K w.params).In h/\h.get? T=some (PySem.W.tabObj #[]))
  (F:∀(w:World) (mg:Str->Option Value) (fa:Addr) (h:Heap),(K w.params).In h->h.Ns mainGlobals mg->mg d.name=some (.ref fa) →
   ∃fd:FuncData,(∀(s:Shared) (u:Value),BindsTo s fd ⟨[u],[]⟩ [("_law_script",u)])/\(K w.params).lookup T=none/\(∃c,PySem.W.codeHdIn (K w.params) c T=true)/\∀base:Heap,(K w.params).In base->base.Ns mainGlobals mg->BMain mg base->FnOk l.prog w (K w.params) mg base CX0 9 fa fd ["_law_script"] (spLaw T (K w.params))) :
  PySem.W.WalkO q loose XP YP l.row.toRowW d [] (fun f vs=>PySem.call f vs) :=
 L2.znq (n:=63) (k:=9) (x:="_law_script") (sp:=fun w=>spLaw T (K w.params)) hn (by decide) hdf ⟨rfl,by decide,by decide⟩ hY F fun _ _ a ns hl hT hS=>⟨a,ns,rfl,hS,hl,hT,fun _=>rfl⟩
end My
namespace PySem.W.Fast
theorem tw917095683059244548:True:=trivial
theorem tw8407493272739084817:True:=trivial
theorem tw5355249305554471:True:=trivial
theorem tw13329450470209826190:True:=trivial
theorem tw7074752496384811105:True:=trivial
theorem tw8550055286732607281:True:=trivial
theorem tw3894164123938683693:True:=trivial
theorem tw4770947031401703103:True:=trivial
theorem tw15085869794251273271:True:=trivial
theorem tw6439907039890515381:True:=trivial
theorem tw12801883342973707104:True:=trivial
theorem tw1744783443585192644:True:=trivial
theorem tw11291771288955402454:True:=trivial
theorem tw15299924501217336540:True:=trivial
theorem tw1892503455774075702:True:=trivial
theorem tw10866990154509147447:True:=trivial
theorem tw1497434059750203974:True:=trivial
theorem tw5974205530524786939:True:=trivial
theorem tw11957417654308240351:True:=trivial
theorem tw7651178927871983536:True:=trivial
theorem tw10878374776519058119:True:=trivial
theorem tw6116783281581979936:True:=trivial
theorem tw6009960065374818645:True:=trivial
theorem tw13379479521365515679:True:=trivial
theorem tw16481031482749817031:True:=trivial
theorem tw11168968719710299724:True:=trivial
theorem tw4273392672645144077:True:=trivial
theorem tw16750456570562215815:True:=trivial
theorem tw16475722994110533403:True:=trivial
theorem tw12716441655554996504:True:=trivial
theorem tw4047355528766621935:True:=trivial
theorem te933656924438180370:True:=trivial
theorem tw17954412166974197807:True:=trivial
theorem tw10387488871059468799:True:=trivial
theorem tw13217300857668786911:True:=trivial
theorem tw17887595167039276722:True:=trivial
theorem tw8717206989598475146:True:=trivial
theorem tw13430070535544248636:True:=trivial
theorem tw12359205305150815136:True:=trivial
theorem tw1527894972706213246:True:=trivial
theorem tw10891506007294753584:True:=trivial
theorem tw783331362703493686:True:=trivial
theorem tw9181935774711222794:True:=trivial
theorem tw11620973688941653559:True:=trivial
theorem tw6640183344019545440:True:=trivial
theorem tw6412037540473163581:True:=trivial
theorem tw4539076236554604519:True:=trivial
theorem tw13125419956864206566:True:=trivial
theorem tw17978027796017539081:True:=trivial
theorem tw18201450173426221938:True:=trivial
theorem tw5250029373992689885:True:=trivial
theorem tw17811868140556112618:True:=trivial
theorem tw1501115550180112:True:=trivial
theorem tw10699980550846306328:True:=trivial
theorem tw10382218451018523696:True:=trivial
theorem tw5590178224348276978:True:=trivial
theorem tw18408340035399266177:True:=trivial
theorem tw11997883244028868382:True:=trivial
theorem tw7191952888377856814:True:=trivial
theorem tw9296897057710002930:True:=trivial
theorem tw9513949590217649841:True:=trivial
theorem tw10252339627951134292:True:=trivial
theorem tw7739032987004138373:True:=trivial
theorem tw1902842990064659901:True:=trivial
theorem tw4262332628964917631:True:=trivial
theorem tw9877502265887925970:True:=trivial
theorem tw16053058298612773829:True:=trivial
theorem tw11948516803611943576:True:=trivial
theorem tw5975228198611268649:True:=trivial
theorem tw4816390995676354895:True:=trivial
theorem tw6603561008896913533:True:=trivial
theorem tw17306604628638862155:True:=trivial
theorem tw6050134275065063417:True:=trivial
theorem tw12145566677126126567:True:=trivial
theorem tw13859562804364582534:True:=trivial
theorem tw9683405513151125818:True:=trivial
theorem tw4869292636895741216:True:=trivial
theorem tw160923169440057201:True:=trivial
theorem tw11799990267337074363:True:=trivial
theorem tw17775964052903597561:True:=trivial
theorem tw6896162683911092011:True:=trivial
theorem tw5934470378752664017:True:=trivial
theorem tw13828534638394306966:True:=trivial
theorem tw3495441917070367132:True:=trivial
theorem tw1526573872846021159:True:=trivial
theorem tw5334958939816317413:True:=trivial
theorem tw9082348346835459114:True:=trivial
theorem tw18303666561013697206:True:=trivial
theorem tw12397525302442814510:True:=trivial
theorem tw5912590998917100647:True:=trivial
theorem tw11534533103695888558:True:=trivial
theorem tw14099401536282380510:True:=trivial
theorem tw13706186570047652194:True:=trivial
theorem tw1115227196384165694:True:=trivial
theorem tw17150624767234374715:True:=trivial
theorem tw15503747479236929018:True:=trivial
theorem tw5192571895649013179:True:=trivial
theorem tw4310526049163695986:True:=trivial
theorem tw8882193042069761174:True:=trivial
theorem tw13244414388917708604:True:=trivial
theorem tw8134947700101130680:True:=trivial
theorem tw15320283848463897413:True:=trivial
theorem tw17504137374843698951:True:=trivial
theorem tw6061314615400799438:True:=trivial
theorem tw12047098458654917534:True:=trivial
theorem tw3561128057763072648:True:=trivial
theorem tw11994228768693443235:True:=trivial
theorem tw11527834591194525847:True:=trivial
theorem tw3270327819423311517:True:=trivial
theorem tw15586477480993469223:True:=trivial
theorem tw12872103594704895545:True:=trivial
theorem tw12504242324105374380:True:=trivial
theorem tw304390056177913679:True:=trivial
theorem tw2727197614630627998:True:=trivial
theorem tw12975195973688972198:True:=trivial
theorem tw1348228644217515192:True:=trivial
theorem tw7987528333734045662:True:=trivial
theorem tw4347509317037559034:True:=trivial
theorem tw17682884768119831012:True:=trivial
theorem tw5320764909395222930:True:=trivial
end PySem.W.Fast
open PySem PySem.W PyProof.Rows
set_option maxRecDepth 100000 in
set_option maxHeartbeats 0 in
theorem PySem.Challenge.cw_currentfloor_k07_texts_refused_holds : PySem.Challenge.rw_currentfloor_k07_texts_refused.Holds := by
  w_on; o_law; k_head; (case hw => w_witness2)
  k_fill
  refine My.walk (l := PySem.Challenge.rw_currentfloor_k07_texts_refused) rfl rfl (fun w h Y => ⟨PySem.W.km_in_of Y, PySem.W.km_tabs_of Y _ (List.mem_singleton_self _)⟩) ?F
  case F =>
    intro w mg fa h KX G hmg
    refine' My.all_mk KX G hmg ?a1 ?l1 ?c1 ?k1 ?a2 ?l2 ?c2 ?k2 ?a3 ?l3 ?c3 ?k3 ?a4 ?l4 ?c4 ?k4 ?a5 ?l5 ?c5 ?k5 ?a6 ?l6 ?c6 ?k6 ?a7 ?l7 ?c7 ?k7 ?a8 ?l8 ?c8 ?k8 ?a9 ?l9 ?c9 ?k9 ?a10 ?l10 ?c10 ?k10 ?a11 ?l11 ?c11 ?k11 ?a12 ?l12 ?c12 ?k12 ?a13 ?l13 ?c13 ?k13 ?a14 ?l14 ?c14 ?k14 ?a15 ?l15 ?c15 ?k15 ?a16 ?l16 ?c16 ?k16 ?a17 ?l17 ?c17 ?k17 ?a18 ?l18 ?c18 ?k18 ?a19 ?l19 ?c19 ?k19 ?a20 ?l20 ?c20 ?k20 ?a21 ?l21 ?c21 ?k21 ?a22 ?l22 ?c22 ?k22 ?a23 ?l23 ?c23 ?k23 ?a24 ?l24 ?c24 ?k24 ?a25 ?l25 ?c25 ?k25 ?a26 ?l26 ?c26 ?k26 ?a27 ?l27 ?c27 ?k27 ?a28 ?l28 ?c28 ?k28 ?a29 ?l29 ?c29 ?k29 ?a30 ?l30 ?c30 ?k30 ?a31 ?l31 ?c31 ?k31 ?a32 ?l32 ?c32 ?k32 ?a33 ?l33 ?c33 ?k33 ?a34 ?l34 ?c34 ?k34 ?a35 ?l35 ?c35 ?k35 ?a36 ?l36 ?c36 ?k36 ?a37 ?l37 ?c37 ?k37 ?a38 ?l38 ?c38 ?k38 ?a39 ?l39 ?c39 ?k39 ?a40 ?i40 ?l40 ?c40 ?k40 ?a41 ?i41 ?l41 ?c41 ?k41 ?a42 ?i42 ?l42 ?c42 ?k42 ?a43 ?i43 ?l43 ?c43 ?k43 ?a44 ?i44 ?l44 ?c44 ?k44 ?a45 ?i45 ?l45 ?c45 ?k45 ?aCF ?aCP ?aCN ?aCR ?aCT ?aCL ?aCX ?xP ?eP ?xN ?eN ?xR ?eR ?xT ?eT ?xL ?eL ?xX ?eX ?sP1 ?sP2 ?sP_part ?yPP ?yPN ?yPR ?yPT ?yPL ?yPX ?gP1 ?gP2 ?gP3 ?gP6 ?gP7 ?gP8 ?gP9 ?sN1 ?sN2 ?sN_word ?yNP ?yNN ?yNR ?yNT ?yNL ?yNX ?gN1 ?gN2 ?gN3 ?gN6 ?gN7 ?gN8 ?gN9 ?sR1 ?sR2 ?sR_rope ?sR_word ?yRP ?yRN ?yRR ?yRT ?yRL ?yRX ?gR1 ?gR2 ?gR3 ?gR6 ?gR7 ?gR8 ?gR9 ?sT1 ?sT2 ?sT_place ?yTP ?yTN ?yTR ?yTT ?yTL ?yTX ?gT1 ?gT2 ?gT3 ?gT6 ?gT7 ?gT8 ?gT9 ?sL1 ?sL2 ?sL_place ?yLP ?yLN ?yLR ?yLT ?yLL ?yLX ?gL1 ?gL2 ?gL3 ?gL6 ?gL7 ?gL8 ?gL9 ?sX1 ?sX2 ?sX_lands ?yXP ?yXN ?yXR ?yXT ?yXL ?yXX ?gX1 ?gX2 ?gX3 ?gX6 ?gX7 ?gX8 ?gX9 ?g4 ?g5 ?xcd ?xkt ?xhd ?z_abs ?z_len ?z_range ?z_list ?z_tuple ?z_enumerate ?z_min ?z_max ?z_sorted ?z_isinstance ?z_int ?z_str
    (case aCF => k_is)
    (case aCP => k_is)
    (case aCN => k_is)
    (case aCR => k_is)
    (case aCT => k_is)
    (case aCL => k_is)
    (case aCX => k_is)
    (case a1 => k_is)
    (case l1 => k_is)
    (case c1 => k_is)
    (case k1 => k_is)
    (case a2 => k_is)
    (case l2 => k_is)
    (case c2 => k_is)
    (case k2 => k_is)
    (case a3 => k_is)
    (case l3 => k_is)
    (case c3 => k_is)
    (case k3 => k_is)
    (case a4 => k_is)
    (case l4 => k_is)
    (case c4 => k_is)
    (case k4 => k_is)
    (case a5 => k_is)
    (case l5 => k_is)
    (case c5 => k_is)
    (case k5 => k_is)
    (case a6 => k_is)
    (case l6 => k_is)
    (case c6 => k_is)
    (case k6 => k_is)
    (case a7 => k_is)
    (case l7 => k_is)
    (case c7 => k_is)
    (case k7 => k_is)
    (case a8 => k_is)
    (case l8 => k_is)
    (case c8 => k_is)
    (case k8 => k_is)
    (case a9 => k_is)
    (case l9 => k_is)
    (case c9 => k_is)
    (case k9 => k_is)
    (case a10 => k_is)
    (case l10 => k_is)
    (case c10 => k_is)
    (case k10 => k_is)
    (case a11 => k_is)
    (case l11 => k_is)
    (case c11 => k_is)
    (case k11 => k_is)
    (case a12 => k_is)
    (case l12 => k_is)
    (case c12 => k_is)
    (case k12 => k_is)
    (case a13 => k_is)
    (case l13 => k_is)
    (case c13 => k_is)
    (case k13 => k_is)
    (case a14 => k_is)
    (case l14 => k_is)
    (case c14 => k_is)
    (case k14 => k_is)
    (case a15 => k_is)
    (case l15 => k_is)
    (case c15 => k_is)
    (case k15 => k_is)
    (case a16 => k_is)
    (case l16 => k_is)
    (case c16 => k_is)
    (case k16 => k_is)
    (case a17 => k_is)
    (case l17 => k_is)
    (case c17 => k_is)
    (case k17 => k_is)
    (case a18 => k_is)
    (case l18 => k_is)
    (case c18 => k_is)
    (case k18 => k_is)
    (case a19 => k_is)
    (case l19 => k_is)
    (case c19 => k_is)
    (case k19 => k_is)
    (case a20 => k_is)
    (case l20 => k_is)
    (case c20 => k_is)
    (case k20 => k_is)
    (case a21 => k_is)
    (case l21 => k_is)
    (case c21 => k_is)
    (case k21 => k_is)
    (case a22 => k_is)
    (case l22 => k_is)
    (case c22 => k_is)
    (case k22 => k_is)
    (case a23 => k_is)
    (case l23 => k_is)
    (case c23 => k_is)
    (case k23 => k_is)
    (case a24 => k_is)
    (case l24 => k_is)
    (case c24 => k_is)
    (case k24 => k_is)
    (case a25 => k_is)
    (case l25 => k_is)
    (case c25 => k_is)
    (case k25 => k_is)
    (case a26 => k_is)
    (case l26 => k_is)
    (case c26 => k_is)
    (case k26 => k_is)
    (case a27 => k_is)
    (case l27 => k_is)
    (case c27 => k_is)
    (case k27 => k_is)
    (case a28 => k_is)
    (case l28 => k_is)
    (case c28 => k_is)
    (case k28 => k_is)
    (case a29 => k_is)
    (case l29 => k_is)
    (case c29 => k_is)
    (case k29 => k_is)
    (case a30 => k_is)
    (case l30 => k_is)
    (case c30 => k_is)
    (case k30 => k_is)
    (case a31 => k_is)
    (case l31 => k_is)
    (case c31 => k_is)
    (case k31 => k_is)
    (case a32 => k_is)
    (case l32 => k_is)
    (case c32 => k_is)
    (case k32 => k_is)
    (case a33 => k_is)
    (case l33 => k_is)
    (case c33 => k_is)
    (case k33 => k_is)
    (case a34 => k_is)
    (case l34 => k_is)
    (case c34 => k_is)
    (case k34 => k_is)
    (case a35 => k_is)
    (case l35 => k_is)
    (case c35 => k_is)
    (case k35 => k_is)
    (case a36 => k_is)
    (case l36 => k_is)
    (case c36 => k_is)
    (case k36 => k_is)
    (case a37 => k_is)
    (case l37 => k_is)
    (case c37 => k_is)
    (case k37 => k_is)
    (case a38 => k_is)
    (case l38 => k_is)
    (case c38 => k_is)
    (case k38 => k_is)
    (case a39 => k_is)
    (case l39 => k_is)
    (case c39 => k_is)
    (case k39 => k_is)
    (case a40 => k_is)
    (case i40 => k_is)
    (case l40 => k_is)
    (case c40 => k_is)
    (case k40 => k_is)
    (case a41 => k_is)
    (case i41 => k_is)
    (case l41 => k_is)
    (case c41 => k_is)
    (case k41 => k_is)
    (case a42 => k_is)
    (case i42 => k_is)
    (case l42 => k_is)
    (case c42 => k_is)
    (case k42 => k_is)
    (case a43 => k_is)
    (case i43 => k_is)
    (case l43 => k_is)
    (case c43 => k_is)
    (case k43 => k_is)
    (case a44 => k_is)
    (case i44 => k_is)
    (case l44 => k_is)
    (case c44 => k_is)
    (case k44 => k_is)
    (case a45 => k_is)
    (case i45 => k_is)
    (case l45 => k_is)
    (case c45 => k_is)
    (case k45 => k_is)
    (case xP => kernel_rfl)
    (case eP => kernel_rfl)
    (case xN => kernel_rfl)
    (case eN => kernel_rfl)
    (case xR => kernel_rfl)
    (case eR => kernel_rfl)
    (case xT => kernel_rfl)
    (case eT => kernel_rfl)
    (case xL => kernel_rfl)
    (case eL => kernel_rfl)
    (case xX => kernel_rfl)
    (case eX => kernel_rfl)
    (case sP1 => first | k_is | kernel_rfl)
    (case sP2 => kernel_rfl)
    (case sP_part => first | k_is | kernel_rfl)
    (case yPP => kernel_rfl)
    (case yPN => kernel_rfl)
    (case yPR => kernel_rfl)
    (case yPT => kernel_rfl)
    (case yPL => kernel_rfl)
    (case yPX => kernel_rfl)
    (case gP1 => first | k_is | kernel_rfl)
    (case gP2 => first | k_is | kernel_rfl)
    (case gP3 => first | k_is | kernel_rfl)
    (case gP6 => first | k_is | kernel_rfl)
    (case gP7 => first | k_is | kernel_rfl)
    (case gP8 => first | k_is | kernel_rfl)
    (case gP9 => kernel_rfl)
    (case sN1 => first | k_is | kernel_rfl)
    (case sN2 => kernel_rfl)
    (case sN_word => first | k_is | kernel_rfl)
    (case yNP => kernel_rfl)
    (case yNN => kernel_rfl)
    (case yNR => kernel_rfl)
    (case yNT => kernel_rfl)
    (case yNL => kernel_rfl)
    (case yNX => kernel_rfl)
    (case gN1 => first | k_is | kernel_rfl)
    (case gN2 => first | k_is | kernel_rfl)
    (case gN3 => first | k_is | kernel_rfl)
    (case gN6 => first | k_is | kernel_rfl)
    (case gN7 => first | k_is | kernel_rfl)
    (case gN8 => first | k_is | kernel_rfl)
    (case gN9 => kernel_rfl)
    (case sR1 => first | k_is | kernel_rfl)
    (case sR2 => kernel_rfl)
    (case sR_rope => first | k_is | kernel_rfl)
    (case sR_word => first | k_is | kernel_rfl)
    (case yRP => kernel_rfl)
    (case yRN => kernel_rfl)
    (case yRR => kernel_rfl)
    (case yRT => kernel_rfl)
    (case yRL => kernel_rfl)
    (case yRX => kernel_rfl)
    (case gR1 => first | k_is | kernel_rfl)
    (case gR2 => first | k_is | kernel_rfl)
    (case gR3 => first | k_is | kernel_rfl)
    (case gR6 => first | k_is | kernel_rfl)
    (case gR7 => first | k_is | kernel_rfl)
    (case gR8 => first | k_is | kernel_rfl)
    (case gR9 => kernel_rfl)
    (case sT1 => first | k_is | kernel_rfl)
    (case sT2 => kernel_rfl)
    (case sT_place => first | k_is | kernel_rfl)
    (case yTP => kernel_rfl)
    (case yTN => kernel_rfl)
    (case yTR => kernel_rfl)
    (case yTT => kernel_rfl)
    (case yTL => kernel_rfl)
    (case yTX => kernel_rfl)
    (case gT1 => first | k_is | kernel_rfl)
    (case gT2 => first | k_is | kernel_rfl)
    (case gT3 => first | k_is | kernel_rfl)
    (case gT6 => first | k_is | kernel_rfl)
    (case gT7 => first | k_is | kernel_rfl)
    (case gT8 => first | k_is | kernel_rfl)
    (case gT9 => kernel_rfl)
    (case sL1 => first | k_is | kernel_rfl)
    (case sL2 => kernel_rfl)
    (case sL_place => first | k_is | kernel_rfl)
    (case yLP => kernel_rfl)
    (case yLN => kernel_rfl)
    (case yLR => kernel_rfl)
    (case yLT => kernel_rfl)
    (case yLL => kernel_rfl)
    (case yLX => kernel_rfl)
    (case gL1 => first | k_is | kernel_rfl)
    (case gL2 => first | k_is | kernel_rfl)
    (case gL3 => first | k_is | kernel_rfl)
    (case gL6 => first | k_is | kernel_rfl)
    (case gL7 => first | k_is | kernel_rfl)
    (case gL8 => first | k_is | kernel_rfl)
    (case gL9 => kernel_rfl)
    (case sX1 => first | k_is | kernel_rfl)
    (case sX2 => kernel_rfl)
    (case sX_lands => first | k_is | kernel_rfl)
    (case yXP => kernel_rfl)
    (case yXN => kernel_rfl)
    (case yXR => kernel_rfl)
    (case yXT => kernel_rfl)
    (case yXL => kernel_rfl)
    (case yXX => kernel_rfl)
    (case gX1 => first | k_is | kernel_rfl)
    (case gX2 => first | k_is | kernel_rfl)
    (case gX3 => first | k_is | kernel_rfl)
    (case gX6 => first | k_is | kernel_rfl)
    (case gX7 => first | k_is | kernel_rfl)
    (case gX8 => first | k_is | kernel_rfl)
    (case gX9 => kernel_rfl)
    (case g4 => first | k_is | kernel_rfl)
    (case g5 => first | k_is | kernel_rfl)
    (case xcd => rfl)
    (case xkt => kernel_rfl)
    (case xhd => kernel_rfl)
    (case z_abs => k_is)
    (case z_len => k_is)
    (case z_range => k_is)
    (case z_list => k_is)
    (case z_tuple => k_is)
    (case z_enumerate => k_is)
    (case z_min => k_is)
    (case z_max => k_is)
    (case z_sorted => k_is)
    (case z_isinstance => k_is)
    (case z_int => k_is)
    (case z_str => k_is)
