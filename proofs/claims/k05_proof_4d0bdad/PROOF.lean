import PyProof.Rows.All
import Wide.All
import OpenK.AllK
import Wide.FinOn
import Lean
import PyProof.EqAt
import PyProof.EqKinds
import PyProof.TupleCall
import PySem.Challenge.RW_currentfloor_k05_nets_refused_in_order
noncomputable section
set_option Elab.async false
set_option linter.all false
set_option maxRecDepth 100000
namespace L2
open PySem PySem.Spec PyProof.Rows
abbrev Key:=Sum Int Str
def keyIs:Key->Value->Bool
 | .inl k,v=>Value.isInt k v
 | .inr x,v=>Value.isStrOf x v
def keyH (w:World):Key->Int
 | .inl k=>hashInt k
 | .inr x=>hashStr w x
theorem keyIs_shape:∀ {k:Key} {v:Value},keyIs k v=true->(∃ i t,k=Sum.inl i∧v=Value.int i t)∨(∃ x t,k=Sum.inr x∧v=Value.str x t)
 | .inl i,v,h=>by
  obtain ⟨t,e⟩:=Value.isInt_shape (k:=i) (v:=v) h
  exact .inl ⟨i,t,rfl,e⟩
 | .inr x,v,h=>by
  obtain ⟨t,e⟩:=Value.isStrOf_shape (x:=x) (v:=v) h
  exact .inr ⟨x,t,rfl,e⟩
theorem keyIs_int (i:Int) (t:Tok):keyIs (.inl i) (.int i t)=true:=by simp [keyIs,Value.isInt]
theorem keyIs_str (x:Str) (t:Tok):keyIs (.inr x) (.str x t)=true:=by simp [keyIs,Value.isStrOf]
theorem key_ll (a b:Int):decide ((Sum.inl a:Key)=Sum.inl b)=(a == b):=by
 by_cases e:a=b
 ·subst e; simp
 ·have h:¬ (Sum.inl a:Key)=Sum.inl b:=fun q=>e (Sum.inl.inj q)
  rw [decide_eq_false h]
  exact (beq_eq_false_iff_ne.mpr e).symm
theorem key_rr (a b:Str):decide ((Sum.inr a:Key)=Sum.inr b)=decide (a=b):=by
 by_cases e:a=b
 ·subst e; simp
 ·have h:¬ (Sum.inr a:Key)=Sum.inr b:=fun q=>e (Sum.inr.inj q)
  rw [decide_eq_false h,decide_eq_false e]
theorem key_lr (a:Int) (b:Str):decide ((Sum.inl a:Key)=Sum.inr b)=false:=decide_eq_false (fun q=>nomatch q)
theorem key_rl (a:Str) (b:Int):decide ((Sum.inr a:Key)=Sum.inl b)=false:=decide_eq_false (fun q=>nomatch q)
def mixKind (prog:Program) (w:World):PySem.KeyKind prog w Key where
 is:=keyIs
 hash:=keyH w
 inj:=fun v a b ha hb=>by
  rcases keyIs_shape ha with ⟨i,t,rfl,rfl⟩ | ⟨x,t,rfl,rfl⟩
  ·rcases keyIs_shape hb with ⟨j,u,rfl,e⟩ | ⟨y,u,rfl,e⟩
   ·injection e with e1 _; rw [e1]
   ·exact nomatch e
  ·rcases keyIs_shape hb with ⟨j,u,rfl,e⟩ | ⟨y,u,rfl,e⟩
   ·exact nomatch e
   ·injection e with e1 _; rw [e1]
 byValue:=fun k v h=>by
  rcases keyIs_shape h with ⟨i,t,rfl,rfl⟩ | ⟨x,t,rfl,rfl⟩ <;> rfl
 pyHash:=fun hv h=>by
  rcases keyIs_shape hv with ⟨i,t,rfl,rfl⟩ | ⟨x,t,rfl,rfl⟩
  ·exact wpAny_pyHash_int h
  ·exact wpAny_pyHash_str h
 eqBool:=fun hu hv h=>by
  rcases keyIs_shape hu with ⟨i,t,rfl,rfl⟩ | ⟨x,t,rfl,rfl⟩
  ·rcases keyIs_shape hv with ⟨j,u,rfl,rfl⟩ | ⟨y,u,rfl,rfl⟩
   ·rw [key_ll] at h; exact wpAny_eqBool_int h
   ·rw [key_lr] at h; exact SeqAt.EqAt.int_str i t y u _ _ _ _ h
  ·rcases keyIs_shape hv with ⟨j,u,rfl,rfl⟩ | ⟨y,u,rfl,rfl⟩
   ·rw [key_rl] at h; exact SeqAt.EqAt.str_int x t j u _ _ _ _ h
   ·rw [key_rr] at h; exact wpAny_eqBool_str h
 «strs»:=fun k x t v h=>by
  rcases keyIs_shape h with ⟨i,u,rfl,e⟩ | ⟨y,u,rfl,e⟩
  ·exact nomatch e
  ·injection e with e1 _
   subst e1
   cases v <;> rfl
theorem mixKind_int (prog:Program) (w:World) (i:Int) (t:Tok):(mixKind prog w).is (.inl i) (.int i t)=true:=keyIs_int i t
theorem mixKind_str (prog:Program) (w:World) (x:Str) (t:Tok):(mixKind prog w).is (.inr x) (.str x t)=true:=keyIs_str x t
end L2
namespace L2
open PySem PySem.Spec PyProof.Rows
inductive V where
 | non | bl (b:Bool) | int (i:Int) | str (x:Str) | byt (b:Array UInt8) | flt (b:UInt64) | ref (a:Addr) | ty (n:String)
 deriving DecidableEq
def RelV:V->Value->Prop
 | .non,u=>u=Value.none
 | .bl b,u=>u=Value.bool b
 | .int i,u=>∃ t,u=Value.int i t
 | .str x,u=>∃ t,u=Value.str x t
 | .byt b,u=>∃ t,u=Value.bytes b t
 | .flt b,u=>∃ t,u=Value.float b t
 | .ref a,u=>u=Value.ref a
 | .ty n,u=>u=Value.type n
abbrev Vals:List V->List Value->Prop:=Paired RelV
theorem Vals.length {xs:List V} {us:List Value} (r:Vals xs us):xs.length=us.length:=Paired.length r
theorem Vals.get:∀ {xs:List V} {us:List Value} {i:Nat} {x:V},Vals xs us->xs[i]?=some x->∃ u,us[i]?=some u∧RelV x u
 | _,_,_,_,.nil,e=>by simp at e
 | _,_,0,_,.cons r _,e=>by simp at e; subst e; exact ⟨_,rfl,r⟩
 | _,_,i+1,x,.cons _ t,e=>by
  obtain ⟨u,h1,h2⟩:=Vals.get (i:=i) (x:=x) t (by simpa using e)
  exact ⟨u,by simpa using h1,h2⟩
theorem Vals.set {x:V} {u:Value} (r:RelV x u):∀ {xs:List V} {us:List Value} (i:Nat),Vals xs us->Vals (xs.set i x) (us.set i u)
 | _,_,_,.nil=>.nil
 | _,_,0,.cons _ t=>.cons r t
 | _,_,i+1,.cons q t=>.cons q (Vals.set r i t)
theorem Vals.append:∀ {xs ys:List V} {us ws:List Value},Vals xs us->Vals ys ws->Vals (xs++ys) (us++ws)
 | _,_,_,_,.nil,s=>s
 | _,_,_,_,.cons r t,s=>.cons r (Vals.append t s)
theorem Vals.take:∀ {xs:List V} {us:List Value} (n:Nat),Vals xs us->Vals (xs.take n) (us.take n)
 | _,_,0,_=>.nil
 | _,_,_+1,.nil=>.nil
 | _,_,n+1,.cons r t=>.cons r (Vals.take n t)
theorem Vals.drop:∀ {xs:List V} {us:List Value} (n:Nat),Vals xs us->Vals (xs.drop n) (us.drop n)
 | _,_,0,r=>r
 | _,_,_+1,.nil=>.nil
 | _,_,n+1,.cons _ t=>Vals.drop n t
def RelO:Option V->Option Value->Prop
 | some v,some u=>RelV v u
 | none,none=>True
 | _,_=>False
def KV {κ:Type}:List (κ×V)->List (κ×Value)->Prop:=Paired fun (p:κ×V) (q:κ×Value)=>p.1=q.1∧RelV p.2 q.2
def kV:Key->V
 | .inl i=>.int i
 | .inr x=>.str x
inductive HO where
  | lst (xs:List V)
  | tup (xs:List V)
  | dK (kvs:List (Key×V)) | dT (kvs:List (List Key×V))
  | set (S:Int->Bool) (n:Nat)
  | ins (C dx:Addr) (fs:List (Str×V))
  | own (x:Addr)
  | xd (fs:List (Str×V))
  | met (f x:Addr)
  | rng (lo hi:Int)
  | frz (o:Obj) (u:HO)
  | tbl (ps:Array Value)
  | ext (φ:Heap->Prop)
abbrev Hp:=Addr->Option HO
def upd (H:Hp) (a:Addr) (o:HO):Hp:=fun b=>if b=a then some o else H b
theorem upd_same {H:Hp} {a:Addr} {o:HO}:upd H a o a=some o:=by unfold upd; rw [if_pos rfl]
theorem upd_ne {H:Hp} {a b:Addr} {o:HO} (h:b≠a):upd H a o b=H b:=by unfold upd; rw [if_neg h]
theorem ne_of {H:Hp} {a b:Addr} {o u:HO} (h:H a=some o) (h':H b=some u) (d:o≠u):a≠b:=by
 intro e; subst e; rw [h] at h'; exact d (Option.some.inj h')
theorem ne_of_none {H:Hp} {a b:Addr} {o:HO} (h:H a=some o) (h':H b=none):a≠b:=by
 intro e; subst e; rw [h] at h'; cases h'
section
variable (P:Program) (w:World)
def ObjOk (H:Hp) (h:Heap) (a:Addr):HO->Prop
 | .lst xs=>xs.length≤sizeLine∧∃ (its:List Value) (n:Nat),Vals xs its∧h.get? a=some { cls:=.type "list",data:=.seq its.toArray n }
 | .tup xs=>xs.length≤sizeLine∧∃ its:List Value,Vals xs its∧IsTup h a its.toArray∧∃ o,h.get? a=some o∧o.dict=none
 | .dK kvs=>kvs.length≤sizeLine∧(a == sysModules)=false∧∃ vs,KV kvs vs∧h.DictOf (mixKind P w) a vs
 | .dT kvs=>kvs.length≤sizeLine∧(a == sysModules)=false∧∃ xs:List (List Key×Addr×Value),
   Paired (fun (p:List Key×V) (q:List Key×Addr×Value)=>p.1=q.1∧H q.2.1=some (.tup (p.1.map kV))∧RelV p.2 q.2.2) kvs xs ∧
   ∃ o es ep,h.get? a=some o∧o.ExactDict∧o.data=.dict es ep∧es.toList=xs.map (entryOfKey (tupleKind (mixKind P w)))∧(xs.map (·.1)).Nodup
 | .set S n=>h.SetOf (intKind P w) a S n
 | .ins C dx fs=>H dx=some (.own a)∧fs.length≤1000∧dx≠a∧h.get? a=some (PySem.W.instObj C dx) ∧
   ∃ mA,h.Ns1 dx mA∧(∀ f,RelO (fs.lookup f) (mA f))∧PySem.Within mA (fs.map (·.1))
 | .own _=>∃ o,h.get? a=some o
 | .xd fs=>∃ mA,h.Ns1 a mA∧∀ f,RelO (fs.lookup f) (mA f)
 | .rng lo hi=>∃ t u v,h.get? a=some { cls:=.type "range",data:=.fields #[.int lo t,.int hi u,.int 1 v] }
 | .frz o u=>h.get? a=some o∧ObjOk H h a u
 | .tbl ps=>h.get? a=some { cls:=.none,data:=.fields ps }
 | .met f x=>h.get? a=some (PySem.W.methodObj (.ref f) (.ref x))
 | .ext φ=>φ h∧(∃ o,h.get? a=some o)∧∀ h1 h2:Heap,φ h1->(∀ o,h1.get? a=some o->h2.get? a=some o)->φ h2
def HOk (H:Hp) (h:Heap):Prop:=∀ a o,H a=some o->ObjOk P w H h a o
end
section
variable {P:Program} {w:World} {H H':Hp} {h h':Heap} {a:Addr} {o:HO}
theorem ObjOk.lt (x:ObjOk P w H h a o):a<h.objs.size:=by
 cases o with
 | lst xs=>obtain ⟨_,_,_,_,e⟩:=x; exact Heap.lt_size e
 | tup xs=>obtain ⟨_,_,_,p,_⟩:=x; exact p.lt
 | dK kvs=>obtain ⟨_,_,_,_,o,_,_,e,_⟩:=x; exact Heap.lt_size e
 | dT kvs=>obtain ⟨_,_,_,_,o,_,_,e,_⟩:=x; exact Heap.lt_size e
 | set S n=>obtain ⟨o,_,_,_,e,_⟩:=x; exact Heap.lt_size e
 | ins C dx fs=>obtain ⟨_,_,_,e,_⟩:=x; exact Heap.lt_size e
 | own y=>obtain ⟨_,e⟩:=x; exact Heap.lt_size e
 | xd fs=>obtain ⟨_,⟨_,_,_,e,_⟩,_⟩:=x; exact Heap.lt_size e
 | rng lo hi=>obtain ⟨_,_,_,e⟩:=x; exact Heap.lt_size e
 | frz ob u=>obtain ⟨e,_⟩:=x; exact Heap.lt_size e
 | tbl ps=>exact Heap.lt_size (show h.get? a=some _ from x)
 | met f y=>exact Heap.lt_size (show h.get? a=some _ from x)
 | ext φ=>obtain ⟨_,⟨_,e⟩,_⟩:=x; exact Heap.lt_size e
theorem Paired.mapP {α β:Type} {F G:α->β->Prop}:∀ {l₁:List α} {l₂:List β},Paired F l₁ l₂->(∀ a b,F a b->G a b)->Paired G l₁ l₂
 | _,_,.nil,_=>.nil
 | _,_,.cons r t,f=>.cons (f _ _ r) (Paired.mapP t f)
theorem ObjOk.stay (x:ObjOk P w H h a o) (k:∀ b u,(b=a∨H b=some (.own a))->h.get? b=some u->h'.get? b=some u)
  (ho:∀ b,H b=some (.own a)->H' b=some (.own a)) (ht:∀ b xs,H b=some (.tup xs)->H' b=some (.tup xs)):ObjOk P w H' h' a o:=by
 induction o with
 | lst xs=>obtain ⟨z,its,n,r,e⟩:=x; exact ⟨z,its,n,r,k _ _ (.inl rfl) e⟩
 | tup xs=>obtain ⟨z,its,r,⟨ob,e,c⟩,ob2,e2,c2⟩:=x; exact ⟨z,its,r,⟨ob,k _ _ (.inl rfl) e,c⟩,ob2,k _ _ (.inl rfl) e2,c2⟩
 | dK kvs=>obtain ⟨z,y,vs,r,ob,es,ep,e,c⟩:=x; exact ⟨z,y,vs,r,ob,es,ep,k _ _ (.inl rfl) e,c⟩
 | dT kvs =>
  obtain ⟨z,y,xs,r,ob,es,ep,e,c⟩:=x
  exact ⟨z,y,xs,Paired.mapP r fun p q z=>⟨z.1,ht _ _ z.2.1,z.2.2⟩,ob,es,ep,k _ _ (.inl rfl) e,c⟩
 | set S n=>obtain ⟨ob,es,ep,t,e,c⟩:=x; exact ⟨ob,es,ep,t,k _ _ (.inl rfl) e,c⟩
 | ins C dx fs =>
  obtain ⟨d,z,ne,e,mA,⟨od,es,ep,e2,c⟩,r⟩:=x
  exact ⟨ho _ d,z,ne,k _ _ (.inl rfl) e,mA,⟨od,es,ep,k _ _ (.inr d) e2,c⟩,r⟩
 | own y=>obtain ⟨ob,e⟩:=x; exact ⟨ob,k _ _ (.inl rfl) e⟩
 | xd fs=>obtain ⟨mA,⟨od,es,ep,e,c⟩,r⟩:=x; exact ⟨mA,⟨od,es,ep,k _ _ (.inl rfl) e,c⟩,r⟩
 | rng lo hi=>obtain ⟨t,u,v,e⟩:=x; exact ⟨t,u,v,k _ _ (.inl rfl) e⟩
 | frz ob u ih=>obtain ⟨e,q⟩:=x; exact ⟨k _ _ (.inl rfl) e,ih q⟩
 | tbl ps =>
  have e:h.get? a=some { cls:=.none,data:=.fields ps }:=x
  show h'.get? a=some { cls:=.none,data:=.fields ps }
  exact k a _ (.inl rfl) e
 | met f y =>
  have e:h.get? a=some (PySem.W.methodObj (.ref f) (.ref y)):=x
  show h'.get? a=some (PySem.W.methodObj (.ref f) (.ref y))
  exact k a _ (.inl rfl) e
 | ext φ=>obtain ⟨p,⟨o,e⟩,st⟩:=x; exact ⟨st _ _ p fun o q=>k _ _ (.inl rfl) q,⟨o,k _ _ (.inl rfl) e⟩,st⟩
theorem HOk.lt (x:HOk P w H h) (e:H a=some o):a<h.objs.size:=(x a o e).lt
theorem HOk.fresh (x:HOk P w H h) (e:h.objs.size≤a):H a=none:=by
 cases q:H a with
 | none=>rfl
 | some u=>exact absurd (Nat.lt_of_lt_of_le (x.lt q) e) (Nat.lt_irrefl _)
theorem HOk.kept (x:HOk P w H h) (k:∀ b u,h.get? b=some u->h'.get? b=some u):HOk P w H h':=fun a o e =>
 (x a o e).stay (fun b u _ q=>k b u q) (fun _ q=>q) fun _ _ q=>q
theorem HOk.laid (x:HOk P w H h) (k:∀ b u,h.get? b=some u->h'.get? b=some u) (hp:h.objs.size≤a) (new:ObjOk P w (upd H a o) h' a o):HOk P w (upd H a o) h':=fun b u e=>by
 have hn:=x.fresh hp
 by_cases hb:b=a
 ·subst hb; rw [upd_same] at e; cases e; exact new
 ·rw [upd_ne hb] at e
  exact (x b u e).stay (fun c v _ q=>k c v q) (fun c q=>by rw [upd_ne (ne_of_none q hn)]; exact q) fun c xs q=>by rw [upd_ne (ne_of_none q hn)]; exact q
end
def Rd (H:Hp) (a:Addr) (u:HO):Prop:=H a=some u∨∃ o,H a=some (.frz o u)
theorem Rd.of {H:Hp} {a:Addr} {u:HO} (h:H a=some u):Rd H a u:=.inl h
theorem Rd.ok {P:Program} {w:World} {H:Hp} {h:Heap} {a:Addr} {u:HO} (r:Rd H a u) (x:HOk P w H h):ObjOk P w H h a u:=by
 rcases r with r | ⟨o,r⟩
 ·exact x a u r
 ·obtain ⟨_,q⟩:=x a _ r
  exact q
def Mut:Option HO->Prop
 | some (.lst _)=>True
 | some (.dK _)=>True
 | some (.dT _)=>True
 | some (.set _ _)=>True
 | some (.ins _ _ _)=>True
 | some (.ext _)=>True
 | _=>False
section
variable {P:Program} {w:World} {H:Hp} {h h':Heap} {x e:Addr} {o':HO}
theorem HOk.write (ok:HOk P w H h) (mu:Mut (H x)) (he:e=x∨H e=some (.own x)) (k:∀ b u,b≠e->h.get? b=some u->h'.get? b=some u) (heo:∃ u,h'.get? e=some u)
  (new:ObjOk P w (upd H x o') h' x o'):HOk P w (upd H x o') h':=fun b u q=>by
 have nown:∀ c y,H c=some (.own y)->c≠x:=fun c y r z=>by subst z; rw [r] at mu; exact mu
 have ntup:∀ c xs,H c=some (.tup xs)->c≠x:=fun c xs r z=>by subst z; rw [r] at mu; exact mu
 by_cases hb:b=x
 ·subst hb; rw [upd_same] at q; cases q; exact new
 ·rw [upd_ne hb] at q
  by_cases hbe:b=e
  ·have q':H b=some (.own x):=by
    rcases he with z | z
    ·exact absurd (hbe.trans z) hb
    ·rw [hbe]; exact z
   rw [q] at q'; cases q'
   obtain ⟨v,hv⟩:=heo
   exact ⟨v,by rw [hbe]; exact hv⟩
  ·refine (ok b u q).stay (fun c v hc r=>k c v ?_ r) (fun c r=>by rw [upd_ne (nown c b r)]; exact r) fun c xs r=>by rw [upd_ne (ntup c xs r)]; exact r
   rcases hc with rfl | hc
   ·exact hbe
   ·rintro rfl
    rcases he with z | z
    ·exact nown c b hc z
    ·rw [hc] at z; cases z; exact hb rfl
end
structure Un (fs ex:List Addr) (H H':Hp) (h h':Heap):Prop where
 keep:∀ b o,h.get? b=some o->H b=none->b∉fs->b∉ex->h'.get? b=some o
 slot:∀ b o,h.get? b=some o->H b=none->b∈fs->b∉ex->∃ sl,h'.get? b=some { o with slots:=sl }
 free:∀ b o,h.get? b=some o->H b=none->b∉ex->H' b=none
 there:∀ b o,h.get? b=some o->b∉ex->∃ o',h'.get? b=some o'
 tups:∀ b xs,H b=some (.tup xs)->H' b=some (.tup xs)
 frzs:∀ b o u,H b=some (.frz o u)->H' b=some (.frz o u)
 tbls:∀ b ps,H b=some (.tbl ps)->∃ more,H' b=some (.tbl (ps++more))
section
variable {fs fs' ex ex':List Addr} {H H1 H2:Hp} {h h1 h2 h':Heap} {a x e:Addr} {o:HO}
theorem Un.any (u:Un fs ex H H1 h h1) {b:Addr} {ob:Obj} (q:h.get? b=some ob) (n:H b=none) (hx:b∉ex):∃ sl,h1.get? b=some { ob with slots:=sl }:=by
 by_cases hb:b∈fs
 ·exact u.slot b ob q n hb hx
 ·exact ⟨ob.slots,u.keep b ob q n hb hx⟩
theorem Un.trans (a:Un fs ex H H1 h h1) (b:Un fs ex H1 H2 h1 h2):Un fs ex H H2 h h2 where
 keep:=fun c ob q n hc hx=>b.keep c ob (a.keep c ob q n hc hx) (a.free c ob q n hx) hc hx
 slot:=fun c ob q n hc hx=>by
  obtain ⟨sl,e1⟩:=a.slot c ob q n hc hx
  obtain ⟨sl',e2⟩:=b.slot c _ e1 (a.free c ob q n hx) hc hx
  exact ⟨sl',e2⟩
 free:=fun c ob q n hx=>by
  obtain ⟨o',e1⟩:=a.there c ob q hx
  exact b.free c o' e1 (a.free c ob q n hx) hx
 there:=fun c ob q hx=>by
  obtain ⟨o',e1⟩:=a.there c ob q hx
  exact b.there c o' e1 hx
 tups:=fun c xs q=>b.tups c xs (a.tups c xs q)
 frzs:=fun c ob xs q=>b.frzs c ob xs (a.frzs c ob xs q)
 tbls:=fun c ps q=>by
  obtain ⟨m1,e1⟩:=a.tbls c ps q
  obtain ⟨m2,e2⟩:=b.tbls c _ e1
  exact ⟨m1++m2,by rw [e2,Array.append_assoc]⟩
theorem Un.kept (k:∀ b u,h.get? b=some u->h'.get? b=some u):Un fs ex H H h h' :=
 ⟨fun b ob q _ _ _=>k b ob q,fun b ob q _ _ _=>⟨ob.slots,k b ob q⟩,fun _ _ _ n _=>n,fun b ob q _=>⟨ob,k b ob q⟩,fun _ _ q=>q,fun _ _ _ q=>q,fun _ ps q=>⟨#[],by rw [q]; simp⟩⟩
theorem Un.refl:Un fs ex H H h h:=Un.kept fun _ _ q=>q
theorem Un.laid (k:∀ b u,h.get? b=some u->h'.get? b=some u) (hp:h.objs.size≤a) (hn:H a=none):Un fs ex H (upd H a o) h h' where
 keep:=fun b u q _ _ _=>k b u q
 slot:=fun b u q _ _ _=>⟨u.slots,k b u q⟩
 free:=fun b u q n _=>by rw [upd_ne (Nat.ne_of_lt (Nat.lt_of_lt_of_le (Heap.lt_size q) hp))]; exact n
 there:=fun b u q _=>⟨u,k b u q⟩
 tups:=fun b xs q=>by rw [upd_ne (ne_of_none q hn)]; exact q
 frzs:=fun b u xs q=>by rw [upd_ne (ne_of_none q hn)]; exact q
 tbls:=fun b ps q=>⟨#[],by rw [upd_ne (ne_of_none q hn),q]; simp⟩
theorem Un.write (mu:Mut (H x)) (he:e=x∨H e=some (.own x)) (k:∀ b u,b≠e->h.get? b=some u->h'.get? b=some u) (heo:∃ u,h'.get? e=some u):Un fs ex H (upd H x o) h h':=by
 have hx:∀ b,H b=none->b≠x:=fun b n z=>by subst z; rw [n] at mu; exact mu
 have hb:∀ b,H b=none->b≠e:=fun b n z=>by
  subst z
  rcases he with r | r
  ·exact hx b n r
  ·rw [n] at r; cases r
 have hm:∀ b u,H b=some u->¬ Mut (some u)->b≠x:=fun b u q nm z=>by subst z; rw [q] at mu; exact nm mu
 refine ⟨fun b u q n _ _=>k b u (hb b n) q,fun b u q n _ _=>⟨u.slots,k b u (hb b n) q⟩,fun b u q n _=>by rw [upd_ne (hx b n)]; exact n,fun b u q _=>?_,
  fun b xs q=>by rw [upd_ne (hm b _ q fun z=>z)]; exact q,fun b u xs q=>by rw [upd_ne (hm b _ q fun z=>z)]; exact q,fun b ps q=>⟨#[],by rw [upd_ne (hm b _ q fun z=>z),q]; simp⟩⟩
 by_cases hbe:b=e
 ·subst hbe; exact heo
 ·exact ⟨u,k b u hbe q⟩
theorem Un.mono (u:Un fs ex H H1 h h1) (hs:∀ b∈fs,b∈fs') (hx:∀ b∈ex,b∈ex'):Un fs' ex' H H1 h h1 :=
 ⟨fun b ob q n hb he=>u.keep b ob q n (fun z=>hb (hs b z)) fun z=>he (hx b z),fun _ _ q n _ he=>u.any q n fun z=>he (hx _ z),fun b ob q n he=>u.free b ob q n fun z=>he (hx b z),fun b ob q he=>u.there b ob q fun z=>he (hx b z),u.tups,u.frzs,u.tbls⟩
end
def trk (h:Heap) (H:Hp):List Addr:=(List.range h.objs.size).filter fun a=>(H a).isSome
def hidT (h:Heap) (H:Hp):Heap:=PySem.W.hideAll h (trk h H)
theorem hidT_size (h:Heap) (H:Hp):(hidT h H).objs.size=h.objs.size:=PySem.W.hideAll_size _ _
theorem hidT_get {h:Heap} {H:Hp} {b:Addr} {o:Obj} (e:h.get? b=some o) (n:H b=none):(hidT h H).get? b=some o :=
 PySem.W.hideAll_get _ e fun hm=>by
  have q:(H b).isSome=true:=(List.mem_filter.mp hm).2
  rw [n] at q; simp at q
theorem of_hidT {h:Heap} {H:Hp} {b:Addr} {o:Obj} (e:(hidT h H).get? b=some o):h.get? b=some o∧H b=none:=by
 have e':h.get? b=some o:=PySem.W.of_hideAll (trk h H) e
 refine ⟨e',?_⟩
 cases q:H b with
 | none=>rfl
 | some x =>
  have hm:b∈trk h H:=List.mem_filter.mpr ⟨List.mem_range.mpr (Heap.lt_size e'),by simp [q]⟩
  have z:(hidT h H).get? b=none:=PySem.W.hideAll_none (trk h H) hm
  rw [z] at e; cases e
def allNews (g h:Heap) (L:Addr):List (Addr×Obj):=(List.range h.objs.size).filterMap fun a=>if a=L∨(g.get? a).isSome=true then none else (h.get? a).map fun o=>(a,o)
def rest (g h:Heap) (L d:Addr):List (Addr×Obj):=(allNews g h L).filter fun p=>decide (p.1≠d)
end L2
namespace L2
open PySem PySem.Spec PyProof.Rows
structure Mod (K:PySem.W.Frag) (mg:Str->Option Value) (base:Heap):Prop where
 kin:K.In base
 glob:base.Ns mainGlobals mg
 blt:∃ mb,base.Ns builtinsNs mb∧∀ x:Str,x≠"__name__"->mb x=bootBuiltins x
 nolimit:base.NoLimit
structure Cx where
 prog:Program
 w:World
 K:PySem.W.Frag
 mg:Str->Option Value
 base:Heap
 A:Around
 N:List Str
 s₀:Shared
 H₀:Hp
 env:Env
 outer:List Env
 stack:List Env
 ex:List Addr
 fn:Str->Bool
 calm:Bool
 pn:List (Addr×Obj)
 xe:Value->Shared->Prop
def frs (l:List Env):List Addr:=l.filterMap (·.frame)
abbrev Cx.fs (X:Cx):List Addr:=frs X.outer
def Vis (sc:Scope) (x:Str):Prop:=sc.names.lookup x=some .local∨sc.names.lookup x=some .cell∨sc.names.lookup x=some .free
def Loc (sc:Scope) (x:Str):Prop:=sc.names.lookup x=some .local∨sc.names.lookup x=some .cell
def Look (env:Env) (h:Heap) (m:Str->Option Value) (x:Str) (u:Value):Prop :=
 (env.kindOf x=some .local∧m x=some u)∨((env.kindOf x=some .cell∨env.kindOf x=some .free)∧∃ c,env.cells.lookup x=some c∧h.IsCell c (some u))
structure Cx.Ok (X:Cx):Prop where
 mod:Mod X.K X.mg X.base
 kind:X.env.scope.kind=.function
 glob:X.env.globals=mainGlobals
 blt:X.env.builtins=builtinsNs
 above:X.s₀.heap.objs.size≤X.env.locals
 inj:∀ x y c,X.env.cells.lookup x=some c->X.env.cells.lookup y=some c->x=y
 has:∀ x,(X.env.kindOf x=some .cell∨X.env.kindOf x=some .free)->∃ c,X.env.cells.lookup x=some c
 cab:∀ x c,X.fn x=true->X.env.cells.lookup x=some c->X.s₀.heap.objs.size≤c
 hd:X.calm=true->X.A.handled=none
 frames:X.A.frames=some X.stack
 stk:X.stack=X.outer∨(X.stack=X.env :: X.outer∧X.env.frame=some X.env.locals)
 exf:∀ b∈X.ex,b≠X.env.locals∧∀ x c,X.env.cells.lookup x=some c->c≠b
 bs:∀ b o,X.base.get? b=some o->X.s₀.heap.get? b=some o∧X.H₀ b=none
 bsz:X.base.objs.size≤X.s₀.heap.objs.size
 noex:∀ b o,X.base.get? b=some o->b∉X.ex
 exfs:∀ b∈X.ex,b∉X.fs
 funs:X.s₀.heap.FunFrames X.base X.outer
 frf:∀ b∈X.fs,X.H₀ b=none
structure Inv (X:Cx) (pins:List (Addr×Obj)) (σ:List (Option V)) (H:Hp) (s:Shared):Prop where
 ok:X.Ok
 os:s.os=X.s₀.os
 bare:AllBare s.gens
 base:Un X.fs X.ex X.H₀ H X.s₀.heap s.heap
 loc:∃ m,s.heap.Ns X.env.locals m∧∀ (i:Nat) (x:Str) (v:V),X.N[i]?=some x->σ[i]?=some (some v)->Vis X.env.scope x->∃ u,RelV v u∧Look X.env s.heap m x u
 cell:∀ x c,X.env.cells.lookup x=some c->∃ v,s.heap.IsCell c v
 free:H X.env.locals=none
 freeC:∀ x c,X.env.cells.lookup x=some c->H c=none
 pin:∀ p∈X.pn++pins,s.heap.get? p.1=some p.2∧H p.1=none∧p.1≠X.env.locals∧p.1∉X.fs∧∀ v,p.2.data≠.cell v
 hok:HOk X.prog X.w H s.heap
 len:σ.length=X.N.length
section
variable {X:Cx} {pins:List (Addr×Obj)} {σ:List (Option V)} {H H':Hp} {s:Shared} {h':Heap}
theorem Cx.Ok.nofr (ok:X.Ok) {b:Addr} {o:Obj} (e:X.base.get? b=some o):b∉X.fs:=fun hb=>by
 have:=(ok.funs.mem hb).1
 rw [e] at this; cases this
theorem Inv.bs (I:Inv X pins σ H s):∀ b o,X.base.get? b=some o->s.heap.get? b=some o∧H b=none:=fun b o e =>
 ⟨I.base.keep b o (I.ok.bs b o e).1 (I.ok.bs b o e).2 (I.ok.nofr e) (I.ok.noex b o e),I.base.free b o (I.ok.bs b o e).1 (I.ok.bs b o e).2 (I.ok.noex b o e)⟩
theorem Inv.bk (I:Inv X pins σ H s):∀ b o,X.base.get? b=some o->s.heap.get? b=some o:=fun b o e=>(I.bs b o e).1
theorem Inv.mod (I:Inv X pins σ H s):Mod X.K X.mg X.base:=I.ok.mod
theorem Inv.kIn (I:Inv X pins σ H s):X.K.In s.heap:=I.ok.mod.kin.keeps I.bk
theorem Inv.nolimit (I:Inv X pins σ H s):s.heap.NoLimit:=I.ok.mod.nolimit.keeps I.bk
theorem Inv.fr (I:Inv X pins σ H s):∃ m,Fr X.base X.env.locals s.heap m :=
 let ⟨m,hn,_⟩:=I.loc
 ⟨m,hn,I.bk,Nat.le_trans I.ok.bsz I.ok.above⟩
theorem Inv.lt (I:Inv X pins σ H s):X.env.locals<s.heap.objs.size:=let ⟨_,hn,_⟩:=I.loc; hn.lt
theorem Inv.sz (I:Inv X pins σ H s):X.s₀.heap.objs.size≤s.heap.objs.size:=Nat.le_trans I.ok.above (Nat.le_of_lt I.lt)
theorem Inv.nofs (I:Inv X pins σ H s) {a:Addr} (h:s.heap.objs.size≤a):a∉X.fs:=fun hb=>by
 obtain ⟨_,o,ho,_⟩:=I.ok.funs.mem hb
 exact absurd (Nat.lt_of_lt_of_le (Heap.lt_size ho) (Nat.le_trans I.sz h)) (Nat.lt_irrefl _)
theorem Inv.cne (I:Inv X pins σ H s):∀ x c,X.env.cells.lookup x=some c->c≠X.env.locals:=fun x c e z=>by
 obtain ⟨v,o,ho,hd⟩:=I.cell x c e
 obtain ⟨m,⟨o',es,ep,ho',hd',_⟩,_⟩:=I.loc
 rw [z,ho'] at ho; cases ho; rw [hd'] at hd; cases hd
theorem Inv.funs (I:Inv X pins σ H s):s.heap.FunFrames X.base X.outer:=by
 have all:∀ (l:List Env),(∀ b∈frs l,b∈X.fs)->X.s₀.heap.FunFrames X.base l->s.heap.FunFrames X.base l:=by
  intro l
  induction l with
  | nil=>intro _ _; trivial
  | cons env r ih =>
   intro hs hl
   obtain ⟨hk,⟨L,o,hf,hn,ho,hd⟩,hr⟩:=hl
   have hL:L∈X.fs:=hs L (by unfold frs; rw [List.filterMap_cons,hf]; exact List.mem_cons_self)
   obtain ⟨sl,e⟩:=I.base.slot L o ho (I.ok.frf L hL) hL fun z=>I.ok.exfs L z hL
   exact ⟨hk,⟨L,_,hf,hn,e,hd⟩,ih (fun b hb=>hs b (by unfold frs; rw [List.filterMap_cons,hf]; exact List.mem_cons_of_mem _ hb)) hr⟩
 exact all X.outer (fun _ hb=>hb) I.ok.funs
theorem Inv.stack (I:Inv X pins σ H s):s.heap.FunFrames X.base X.stack:=by
 rcases I.ok.stk with e | ⟨e,hf⟩
 ·rw [e]; exact I.funs
 ·rw [e]
  obtain ⟨m,hn,_⟩:=I.loc
  refine .cons (by rw [I.ok.kind]; decide) hf hn ?_ I.funs
  exact Heap.get?_none_of_le (Nat.le_trans I.ok.bsz I.ok.above)
theorem Inv.stkSub (I:Inv X pins σ H s):∀ b∈frs X.stack,b∈X.env.locals :: X.fs:=fun b hb=>by
 rcases I.ok.stk with e | ⟨e,hf⟩
 ·rw [e] at hb; exact List.mem_cons_of_mem _ hb
 ·rw [e] at hb
  unfold frs at hb
  rw [List.filterMap_cons,hf] at hb
  exact hb
theorem Inv.stkFree (I:Inv X pins σ H s):∀ b∈frs X.stack,H b=none:=fun b hb=>by
 rcases List.mem_cons.mp (I.stkSub b hb) with e | hb
 ·rw [e]; exact I.free
 ·obtain ⟨_,o,ho,_⟩:=I.ok.funs.mem hb
  exact I.base.free b o ho (I.ok.frf b hb) fun z=>I.ok.exfs b z hb
theorem Inv.step {g':Array GenState} {t':Nat} {d':Drawn} {ch:List Addr} (I:Inv X pins σ H s)
  (hch:∀ b∈ch,(b∈X.ex∨X.s₀.heap.objs.size≤b)∧b≠X.env.locals∧(∀ x c,X.env.cells.lookup x=some c->c≠b)∧∀ p∈X.pn++pins,p.1≠b)
  (keep:∀ b o,b≠X.env.locals->b∉X.fs->b∉ch->s.heap.get? b=some o->H b=none->h'.get? b=some o)
  (slot:∀ b o,b≠X.env.locals->b∈X.fs->b∉ch->s.heap.get? b=some o->H b=none->∃ sl,h'.get? b=some { o with slots:=sl }) (free:∀ b o,b∉ch->s.heap.get? b=some o->H b=none->H' b=none)
  (there:∀ b o,b∉ch->s.heap.get? b=some o->∃ o',h'.get? b=some o')
  (tups:∀ b xs,H b=some (.tup xs)->H' b=some (.tup xs)) (frzs:∀ b o u,H b=some (.frz o u)->H' b=some (.frz o u)) (tbls:∀ b ps,H b=some (.tbl ps)->∃ more,H' b=some (.tbl (ps++more)))
  (ns:∀ m,s.heap.Ns X.env.locals m->h'.Ns X.env.locals m) (hok:HOk X.prog X.w H' h') (hg:AllBare g') :
  Inv X pins σ H' { s with heap:=h',gens:=g',drawn:=d',toks:=t' }:=by
 have neL:∀ b o,X.s₀.heap.get? b=some o->b≠X.env.locals:=fun b o e=>Nat.ne_of_lt (Nat.lt_of_lt_of_le (Heap.lt_size e) I.ok.above)
 have neC:∀ b o,X.s₀.heap.get? b=some o->b∉X.ex->b∉ch:=fun b o e hx hb=>by
  rcases (hch b hb).1 with z | z
  ·exact hx z
  ·exact absurd (Nat.lt_of_lt_of_le (Heap.lt_size e) z) (Nat.lt_irrefl _)
 have cellK:∀ x c,X.env.cells.lookup x=some c->∀ v,s.heap.IsCell c v->h'.IsCell c v:=fun x c e v ⟨o,ho,hd⟩=>by
  have nch:c∉ch:=fun z=>(hch c z).2.2.1 x c e rfl
  by_cases hc:c∈X.fs
  ·obtain ⟨sl,q⟩:=slot c o (I.cne x c e) hc nch ho (I.freeC x c e)
   exact ⟨_,q,hd⟩
  ·exact ⟨o,keep c o (I.cne x c e) hc nch ho (I.freeC x c e),hd⟩
 refine ⟨I.ok,I.os,hg,⟨fun b o e n hb hx=>?_,fun b o e n hb hx=>?_,fun b o e n hx=>?_,fun b o e hx=>?_,fun b xs e=>tups b xs (I.base.tups b xs e),fun b o xs e=>frzs b o xs (I.base.frzs b o xs e),fun b ps e=>?_⟩,?_,fun x c e=>?_,?_,fun x c e=>?_,fun p hp=>?_,hok,I.len⟩
 ·exact keep b o (neL b o e) hb (neC b o e hx) (I.base.keep b o e n hb hx) (I.base.free b o e n hx)
 ·obtain ⟨sl,e1⟩:=I.base.slot b o e n hb hx
  obtain ⟨sl',e2⟩:=slot b _ (neL b o e) hb (neC b o e hx) e1 (I.base.free b o e n hx)
  exact ⟨sl',e2⟩
 ·obtain ⟨o',e1⟩:=I.base.there b o e hx
  exact free b o' (neC b o e hx) e1 (I.base.free b o e n hx)
 ·obtain ⟨o',e1⟩:=I.base.there b o e hx
  exact there b o' (neC b o e hx) e1
 ·obtain ⟨m1,e1⟩:=I.base.tbls b ps e
  obtain ⟨m2,e2⟩:=tbls b _ e1
  exact ⟨m1++m2,by rw [e2,Array.append_assoc]⟩
 ·obtain ⟨m,hn,hl⟩:=I.loc
  refine ⟨m,ns m hn,fun i x v e1 e2 e3=>?_⟩
  obtain ⟨u,r,l⟩:=hl i x v e1 e2 e3
  refine ⟨u,r,?_⟩
  rcases l with l | ⟨k,c,e,z⟩
  ·exact .inl l
  ·exact .inr ⟨k,c,e,cellK x c e _ z⟩
 ·obtain ⟨v,z⟩:=I.cell x c e
  exact ⟨v,cellK x c e v z⟩
 ·obtain ⟨m,⟨o,_,_,ho,_⟩,_⟩:=I.loc
  exact free _ o (fun z=>(hch _ z).2.1 rfl) ho I.free
 ·obtain ⟨v,o,ho,hd⟩:=I.cell x c e
  exact free c o (fun z=>(hch c z).2.2.1 x c e rfl) ho (I.freeC x c e)
 ·obtain ⟨e,n,ne,nf,d⟩:=I.pin p hp
  have nch:p.1∉ch:=fun z=>(hch p.1 z).2.2.2 p hp rfl
  exact ⟨keep p.1 p.2 ne nf nch e n,free p.1 p.2 nch e n,ne,nf,d⟩
theorem Inv.un {t':Nat} (I:Inv X pins σ H s) (u:Un X.fs [] H H' s.heap h') (hok:HOk X.prog X.w H' h'):Inv X pins σ H' { s with heap:=h',toks:=t' }:=by
 obtain ⟨m,⟨o,es,ep,ho,r⟩,_⟩:=id I.loc
 obtain ⟨sl,hL⟩:=u.any ho I.free (by simp)
 exact I.step (g':=s.gens) (d':=s.drawn) (ch:=[]) (fun _ z=>nomatch z) (fun b o _ hb _ e n=>u.keep b o e n hb (by simp)) (fun b o _ hb _ e n=>u.slot b o e n hb (by simp)) (fun b o _ e n=>u.free b o e n (by simp)) (fun b o _ e=>u.there b o e (by simp)) u.tups u.frzs u.tbls (fun m' hm=>by
  obtain ⟨o',es',ep',ho',r'⟩:=hm
  rw [ho] at ho'; cases ho'
  exact ⟨_,es',ep',hL,r'⟩) hok I.bare
theorem Inv.call {g':Array GenState} {t':Nat} {d':Drawn} {ch:List Addr} (I:Inv X pins σ H s) (u:Un (frs X.stack) ch H H' s.heap h') (hok:HOk X.prog X.w H' h') (hg:AllBare g')
  (hch:∀ b∈ch,(b∈X.ex∨X.s₀.heap.objs.size≤b)∧b≠X.env.locals∧(∀ x c,X.env.cells.lookup x=some c->c≠b)∧∀ p∈X.pn++pins,p.1≠b) :
  Inv X pins σ H' { s with heap:=h',gens:=g',drawn:=d',toks:=t' }:=by
 obtain ⟨m,⟨o,es,ep,ho,r⟩,_⟩:=id I.loc
 obtain ⟨sl,hL⟩:=u.any ho I.free fun z=>(hch _ z).2.1 rfl
 exact I.step (ch:=ch) hch (fun b o hL hb hc e n=>u.keep b o e n (fun z=>(List.mem_cons.mp (I.stkSub b z)).elim hL hb) hc) (fun b o _ _ hc e n=>u.any e n hc) (fun b o hc e n=>u.free b o e n hc) (fun b o hc e=>u.there b o e hc) u.tups u.frzs u.tbls (fun m' hm=>by
  obtain ⟨o',es',ep',ho',r'⟩:=hm
  rw [ho] at ho'; cases ho'
  exact ⟨_,es',ep',hL,r'⟩) hok hg
theorem Inv.turned {t':Nat} {it:Addr} (I:Inv X pins σ H s) (k:∀ b o,b≠it->s.heap.get? b=some o->h'.get? b=some o) (hn:H it=none) (hL:it≠X.env.locals)
  (h1:it∈X.ex∨X.s₀.heap.objs.size≤it) (h2:∀ x c,X.env.cells.lookup x=some c->c≠it) (h3:∀ p∈X.pn++pins,p.1≠it):Inv X pins σ H { s with heap:=h',toks:=t' }:=by
 have nit:∀ b u,H b=some u->b≠it:=fun b u e z=>by rw [z,hn] at e; cases e
 refine I.step (g':=s.gens) (d':=s.drawn) (ch:=[it]) (fun b hb=>?_) (fun b o _ _ hc e _=>k b o (fun z=>hc (by simp [z])) e) (fun b o _ _ hc e _=>⟨o.slots,k b o (fun z=>hc (by simp [z])) e⟩) (fun _ _ _ _ n=>n)
  (fun b o hc e=>⟨o,k b o (fun z=>hc (by simp [z])) e⟩) (fun _ _ e=>e) (fun _ _ _ e=>e) (fun b ps e=>⟨#[],by rw [e]; simp⟩) (fun m hm=>?_) (fun b u e=>?_) I.bare
 ·have e:b=it:=by simpa using hb
  subst e
  exact ⟨h1,hL,h2,h3⟩
 ·obtain ⟨o,es,ep,ho,r⟩:=hm
  exact ⟨o,es,ep,k _ o (Ne.symm hL) ho,r⟩
 ·refine (I.hok b u e).stay (fun c v hc q=>k c v ?_ q) (fun _ q=>q) fun _ _ q=>q
  rcases hc with z | z
  ·rw [z]; exact nit b u e
  ·exact nit c _ z
theorem Inv.tok (I:Inv X pins σ H s) (t:Nat):Inv X pins σ H { s with toks:=t }:=I.un (h':=s.heap) (t':=t) Un.refl I.hok
theorem Inv.kept {t':Nat} (I:Inv X pins σ H s) (k:∀ b u,s.heap.get? b=some u->h'.get? b=some u):Inv X pins σ H { s with heap:=h',toks:=t' }:=I.un (Un.kept k) (I.hok.kept k)
theorem Inv.laid {a:Addr} {o:HO} {t':Nat} (I:Inv X pins σ H s) (k:∀ b u,s.heap.get? b=some u->h'.get? b=some u) (hp:s.heap.objs.size≤a) (new:ObjOk X.prog X.w (upd H a o) h' a o) :
  Inv X pins σ (upd H a o) { s with heap:=h',toks:=t' }:=I.un (Un.laid k hp (I.hok.fresh hp)) (I.hok.laid k hp new)
theorem Inv.write {x e:Addr} {o:HO} {t':Nat} (I:Inv X pins σ H s) (mu:Mut (H x)) (he:e=x∨H e=some (.own x)) (k:∀ b u,b≠e->s.heap.get? b=some u->h'.get? b=some u) (heo:∃ u,h'.get? e=some u)
  (new:ObjOk X.prog X.w (upd H x o) h' x o):Inv X pins σ (upd H x o) { s with heap:=h',toks:=t' }:=I.un (Un.write mu he k heo) (I.hok.write mu he k heo new)
theorem Inv.pins_of {pins':List (Addr×Obj)} (I:Inv X pins σ H s) (h:∀ p∈pins',s.heap.get? p.1=some p.2∧H p.1=none∧p.1≠X.env.locals∧p.1∉X.fs∧∀ v,p.2.data≠.cell v):Inv X pins' σ H s :=
 ⟨I.ok,I.os,I.bare,I.base,I.loc,I.cell,I.free,I.freeC,fun p hp=>(List.mem_append.mp hp).elim (fun z=>I.pin p (List.mem_append_left _ z)) (h p),I.hok,I.len⟩
theorem nodup_ix {N:List Str} (hN:N.Nodup) {i j:Nat} {x:Str} (a:N[i]?=some x) (b:N[j]?=some x):i=j:=by
 obtain ⟨h1,e1⟩:=List.getElem?_eq_some_iff.mp a
 obtain ⟨h2,e2⟩:=List.getElem?_eq_some_iff.mp b
 exact (List.getElem_inj hN).mp (e1.trans e2.symm)
theorem store_ok2 {M:Model} {A:Around} {E:Value->Shared->Prop} {i:Nat} {x:Str} {v:V} {u:Value} {Q:Unit->Shared->Prop} (I:Inv X pins σ H s) (hN:X.N.Nodup) (hi:X.N[i]?=some x) (hx:Loc X.env.scope x) (r:RelV v u)
  (h:∀ s',Inv X pins (σ.set i (some v)) H s'->(∃ a,Heap.SameBut a s.heap s'.heap∧(a=X.env.locals∨X.env.cells.lookup x=some a))->Q () s') (hf:X.fn x=true∨X.env.scope.names.lookup x=some .local:=by first | exact .inl rfl | exact .inr rfl | assumption):wpAny M A (storeName X.env x u) Q E s:=by
 obtain ⟨m,hn,hl⟩:=id I.loc
 have hcls:(X.env.scope.kind == .class || (X.env.scope.kind == .module && X.env.locals != X.env.globals))=false:=by rw [I.ok.kind]; rfl
 have hiσ:i<σ.length:=by rw [I.len]; exact (List.getElem?_eq_some_iff.mp hi).1
 have cne:=I.cne
 have tracked:∀ {a:Addr} {h':Heap},(∃ o,s.heap.get? a=some o∧H a=none)->Heap.SameBut a s.heap h'->HOk X.prog X.w H h':=fun {a h'} ha hs b ob e=>by
  obtain ⟨_,_,hfree⟩:=ha
  refine (I.hok b ob e).stay (fun c w' hc q=>(hs.2 c ?_).trans q) (fun _ q=>q) fun _ _ q=>q
  rintro rfl
  rcases hc with rfl | hc
  ·rw [hfree] at e; cases e
  ·rw [hfree] at hc; cases hc
 rcases hx with hk | hk
 ·refine wpAny_storeName_local hk hn (fun h' hn' hs=>?_) hcls
  obtain ⟨oL,_,_,hoL,_⟩:=id hn
  refine h _ ⟨I.ok,I.os,I.bare,⟨fun b o e n hb hx=>?_,fun b o e n hb hx=>?_,I.base.free,fun b o e hx=>?_,I.base.tups,I.base.frzs,I.base.tbls⟩,⟨_,hn',fun j y v' e1 e2 e3=>?_⟩,fun y c e=>?_,I.free,I.freeC,fun p hp=>?_,tracked ⟨oL,hoL,I.free⟩ hs,by simpa using I.len⟩ ⟨_,hs,.inl rfl⟩
  ·exact (hs.2 b (Nat.ne_of_lt (Nat.lt_of_lt_of_le (Heap.lt_size e) I.ok.above))).trans (I.base.keep b o e n hb hx)
  ·obtain ⟨sl,e1⟩:=I.base.slot b o e n hb hx
   exact ⟨sl,(hs.2 b (Nat.ne_of_lt (Nat.lt_of_lt_of_le (Heap.lt_size e) I.ok.above))).trans e1⟩
  ·obtain ⟨o',e1⟩:=I.base.there b o e hx
   exact ⟨o',(hs.2 b (Nat.ne_of_lt (Nat.lt_of_lt_of_le (Heap.lt_size e) I.ok.above))).trans e1⟩
  ·by_cases hj:j=i
   ·subst hj
    rw [hi] at e1; cases e1
    rw [List.getElem?_set_self hiσ] at e2
    cases e2
    exact ⟨u,r,.inl ⟨hk,by simp⟩⟩
   ·rw [List.getElem?_set_ne (Ne.symm hj)] at e2
    obtain ⟨u',r',q⟩:=hl j y v' e1 e2 e3
    refine ⟨u',r',?_⟩
    rcases q with ⟨k,e⟩ | ⟨k,c,e,z⟩
    ·refine .inl ⟨k,?_⟩
     have:y≠x:=fun e=>hj (nodup_ix hN e1 (e ▸ hi))
     simp [this,e]
    ·exact .inr ⟨k,c,e,z.sameBut hs (cne y c e)⟩
  ·obtain ⟨w',z⟩:=I.cell y c e
   exact ⟨w',z.sameBut hs (cne y c e)⟩
  ·obtain ⟨e,n,ne,nf,d⟩:=I.pin p hp
   exact ⟨(hs.2 p.1 ne).trans e,n,ne,nf,d⟩
 ·have hfn:X.fn x=true:=by
   rcases hf with z | z
   ·exact z
   ·rw [z] at hk; cases hk
  obtain ⟨c,hc⟩:=I.ok.has x (.inl hk)
  obtain ⟨w',z⟩:=I.cell x c hc
  refine wpAny_storeName_cell I.ok.kind hk hc z (fun h' hc' hs=>?_)
  obtain ⟨oc,hoc,hocd⟩:=id z
  refine h { s with heap:=h' } ⟨I.ok,I.os,I.bare,⟨fun b o e n hb hx=>?_,fun b o e n hb hx=>?_,I.base.free,fun b o e hx=>?_,I.base.tups,I.base.frzs,I.base.tbls⟩,⟨m,hn.sameBut hs (Ne.symm (cne x c hc)),fun j y v' e1 e2 e3=>?_⟩,fun y c' e=>?_,I.free,I.freeC,fun p hp=>?_,tracked ⟨oc,hoc,I.freeC x c hc⟩ hs,by simpa using I.len⟩ ⟨c,hs,.inr hc⟩
  ·exact (hs.2 b (Nat.ne_of_lt (Nat.lt_of_lt_of_le (Heap.lt_size e) (I.ok.cab x c hfn hc)))).trans (I.base.keep b o e n hb hx)
  ·obtain ⟨sl,e1⟩:=I.base.slot b o e n hb hx
   exact ⟨sl,(hs.2 b (Nat.ne_of_lt (Nat.lt_of_lt_of_le (Heap.lt_size e) (I.ok.cab x c hfn hc)))).trans e1⟩
  ·obtain ⟨o',e1⟩:=I.base.there b o e hx
   exact ⟨o',(hs.2 b (Nat.ne_of_lt (Nat.lt_of_lt_of_le (Heap.lt_size e) (I.ok.cab x c hfn hc)))).trans e1⟩
  ·by_cases hj:j=i
   ·subst hj
    rw [hi] at e1; cases e1
    rw [List.getElem?_set_self hiσ] at e2
    cases e2
    exact ⟨u,r,.inr ⟨.inl hk,c,hc,hc'⟩⟩
   ·rw [List.getElem?_set_ne (Ne.symm hj)] at e2
    obtain ⟨u',r',q⟩:=hl j y v' e1 e2 e3
    refine ⟨u',r',?_⟩
    rcases q with q | ⟨k,c',e,z'⟩
    ·exact .inl q
    ·refine .inr ⟨k,c',e,z'.sameBut hs ?_⟩
     rintro rfl
     exact hj (nodup_ix hN e1 (I.ok.inj _ _ _ e hc ▸ hi))
  ·by_cases hcc:c'=c
   ·subst hcc; exact ⟨_,hc'⟩
   ·obtain ⟨w2,z2⟩:=I.cell y c' e
    exact ⟨w2,z2.sameBut hs hcc⟩
  ·obtain ⟨e,n,ne,nf,d⟩:=I.pin p hp
   refine ⟨(hs.2 p.1 ?_).trans e,n,ne,nf,d⟩
   intro q
   rw [q,hoc] at e
   have q':oc=p.2:=Option.some.inj e
   exact d w' (by rw [←q']; exact hocd)
theorem store_ok {M:Model} {A:Around} {E:Value->Shared->Prop} {i:Nat} {x:Str} {v:V} {u:Value} {Q:Unit->Shared->Prop} (I:Inv X pins σ H s) (hN:X.N.Nodup) (hi:X.N[i]?=some x) (hx:Loc X.env.scope x) (r:RelV v u)
  (h:∀ s',Inv X pins (σ.set i (some v)) H s'->Q () s') (hf:X.fn x=true∨X.env.scope.names.lookup x=some .local:=by first | exact .inl rfl | exact .inr rfl | assumption):wpAny M A (storeName X.env x u) Q E s :=
 store_ok2 I hN hi hx r (fun s' I' _=>h s' I') hf
theorem Inv.call' {s':Shared} {ch:List Addr} (I:Inv X pins σ H s) (ho:s'.os=s.os) (u:Un (frs X.stack) ch H H' s.heap s'.heap) (hok:HOk X.prog X.w H' s'.heap) (hg:AllBare s'.gens)
  (hch:∀ b∈ch,(b∈X.ex∨X.s₀.heap.objs.size≤b)∧b≠X.env.locals∧(∀ x c,X.env.cells.lookup x=some c->c≠b)∧∀ p∈X.pn++pins,p.1≠b):Inv X pins σ H' s':=by
 obtain ⟨h',g',d',t',o'⟩:=s'
 have e:o'=s.os:=ho
 subst e
 exact I.call (g':=g') (t':=t') (d':=d') u hok hg hch
end
abbrev XK:=Value->Option Addr->Hp->Prop
abbrev St:=List (Option V)
abbrev VK:=V->Hp->Prop
abbrev TE:=St->Hp->VK->Prop
abbrev TT:=St->Hp->(Bool->Hp->Prop)->Prop
abbrev TA:=St->Hp->(List V->Hp->Prop)->Prop
structure Ends where
 nx:St->Hp->Prop
 rt:VK
 bk:St->Hp->Prop:=fun _ _=>False
 ct:St->Hp->Prop:=fun _ _=>False
abbrev TS:=Ends->St->Hp->Prop
def EP (X:Cx) (pins:List (Addr×Obj)) (σ:St) (Q:VK) (u:Value) (s':Shared):Prop:=∃ v H',Inv X pins σ H' s'∧RelV v u∧Q v H'
def TP (X:Cx) (pins:List (Addr×Obj)) (σ:St) (Q:Bool->Hp->Prop) (b:Bool) (s':Shared):Prop:=∃ H',Inv X pins σ H' s'∧Q b H'
def AP (X:Cx) (pins:List (Addr×Obj)) (σ:St) (Q:List V->Hp->Prop) (us:List Value) (s':Shared):Prop:=∃ vs H',Inv X pins σ H' s'∧Vals vs us∧Q vs H'
def SP (X:Cx) (pins:List (Addr×Obj)) (D:Ends) (f:Flow) (s':Shared):Prop :=
 match f with
 | .next=>∃ σ' H',Inv X pins σ' H' s'∧D.nx σ' H'
 | .brk=>∃ σ' H',Inv X pins σ' H' s'∧D.bk σ' H'
 | .cont=>∃ σ' H',Inv X pins σ' H' s'∧D.ct σ' H'
 | .ret u=>∃ v σ' H',Inv X pins σ' H' s'∧RelV v u∧D.rt v H'
def PE (X:Cx) (e:Expr) (t:TE):Prop :=
 ∀ (pins:List (Addr×Obj)) (s:Shared) (σ:St) (H:Hp) (Q:VK),Inv X pins σ H s->t σ H Q->wpAny (model X.prog X.w) X.A (eval e X.env) (EP X pins σ Q) X.xe s
def PT (X:Cx) (e:Expr) (t:TT):Prop :=
 ∀ (pins:List (Addr×Obj)) (s:Shared) (σ:St) (H:Hp) (Q:Bool->Hp->Prop),Inv X pins σ H s->t σ H Q->wpAny (model X.prog X.w) X.A (isTrue e X.env (eval e X.env)) (TP X pins σ Q) X.xe s
def PW (X:Cx) (e:Expr) (t:TT):Prop :=
 ∀ (whole:Sem Value) (pins:List (Addr×Obj)) (s:Shared) (σ:St) (H:Hp) (Q:Bool->Hp->Prop),Inv X pins σ H s->t σ H Q->wpAny (model X.prog X.w) X.A (isTrue e X.env whole) (TP X pins σ Q) X.xe s
theorem PW.pt {X:Cx} {e:Expr} {t:TT} (h:PW X e t):PT X e t:=h _
def PA (X:Cx) (es:List Expr) (t:TA):Prop :=
 ∀ (pos:Pos) (pins:List (Addr×Obj)) (s:Shared) (σ:St) (H:Hp) (Q:List V->Hp->Prop),Inv X pins σ H s->t σ H Q->wpAny (model X.prog X.w) X.A (spliced (backTo pos (starEach es X.env))) (AP X pins σ Q) X.xe s
def PS (X:Cx) (st:Stmt) (t:TS):Prop :=
 ∀ (pins:List (Addr×Obj)) (s:Shared) (σ:St) (H:Hp) (D:Ends),Inv X pins σ H s->t D σ H->wpAny (model X.prog X.w) X.A (exec st X.env) (SP X pins D) X.xe s
def PSs (X:Cx) (st:List Stmt) (t:TS):Prop :=
 ∀ (pins:List (Addr×Obj)) (s:Shared) (σ:St) (H:Hp) (D:Ends),Inv X pins σ H s->t D σ H->wpAny (model X.prog X.w) X.A (execs st X.env) (SP X pins D) X.xe s
theorem thn {α:Type} {t:Sem α} {Q Q':α->Shared->Prop} {M:Model} {A:Around} {E:Value->Shared->Prop} {s:Shared} (h:wpAny M A t Q E s) (hQ:∀ a s,Q a s->Q' a s):wpAny M A t Q' E s:=wpAny_mono h hQ fun _ _ x=>x
end L2
namespace L2
open PySem PySem.Spec PyProof.Rows
section
variable {X:Cx}
inductive VarR (i:Nat) (σ:St) (H:Hp) (Q:VK):Prop
 | mk (v:V) (e:σ[i]?=some (some v)) (q:Q v H):VarR i σ H Q
def tVar (i:Nat):TE:=fun σ H Q=>VarR i σ H Q
inductive BlR (x:V) (H:Hp) (Q:Bool->Hp->Prop):Prop
 | mk (c:Bool) (e:x=.bl c) (q:Q c H):BlR x H Q
def tC (v:V):TE:=fun _ H Q=>Q v H
theorem pe_var {i:Nat} {x:Str} {pos:Pos} (hN:X.N[i]?=some x) (hv:Vis X.env.scope x) (hd:(x == ("__debug__":Str))=false:=by decide) (hcd:(x == ("__classdict__":Str))=false:=by decide):PE X (.Name x pos) (tVar i):=by
 intro pins s σ H Q I h
 obtain ⟨v,e,h⟩:=h
 obtain ⟨m,hn,hl⟩:=I.loc
 obtain ⟨u,r,l⟩:=hl i x v hN e hv
 have fin:EP X pins σ Q u s:=⟨v,H,I,r,h⟩
 rcases l with ⟨hk,hm⟩ | ⟨hk,c,hc,hcell⟩
 ·exact wpAny_Name (wpAny_loadName_local I.ok.kind hk hn hm fin) hd
 ·rcases hk with hk | hk
  ·exact wpAny_Name (wpAny_loadName_cell I.ok.kind hk hc hcell fin) hd
  ·exact wpAny_Name (wpAny_loadName_free I.ok.kind hk hc hcell fin hcd) hd
theorem pe_int {i j pos}:PE X (.Constant (.int i) j pos) (tC (.int i)):=fun _ _ _ H _ I h=>wpAny_Constant_int ⟨.int i,H,I.tok _,⟨_,rfl⟩,h⟩
theorem pe_bl {b j pos}:PE X (.Constant (.bool b) j pos) (tC (.bl b)):=fun _ _ _ H _ I h=>Constant_bool ⟨.bl b,H,I,rfl,h⟩
theorem pe_non {j pos}:PE X (.Constant .none j pos) (tC .non):=fun _ _ _ H _ I h=>Constant_none ⟨.non,H,I,rfl,h⟩
theorem pe_str {x j pos}:PE X (.Constant (.str x) j pos) (tC (.str x)):=fun _ _ _ H _ I h=>Calls.Constant_str ⟨.str x,H,I.tok _,⟨_,rfl⟩,h⟩
def Gl (X:Cx) (x:Str):Prop:=X.env.kindOf x=some .globalImplicit
theorem ld_glob {E:Value->Shared->Prop} {pins:List (Addr×Obj)} {s:Shared} {σ:St} {H:Hp} {x:Str} {u:Value} {pos:Pos} {Q:Value->Shared->Prop} (I:Inv X pins σ H s) (hg:Gl X x) (hm:X.mg x=some u) (h:Q u s)
  (hd:(x == ("__debug__":Str))=false:=by decide):wpAny (model X.prog X.w) X.A (eval (.Name x pos) X.env) Q E s :=
 Calls.Name_function_global I.ok.kind hg (Calls.loadGlobal_global (by rw [I.ok.glob]; exact I.mod.glob.keeps I.bk) hm h) hd
theorem ld_blt {E:Value->Shared->Prop} {pins:List (Addr×Obj)} {s:Shared} {σ:St} {H:Hp} {x:Str} {u:Value} {pos:Pos} {Q:Value->Shared->Prop} (I:Inv X pins σ H s) (hg:Gl X x) (hm:X.mg x=none) (hv:bootBuiltins x=some u) (h:Q u s)
  (hn:x≠"__name__":=by decide) (hd:(x == ("__debug__":Str))=false:=by decide):wpAny (model X.prog X.w) X.A (eval (.Name x pos) X.env) Q E s:=by
 obtain ⟨mb,h1,h2⟩:=I.mod.blt
 exact Calls.Name_function_global I.ok.kind hg (Calls.loadGlobal_builtin (by rw [I.ok.glob]; exact I.mod.glob.keeps I.bk) hm (by rw [I.ok.blt]; exact h1.keeps I.bk) ((h2 x hn).trans hv) h) hd
theorem pe_glob {x:Str} {v:V} {u:Value} {pos:Pos} (hg:Gl X x) (hm:X.mg x=some u) (r:RelV v u) (hd:(x == ("__debug__":Str))=false:=by decide):PE X (.Name x pos) (tC v) :=
 fun _ _ _ H _ I h=>ld_glob I hg hm ⟨v,H,I,r,h⟩ hd
theorem pe_bltn {x:Str} {v:V} {u:Value} {pos:Pos} (hg:Gl X x) (hm:X.mg x=none) (hv:bootBuiltins x=some u) (r:RelV v u) (hn:x≠"__name__":=by decide) (hd:(x == ("__debug__":Str))=false:=by decide):PE X (.Name x pos) (tC v) :=
 fun _ _ _ H _ I h=>ld_blt I hg hm hv ⟨v,H,I,r,h⟩ hn hd
variable {a b:Expr} {ta tb:TE} {pos:Pos}
def PC (X:Cx) (op:CmpOp) (a b:Expr) (t:TE):Prop :=
 ∀ (pins:List (Addr×Obj)) (s:Shared) (σ:St) (H:Hp) (Q:VK),Inv X pins σ H s->t σ H Q →
  wpAny (model X.prog X.w) X.A (eval a X.env) (fun v s₁=>wpAny (model X.prog X.w) X.A (eval b X.env) (fun u s₂=>wpAny (model X.prog X.w) X.A (compareOp op v u) (EP X pins σ Q) X.xe s₂) X.xe s₁) X.xe s
theorem nobehind (b:Expr) {op:CmpOp} (h:op≠.In) (h2:op≠.NotIn):behindInMarks op b=false:=by
 have e1:(op == CmpOp.In)=false:=by cases op <;> first | rfl | exact absurd rfl h
 have e2:(op == CmpOp.NotIn)=false:=by cases op <;> first | rfl | exact absurd rfl h2
 cases b <;> simp [behindInMarks,e1,e2]
def tB (t:TE):TT:=fun σ H Q=>t σ H fun x H1=>BlR x H1 Q
theorem pt_cmp {op:CmpOp} {t:TE} (h:PC X op a b t) (h1:behindInMarks op b=false:=by first | exact nobehind _ (by decide) (by decide) | rfl):PT X (.Compare a [op] [b] pos) (tB t):=by
 intro pins s σ H Q I hw
 refine wpAny_isTrue_Compare1 (thn (h pins s σ H _ I hw) fun v s1 h1=>thn h1 fun u s2 h2=>thn h2 fun c s3 ⟨x,H1,I1,r1,q1⟩=>?_) h1
 obtain ⟨d,rfl,q⟩:=q1
 cases r1
 exact wpAny_truthy_bool ⟨H1,I1,q⟩
theorem pt_val {e:Expr} {t:TE} (h:PE X e t) (he:∀ whole,isTrue e X.env whole=(do let v ←whole; standAt e.pos; holding [v] (truthy v)):=by intro _; rfl):PT X e (tB t):=by
 intro pins s σ H Q I hw
 refine isTrue_plain (thn (h pins s σ H _ I hw) fun v s1 ⟨x,H1,I1,r1,q1⟩=>?_) (he _)
 obtain ⟨d,rfl,q⟩:=q1
 cases r1
 exact wpAny_truthy_bool ⟨H1,I1,q⟩
variable {tA tB':TT} {rest:List Expr}
def tAnd (t u:TT):TT:=fun σ H Q=>t σ H fun c H1=>if c=true then u σ H1 Q else Q false H1
def tOr (t u:TT):TT:=fun σ H Q=>t σ H fun c H1=>if c=true then Q true H1 else u σ H1 Q
def tNot (t:TT):TT:=fun σ H Q=>t σ H fun c H1=>Q (!c) H1
theorem pw_and1 (ha:PT X a tA):PW X (.BoolOp .And [a] pos) tA:=by
 intro wh pins s σ H Q I h
 refine isTrue_and (thn (ha pins s σ H Q I h) fun c s1 e=>?_)
 cases c with
 | true=>exact isTrue_and_nil e
 | false=>exact e
theorem pw_or1 (ha:PT X a tA):PW X (.BoolOp .Or [a] pos) tA:=by
 intro wh pins s σ H Q I h
 refine isTrue_or (thn (ha pins s σ H Q I h) fun c s1 e=>?_)
 cases c with
 | false=>exact isTrue_or_nil e
 | true=>exact e
theorem pw_and (ha:PT X a tA) (hb:PW X (.BoolOp .And (b :: rest) pos) tB'):PW X (.BoolOp .And (a :: b :: rest) pos) (tAnd tA tB'):=by
 intro wh pins s σ H Q I h
 refine isTrue_and (thn (ha pins s σ H _ I h) fun c s1 ⟨H1,I1,q1⟩=>?_)
 cases c with
 | true=>exact hb wh pins s1 σ H1 Q I1 q1
 | false=>exact ⟨H1,I1,q1⟩
theorem pw_or (ha:PT X a tA) (hb:PW X (.BoolOp .Or (b :: rest) pos) tB'):PW X (.BoolOp .Or (a :: b :: rest) pos) (tOr tA tB'):=by
 intro wh pins s σ H Q I h
 refine isTrue_or (thn (ha pins s σ H _ I h) fun c s1 ⟨H1,I1,q1⟩=>?_)
 cases c with
 | true=>exact ⟨H1,I1,q1⟩
 | false=>exact hb wh pins s1 σ H1 Q I1 q1
theorem pt_not (ha:PT X a tA):PT X (.UnaryOp .Not a pos) (tNot tA):=by
 intro pins s σ H Q I h
 exact isTrue_not (ha pins s σ H (fun c H1=>Q (!c) H1) I h)
def tIf (t:TT) (ta tb:TE):TE:=fun σ H Q=>t σ H fun c H1=>if c=true then ta σ H1 Q else tb σ H1 Q
theorem pe_ifExp {c:Expr} (hc:PT X c tA) (ha:PE X a ta) (hb:PE X b tb):PE X (.IfExp c a b pos) (tIf tA ta tb):=by
 intro pins s σ H Q I h
 refine wpAny_IfExp (thn (hc pins s σ H _ I h) fun d s1 ⟨H1,I1,q1⟩=>?_)
 cases d with
 | true=>exact ha pins s1 σ H1 Q I1 q1
 | false=>exact hb pins s1 σ H1 Q I1 q1
end
end L2
namespace L2
open PySem PySem.Spec PyProof.Rows
def SqL (K:PySem.W.Frag) (H:Hp) (a:Addr) (xs:List V):Prop :=
 Rd H a (.lst xs) ∨
  ∃ (o:Obj) (its:Array Value) (n:Nat),K.lookup a=some o∧o.cls=.type "list"∧o.dict=none∧o.data=.seq its n∧its.size≤sizeLine∧Vals xs its.toList
def SqT (K:PySem.W.Frag) (H:Hp) (a:Addr) (xs:List V):Prop :=
 Rd H a (.tup xs) ∨
  ∃ (o:Obj) (its:Array Value) (n:Nat),K.lookup a=some o∧o.cls=.type "tuple"∧o.data=.seq its n∧its.size≤sizeLine∧Vals xs its.toList
def absV:Value->Option V
 | .none=>some .non
 | .bool b=>some (.bl b)
 | .int i _=>some (.int i)
 | .str x _=>some (.str x)
 | .bytes b _=>some (.byt b)
 | .float b _=>some (.flt b)
 | .ref a=>some (.ref a)
 | .type n=>some (.ty n)
 | _=>none
theorem RelV.abs {x:V} {u:Value} (r:RelV x u):absV u=some x:=by
 cases x with
 | non=>cases r; rfl
 | bl _=>cases r; rfl
 | int _=>obtain ⟨t,rfl⟩:=r; rfl
 | str _=>obtain ⟨t,rfl⟩:=r; rfl
 | byt _=>obtain ⟨t,rfl⟩:=r; rfl
 | flt _=>obtain ⟨t,rfl⟩:=r; rfl
 | ref _=>cases r; rfl
 | ty _=>cases r; rfl
theorem RelV.inj {x y:V} {u:Value} (r:RelV x u) (q:RelV y u):x=y:=Option.some.inj (r.abs.symm.trans q.abs)
theorem Vals.inj:∀ {xs ys:List V} {us:List Value},Vals xs us->Vals ys us->xs=ys
 | _,_,_,.nil,.nil=>rfl
 | _,_,_,.cons r t,.cons r' t'=>by rw [r.inj r',Vals.inj t t']
section
variable {X:Cx} {pins:List (Addr×Obj)} {σ:St} {H:Hp} {s:Shared} {a:Addr} {xs ys:List V}
theorem SqL.of {K:PySem.W.Frag} (h:H a=some (.lst xs)):SqL K H a xs:=.inl (.inl h)
theorem SqT.of {K:PySem.W.Frag} (h:H a=some (.tup xs)):SqT K H a xs:=.inl (.inl h)
theorem Inv.list (I:Inv X pins σ H s) (h:SqL X.K H a xs):∃ its:List Value,Vals xs its∧PlainL s.heap a its.toArray∧xs.length≤sizeLine:=by
 rcases h with h | ⟨o,its,n,hk,hc,hd,hs,hz,r⟩
 ·obtain ⟨z,its,n,r,e⟩:=h.ok I.hok
  exact ⟨its,r,⟨_,n,e,rfl,rfl,rfl⟩,z⟩
 ·refine ⟨its.toList,r,⟨o,n,I.kIn a o hk,hc,hd,by simpa using hs⟩,?_⟩
  have e:=r.length
  simp only [Array.length_toList] at e
  omega
theorem Inv.tuple (I:Inv X pins σ H s) (h:SqT X.K H a xs):∃ its:List Value,Vals xs its∧IsTup s.heap a its.toArray∧xs.length≤sizeLine:=by
 rcases h with h | ⟨o,its,n,hk,hc,hs,hz,r⟩
 ·obtain ⟨z,its,r,p,_⟩:=h.ok I.hok
  exact ⟨its,r,p,z⟩
 ·refine ⟨its.toList,r,⟨o,I.kIn a o hk,hc,n,by simpa using hs⟩,?_⟩
  have e:=r.length
  simp only [Array.length_toList] at e
  omega
theorem Inv.list_inj (I:Inv X pins σ H s) (h:SqL X.K H a xs) (h':SqL X.K H a ys):xs=ys:=by
 obtain ⟨its,r,⟨o,n,e,_,_,d⟩,_⟩:=I.list h
 obtain ⟨its',r',⟨o',n',e',_,_,d'⟩,_⟩:=I.list h'
 rw [e] at e'; cases e'
 rw [d] at d'
 injection d' with d1 _
 have:its=its':=by simpa using congrArg Array.toList d1
 subst this
 exact r.inj r'
theorem Inv.tuple_inj (I:Inv X pins σ H s) (h:SqT X.K H a xs) (h':SqT X.K H a ys):xs=ys:=by
 obtain ⟨its,r,⟨o,e,_,n,d⟩,_⟩:=I.tuple h
 obtain ⟨its',r',⟨o',e',_,n',d'⟩,_⟩:=I.tuple h'
 rw [e] at e'; cases e'
 rw [d] at d'
 injection d' with d1 _
 have:its=its':=by simpa using congrArg Array.toList d1
 subst this
 exact r.inj r'
end
abbrev Cx.wish (X:Cx) (E:Value->Shared->Prop):Cx:={ X with xe:=E }
abbrev Cx.nox (X:Cx):Cx:=X.wish fun _ _=>False
theorem Cx.Ok.wish {X:Cx} (ok:X.Ok) (E:Value->Shared->Prop):(X.wish E).Ok :=
 ⟨ok.mod,ok.kind,ok.glob,ok.blt,ok.above,ok.inj,ok.has,ok.cab,ok.hd,ok.frames,ok.stk,ok.exf,ok.bs,ok.bsz,ok.noex,ok.exfs,ok.funs,ok.frf⟩
theorem Cx.Ok.unwish {X:Cx} {E:Value->Shared->Prop} (ok:(X.wish E).Ok):X.Ok :=
 ⟨ok.mod,ok.kind,ok.glob,ok.blt,ok.above,ok.inj,ok.has,ok.cab,ok.hd,ok.frames,ok.stk,ok.exf,ok.bs,ok.bsz,ok.noex,ok.exfs,ok.funs,ok.frf⟩
section
variable {X:Cx} {pins:List (Addr×Obj)} {σ:St} {H:Hp} {s:Shared} {E:Value->Shared->Prop}
theorem Inv.wish (I:Inv X pins σ H s) (E:Value->Shared->Prop):Inv (X.wish E) pins σ H s:=⟨I.ok.wish E,I.os,I.bare,I.base,I.loc,I.cell,I.free,I.freeC,I.pin,I.hok,I.len⟩
theorem Inv.unwish (I:Inv (X.wish E) pins σ H s):Inv X pins σ H s:=⟨I.ok.unwish,I.os,I.bare,I.base,I.loc,I.cell,I.free,I.freeC,I.pin,I.hok,I.len⟩
theorem SP.unwish {D:Ends} {f:Flow} {s':Shared} (h:SP (X.wish E) pins D f s'):SP X pins D f s':=by
 cases f with
 | next=>obtain ⟨σ',H',I,q⟩:=h; exact ⟨σ',H',I.unwish,q⟩
 | brk=>obtain ⟨σ',H',I,q⟩:=h; exact ⟨σ',H',I.unwish,q⟩
 | cont=>obtain ⟨σ',H',I,q⟩:=h; exact ⟨σ',H',I.unwish,q⟩
 | ret u=>obtain ⟨v,σ',H',I,r,q⟩:=h; exact ⟨v,σ',H',I.unwish,r,q⟩
theorem PE.nox {e:Expr} {t:TE} (h:PE X.nox e t):PE X e t:=fun pins s σ H Q I hw =>
 wpAny_mono (h pins s σ H Q (I.wish _) hw) (fun _ _ ⟨v,H',I',r,q⟩=>⟨v,H',I'.unwish,r,q⟩) fun _ _ z=>False.elim z
theorem PT.nox {e:Expr} {t:TT} (h:PT X.nox e t):PT X e t:=fun pins s σ H Q I hw =>
 wpAny_mono (h pins s σ H Q (I.wish _) hw) (fun _ _ ⟨H',I',q⟩=>⟨H',I'.unwish,q⟩) fun _ _ z=>False.elim z
theorem PSs.nox {st:List Stmt} {t:TS} (h:PSs X.nox st t):PSs X st t:=fun pins s σ H D I hw =>
 wpAny_mono (h pins s σ H D (I.wish _) hw) (fun _ _ q=>q.unwish) fun _ _ z=>False.elim z
end
section
variable {X:Cx} {st:Stmt} {rest:List Stmt} {t u:TS} {e:Expr} {te:TE} {pos:Pos}
def tNext:TS:=fun D σ H=>D.nx σ H
def tSeq (t u:TS):TS:=fun D σ H=>t { D with nx:=u D } σ H
theorem pss_nil:PSs X [] tNext:=fun _ _ σ H _ I h=>wpAny_execs_nil ⟨σ,H,I,h⟩
theorem pss_cons (h1:PS X st t) (h2:PSs X rest u):PSs X (st :: rest) (tSeq t u):=by
 intro pins s σ H D I h
 refine wpAny_execs_cons (thn (h1 pins s σ H { D with nx:=u D } I h) fun f s1 q=>?_)
 cases f with
 | next =>
  obtain ⟨σ',H',I',q⟩:=q
  exact h2 pins s1 σ' H' D I' q
 | ret v=>exact q
 | brk=>exact q
 | cont=>exact q
theorem pss_one (h1:PS X st t):PSs X [st] t:=by
 intro pins s σ H D I h
 refine wpAny_execs_cons (thn (h1 pins s σ H D I h) fun f s1 q=>?_)
 cases f with
 | next=>exact wpAny_execs_nil q
 | ret v=>exact q
 | brk=>exact q
 | cont=>exact q
theorem Inv.quiet {pins:List (Addr×Obj)} {σ:St} {H:Hp} {s:Shared} (I:Inv X pins σ H s):interactive X.env=false:=by simp [interactive,I.ok.kind]
def tDrop (te:TE):TS:=fun D σ H=>te σ H fun _ H1=>D.nx σ H1
theorem ps_expr (he:PE X e te) (hs:swapsWith e none pos.line X.env=pure false:=by rfl):PS X (.Expr e pos) (tDrop te):=by
 intro pins s σ H D I h
 exact wpAny_Expr_any (thn (he pins s σ H _ I h) fun v s1 ⟨x,H1,I1,r1,q1⟩=>⟨σ,H1,I1,q1⟩) I.quiet hs
def tRet (te:TE):TS:=fun D σ H=>te σ H D.rt
theorem ps_ret (he:PE X e te):PS X (.Return (some e) pos) (tRet te):=by
 intro pins s σ H D I h
 exact wpAny_Return_some (thn (he pins s σ H _ I h) fun v s1 ⟨x,H1,I1,r1,q1⟩=>⟨x,σ,H1,I1,r1,q1⟩)
def tIfS (c:TT) (t u:TS):TS:=fun D σ H=>c σ H fun b H1=>if b=true then t D σ H1 else u D σ H1
theorem ps_if {c:Expr} {a b:List Stmt} {tc:TT} (hc:PT X c tc) (ha:PSs X a t) (hb:PSs X b u):PS X (.If c a b pos) (tIfS tc t u):=by
 intro pins s σ H D I h
 refine wpAny_If (thn (hc pins s σ H _ I h) fun d s1 ⟨H1,I1,q1⟩=>?_)
 cases d with
 | true=>exact ha pins s1 σ H1 D I1 q1
 | false=>exact hb pins s1 σ H1 D I1 q1
def tNever:TS:=fun _ _ _=>False
theorem pss_never {sts:List Stmt}:PSs X sts tNever:=fun _ _ _ _ _ _ h=>h.elim
end
abbrev TG:=V->St->Hp->(St->Hp->Prop)->Prop
abbrev TGs:=List V->St->Hp->(St->Hp->Prop)->Prop
def PG (X:Cx) (target:Expr) (t:TG):Prop :=
 ∀ (pins:List (Addr×Obj)) (s:Shared) (σ:St) (H:Hp) (v:V) (u:Value) (Q:St->Hp->Prop),Inv X pins σ H s->RelV v u->t v σ H Q →
  wpAny (model X.prog X.w) X.A (assign target X.env u) (fun _ s'=>∃ σ' H',Inv X pins σ' H' s'∧Q σ' H') X.xe s
def PGs (X:Cx) (ts:List Expr) (t:TGs):Prop :=
 ∀ (pins:List (Addr×Obj)) (s:Shared) (σ:St) (H:Hp) (vs:List V) (us:List Value) (Q:St->Hp->Prop),Inv X pins σ H s->Vals vs us->t vs σ H Q →
  wpAny (model X.prog X.w) X.A (assignInOrder ((assignEach ts X.env).map (·.2)) us) (fun _ s'=>∃ σ' H',Inv X pins σ' H' s'∧Q σ' H') X.xe s
abbrev TSet:=V->V->V->Hp->(Hp->Prop)->Prop
def PSet (X:Cx) (t:TSet):Prop :=
 ∀ (pins:List (Addr×Obj)) (s:Shared) (σ:St) (H:Hp) (o i v:V) (ov iv u:Value) (Q:Hp->Prop),Inv X pins σ H s->RelV o ov->RelV i iv->RelV v u->t o i v H Q →
  wpAny (model X.prog X.w) X.A (setItem ov iv u) (fun _ s'=>∃ H',Inv X pins σ H' s'∧Q H') X.xe s
section
variable {X:Cx} {pos:Pos}
def gName (i:Nat):TG:=fun v σ H Q=>Q (σ.set i (some v)) H
theorem pg_name {i:Nat} {x:Str} (hN:X.N.Nodup) (hi:X.N[i]?=some x) (hx:Loc X.env.scope x) (hf:X.fn x=true∨X.env.scope.names.lookup x=some .local:=by first | exact .inl rfl | exact .inr rfl | assumption):PG X (.Name x pos) (gName i):=by
 intro pins s σ H v u Q I r h
 exact wpAny_assign_Name (store_ok I hN hi hx r (fun s' I'=>⟨_,H,I',h⟩) hf)
inductive GNilR (vs:List V) (σ:St) (H:Hp) (Q:St->Hp->Prop):Prop
 | mk (e:vs=[]) (q:Q σ H):GNilR vs σ H Q
def gNil:TGs:=fun vs σ H Q=>GNilR vs σ H Q
inductive GConsR (t:TG) (u:TGs) (vs:List V) (σ:St) (H:Hp) (Q:St->Hp->Prop):Prop
 | mk (v:V) (r:List V) (e:vs=v :: r) (q:t v σ H fun σ' H'=>u r σ' H' Q):GConsR t u vs σ H Q
def gCons (t:TG) (u:TGs):TGs:=fun vs σ H Q=>GConsR t u vs σ H Q
theorem pgs_nil:PGs X [] gNil:=by
 intro pins s σ H vs us Q I r h
 obtain ⟨e,h⟩:=h
 subst e
 cases r
 exact assignInOrder_nil ⟨σ,H,I,h⟩
theorem pgs_cons {e:Expr} {es:List Expr} {t:TG} {u:TGs} (h1:PG X e t) (h2:PGs X es u)
  (hs:(assignEach (e :: es) X.env).map (·.2)=assign e X.env :: (assignEach es X.env).map (·.2):=by rfl):PGs X (e :: es) (gCons t u):=by
 intro pins s σ H vs us Q I r h
 obtain ⟨v,vr,e1,h⟩:=h
 subst e1
 cases r with
 | cons r rr =>
  rw [hs]
  refine assignInOrder_cons (thn (h1 pins s σ H _ _ _ I r h) fun _ s1 ⟨σ1,H1,I1,q1⟩=>?_)
  exact h2 pins s1 σ1 H1 _ _ Q I1 rr q1
inductive GTupR (K:PySem.W.Frag) (n:Nat) (t:TGs) (v:V) (σ:St) (H:Hp) (Q:St->Hp->Prop):Prop
 | mk (a:Addr) (xs:List V) (e:v=.ref a) (s:SqT K H a xs) (l:xs.length=n) (q:t xs σ H Q):GTupR K n t v σ H Q
def gTup (K:PySem.W.Frag) (n:Nat) (t:TGs):TG:=fun v σ H Q=>GTupR K n t v σ H Q
theorem pg_tup {es:List Expr} {k:Nat} {t:TGs} {n:Nat} (hc:X.calm=true) (h:PGs X es t)
  (hn:(assignEach es X.env).length=n:=by rfl) (hst:(assignEach es X.env).findIdx? (·.1)=none:=by rfl):PG X (.Tuple es k pos) (gTup X.K n t):=by
 intro pins s σ H v u Q I r hw
 obtain ⟨a,xs,e1,hq,hl,hw⟩:=hw
 subst e1
 cases r
 obtain ⟨its,rv,ht,hz⟩:=I.tuple hq
 refine assign_Tuple_tuple (I.ok.hd hc) ht (by simp [hn,←hl,rv.length]) hst fun h' hx=>?_
 have I1:Inv X pins σ H { s with heap:=h' }:=I.kept (t':=s.toks) fun b o e=>hx b o (Nat.ne_of_lt (Heap.lt_size e)) e
 exact h pins _ σ H xs _ Q I1 (by simpa using rv) hw
def gSub (to ti:TE) (t:TSet):TG:=fun v σ H Q=>to σ H fun o H1=>ti σ H1 fun i H2=>t o i v H2 fun H3=>Q σ H3
theorem pg_sub {o i:Expr} {to ti:TE} {t:TSet} (ho:PE X o to) (hi:PE X i ti) (hs:PSet X t)
  (ha:∀ v,assign (.Subscript o i pos) X.env v=(do
   let ov ←holding [v] (eval o X.env)
   let iv ←holding [v,ov] (eval i X.env)
   standAt pos
   holding [v,ov,iv] (setItem ov iv v)
   release [v,ov,iv] []):=by intro _; rfl):PG X (.Subscript o i pos) (gSub to ti t):=by
 intro pins s σ H v u Q I r h
 rw [ha]
 refine wpAny_bind (wpAny_holding (thn (ho pins s σ H _ I h) fun ov s1 ⟨x,H1,I1,r1,q1⟩=>?_))
 refine wpAny_bind (wpAny_holding (thn (hi pins s1 σ H1 _ I1 q1) fun iv s2 ⟨y,H2,I2,r2,q2⟩=>?_))
 refine wpAny_bind (wpAny_standAt (wpAny_bind (wpAny_holding (thn (hs pins s2 σ H2 x y v ov iv u _ I2 r1 r2 r q2) fun _ s3 ⟨H3,I3,q3⟩=>?_))))
 exact wpAny_release ⟨σ,H3,I3,q3⟩
def tAsg (te:TE) (g:TG):TS:=fun D σ H=>te σ H fun x H1=>g x σ H1 D.nx
theorem ps_asg {tg e:Expr} {te:TE} {g:TG} (he:PE X e te) (hg:PG X tg g) (hs:swapsWithSole [tg] e pos.line X.env=pure false:=by rfl) (hw:swappedStores [tg] e X.env=pure none:=by rfl)
  (h1:(assignEach [tg] X.env).map (·.2)=[assign tg X.env]:=by rfl):PS X (.Assign [tg] e pos) (tAsg te g):=by
 intro pins s σ H D I h
 refine wpAny_Assign_stores (thn (he pins s σ H _ I h) fun v s1 ⟨x,H1,I1,r1,q1⟩=>?_) hs hw
 rw [h1]
 exact thn (hg pins s1 σ H1 x v _ I1 r1 q1) fun _ s2 q=>q
theorem ps_set {i:Nat} {x:Str} {e:Expr} {te:TE} {pos':Pos} (hN:X.N.Nodup) (hi:X.N[i]?=some x) (hx:Loc X.env.scope x) (he:PE X e te) (hs:swapsWith e (some (.Name x pos')) pos.line X.env=pure false:=by rfl) (hf:X.fn x=true∨X.env.scope.names.lookup x=some .local:=by first | exact .inl rfl | exact .inr rfl | assumption) :
  PS X (.Assign [.Name x pos'] e pos) (tAsg te (gName i)):=by
 intro pins s σ H D I h
 refine wpAny_Assign_Name (thn (he pins s σ H _ I h) fun v s1 ⟨y,H1,I1,r1,q1⟩=>?_) hs
 exact store_ok I1 hN hi hx r1 (fun s2 I2=>⟨_,H1,I2,q1⟩) hf
end
section
variable {X:Cx} {pos:Pos}
def tWhile (c:TT) (tb:TS):TS:=fun D σ H=>∃ W:Nat->St->Hp->Prop,(∃ m,W m σ H)∧∀ m σ H,W m σ H →
 c σ H fun b H1=>if b=true then ∃ N:St->Hp->Prop,(∀ σ' H',N σ' H'->∃ m',m' < m∧W m' σ' H')∧tb { D with nx:=N,ct:=N,bk:=D.nx } σ H1 else D.nx σ H1
theorem ps_while {c:Expr} {body:List Stmt} {tc:TT} {tb:TS} (hp:PassesOwn (model X.prog X.w) X.A X.env X.xe) (hc:PT X c tc) (hb:PSs X body tb):PS X (.While c body [] pos) (tWhile tc tb):=by
 intro pins s σ H D I h
 obtain ⟨W,⟨m0,w0⟩,turn⟩:=h
 refine wpAny_While (codeAny_whileLoop (fun n s'=>∃ σ' H',Inv X pins σ' H' s'∧W n σ' H') ?_ m0 ⟨σ,H,I,w0⟩)
 rintro n s1 ⟨σ1,H1,I1,w1⟩
 refine wpAny_passesOwn hp (thn (hc pins s1 σ1 H1 _ I1 (turn n σ1 H1 w1)) fun b s2 ⟨H2,I2,q2⟩=>?_)
 cases b with
 | true =>
  obtain ⟨N,hN,q2⟩:=q2
  rw [if_pos rfl]
  refine wpAny_passesOwn hp (thn (hb pins s2 σ1 H2 _ I2 q2) fun f s3 q3=>?_)
  cases f with
  | next =>
   obtain ⟨σ3,H3,I3,n3⟩:=q3
   obtain ⟨m',hm,w3⟩:=hN σ3 H3 n3
   exact ⟨m',hm,σ3,H3,I3,w3⟩
  | cont =>
   obtain ⟨σ3,H3,I3,n3⟩:=q3
   obtain ⟨m',hm,w3⟩:=hN σ3 H3 n3
   exact ⟨m',hm,σ3,H3,I3,w3⟩
  | brk=>exact q3
  | ret v=>exact q3
 | false =>
  rw [if_neg Bool.false_ne_true]
  exact wpAny_execs_nil ⟨σ1,H2,I2,q2⟩
end
structure It where
 go:Nat->Hp->Prop
 yld:Nat->Hp->V->Hp->Prop
 stop:Nat->Hp->Prop
def FpOk (X:Cx) (pins:List (Addr×Obj)) (H:Hp) (b:Addr):Prop :=
 H b=none∧b≠X.env.locals∧b∉X.fs∧(b∈X.ex∨X.s₀.heap.objs.size≤b)∧(∀ x c,X.env.cells.lookup x=some c->c≠b)∧∀ p∈X.pn++pins,p.1≠b
theorem Inv.fpOk {X:Cx} {pins:List (Addr×Obj)} {σ:St} {H H':Hp} {s:Shared} {b:Addr} (I:Inv X pins σ H s) (hb:s.heap.objs.size≤b) (hn:H' b=none):FpOk X pins H' b:=by
 refine ⟨hn,Nat.ne_of_gt (Nat.lt_of_lt_of_le I.lt hb),I.nofs hb,.inr (Nat.le_trans I.sz hb),fun x c e z=>?_,fun p hp z=>?_⟩
 ·obtain ⟨v,q⟩:=I.cell x c e
  exact absurd (Nat.lt_of_lt_of_le q.lt (by rw [z]; exact hb)) (Nat.lt_irrefl _)
 ·exact absurd (Nat.lt_of_lt_of_le (Heap.lt_size (I.pin p hp).1) (by rw [z]; exact hb)) (Nat.lt_irrefl _)
structure Turn (P:Program) (w:World) (K:PySem.W.Frag) (tg:Expr) (J:It) (fp:List Addr) (it:Addr) (tn:Nat->Heap->Prop):Prop where
 mem:it∈fp
 obj:∀ i h,tn i h->∀ b∈fp,∃ o,h.get? b=some o∧∀ v,o.data≠.cell v
 keep:∀ i h h',tn i h->(∀ b∈fp,∀ o,h.get? b=some o->h'.get? b=some o)->tn i h'
 item:∀ (X:Cx),X.prog=P->X.w=w->X.K=K->X.calm=true->∀ (i:Nat) (pins:List (Addr×Obj)) (s:Shared) (σ:St) (H:Hp) (E:Value->Shared->Prop),Inv X pins σ H s->(∀ b∈fp,FpOk X pins H b)->tn i s.heap->J.go i H →
  wpAny (model P w) X.A (pyNext (.ref it)) (fun r s1=>∃ u,r=some u ∧
   wpAny (model P w) X.A (letOwnedTupleGo tg (.ref it) u) (fun _ s2=>∃ x H',Inv X pins σ H' s2∧RelV x u∧J.yld i H x H'∧tn (i+1) s2.heap∧∀ b∈fp,H' b=none) E s1) E s
 done:∀ (X:Cx),X.prog=P->X.w=w->X.K=K->X.calm=true->∀ (i:Nat) (pins:List (Addr×Obj)) (s:Shared) (σ:St) (H:Hp) (E:Value->Shared->Prop),Inv X pins σ H s->(∀ b∈fp,FpOk X pins H b)->tn i s.heap->J.stop i H →
  wpAny (model P w) X.A (pyNext (.ref it)) (fun r s1=>r=none∧Inv X pins σ H s1) E s
 self:∀ (A:Around) (i:Nat) (s:Shared) (Q:Value->Shared->Prop) (E:Value->Shared->Prop),tn i s.heap->Q (.ref it) s->wpAny (model P w) A (pyIter (.ref it)) Q E s
abbrev TI:=St->Hp->(It->Hp->Prop)->Prop
def PIE (X:Cx) (pins:List (Addr×Obj)) (σ:St) (tg:Expr) (R:It->Hp->Prop) (itv:Value) (s2:Shared):Prop :=
 ∃ (it:Addr) (fp:List Addr) (tn:Nat->Heap->Prop) (J:It) (H':Hp),itv=.ref it∧Inv X pins σ H' s2∧Turn X.prog X.w X.K tg J fp it tn∧tn 0 s2.heap∧(∀ b∈fp,FpOk X pins H' b)∧R J H'
def PI (X:Cx) (tg iter:Expr) (wi:TI):Prop :=
 ∀ (pins:List (Addr×Obj)) (s:Shared) (σ:St) (H:Hp) (R:It->Hp->Prop),Inv X pins σ H s->wi σ H R →
  wpAny (model X.prog X.w) X.A (eval iter X.env) (fun v s1=>wpAny (model X.prog X.w) X.A (pyIter v) (PIE X pins σ tg R) X.xe s1) X.xe s
theorem go_of {M : Model} {A : Around} {E : Value → Shared → Prop} {s : Shared} {tg : Expr} {it : Addr} {u : Value} {o : Obj} {n : String} {vs : Array Value} {Q : Unit → Shared → Prop} (ho : s.heap.get? it = some o) (hc : o.cls = .type n) (hd : o.data = .fields vs)
    (hn : ["enumerate", "zip", "dict_itemiterator", "dict_reverseitemiterator", "odict_iterator", "itertools.zip_longest", "itertools.pairwise"].contains n = false) (hQ : Q () s) : wpAny M A (letOwnedTupleGo tg (.ref it) u) Q E s := by
  unfold letOwnedTupleGo
  cases tg <;> first
    | exact wpAny_pure hQ
    | (cases u <;> first
        | exact wpAny_pure hQ
        | (refine wpAny_bind (wpAny_load ho ?_)
           rw [hc, hd]
           show wpAny M A (if (["enumerate", "zip", "dict_itemiterator", "dict_reverseitemiterator", "odict_iterator", "itertools.zip_longest", "itertools.pairwise"].contains n && vs[0]? == some (rawInt _)) = true then _ else _) Q E s
           rw [if_neg (by intro h; rw [hn, Bool.false_and] at h; cases h)]
           exact wpAny_pure hQ))
def Itl (K:PySem.W.Frag) (a:Addr):It :=
 ⟨fun i H=>∃ xs x,SqL K H a xs∧xs[i]?=some x,fun i H x H'=>H'=H∧∀ xs,SqL K H a xs->xs[i]?=some x,fun i H=>∃ xs,SqL K H a xs∧xs.length≤i⟩
def Itt (K:PySem.W.Frag) (a:Addr):It :=
 ⟨fun i H=>∃ xs x,SqT K H a xs∧xs[i]?=some x,fun i H x H'=>H'=H∧∀ xs,SqT K H a xs->xs[i]?=some x,fun i H=>∃ xs,SqT K H a xs∧xs.length≤i⟩
def Itr (lo:Int) (n:Nat):It:=⟨fun i _=>i<n,fun i H x H'=>H'=H∧x=.int (lo+i),fun i _=>n≤i⟩
theorem turn_list {P:Program} {w:World} {K:PySem.W.Frag} {tg:Expr} (a it:Addr):Turn P w K tg (Itl K a) [it] it (fun i h=>h.IsListIter it a i) where
 mem:=by simp
 obj:=fun i h st b hb=>by
  have e:b=it:=by simpa using hb
  subst e
  obtain ⟨o,e,c,d⟩:=st
  exact ⟨o,e,fun v z=>by rw [d] at z; cases z⟩
 keep:=fun i h h' st k=>st.at fun o e=>k it (by simp) o e
 item:=by
  intro X hP hw hK hc i pins s σ H E I hf st hg
  subst hP hw hK
  obtain ⟨xs,x,hq,hx⟩:=hg
  obtain ⟨its,rv,p,hz⟩:=I.list hq
  obtain ⟨u,hu,ru⟩:=rv.get hx
  obtain ⟨f0,f1,f2,f3,f4,f5⟩:=hf it (by simp)
  refine wpAny_pyNext_list_item st p.isList (x:=u) (by simpa using hu) fun h' st' sb=>?_
  have I1:Inv X pins σ H { s with heap:=h' }:=I.turned (t':=s.toks) (fun b o hb e=>(sb.2 b hb).trans e) f0 f1 f3 f4 f5
  obtain ⟨o,e,c,d⟩:=id st'
  exact ⟨u,rfl,go_of (s:={ s with heap:=h' }) e c d (by decide) ⟨x,H,I1,ru,⟨rfl,fun ys hy=>by rw [I.list_inj hy hq]; exact hx⟩,st',fun b hb=>(hf b hb).1⟩⟩
 done:=by
  intro X hP hw hK hc i pins s σ H E I hf st hg
  subst hP hw hK
  obtain ⟨xs,hq,hx⟩:=hg
  obtain ⟨its,rv,p,hz⟩:=I.list hq
  obtain ⟨f0,f1,f2,f3,f4,f5⟩:=hf it (by simp)
  have hl:=rv.length
  exact wpAny_pyNext_list_end (I.ok.hd hc) st p.isList (by simp; omega) fun h' eb=>⟨rfl,I.turned (t':=s.toks) (fun b o hb e=>eb b o hb e) f0 f1 f3 f4 f5⟩
 self:=fun _ _ _ _ _ st h=>wpAny_pyIter_listiter st h
theorem turn_tuple {P:Program} {w:World} {K:PySem.W.Frag} {tg:Expr} (a it:Addr):Turn P w K tg (Itt K a) [it] it (fun i h=>h.IsTupleIter it a i) where
 mem:=by simp
 obj:=fun i h st b hb=>by
  have e:b=it:=by simpa using hb
  subst e
  obtain ⟨o,e,c,d⟩:=st
  exact ⟨o,e,fun v z=>by rw [d] at z; cases z⟩
 keep:=fun i h h' st k=>st.at fun o e=>k it (by simp) o e
 item:=by
  intro X hP hw hK hc i pins s σ H E I hf st hg
  subst hP hw hK
  obtain ⟨xs,x,hq,hx⟩:=hg
  obtain ⟨its,rv,p,hz⟩:=I.tuple hq
  obtain ⟨u,hu,ru⟩:=rv.get hx
  obtain ⟨f0,f1,f2,f3,f4,f5⟩:=hf it (by simp)
  refine wpAny_pyNext_tuple_item st (show s.heap.IsTuple a its.toArray from p) (x:=u) (by simpa using hu) fun h' st' sb=>?_
  have I1:Inv X pins σ H { s with heap:=h' }:=I.turned (t':=s.toks) (fun b o hb e=>(sb.2 b hb).trans e) f0 f1 f3 f4 f5
  obtain ⟨o,e,c,d⟩:=id st'
  exact ⟨u,rfl,go_of (s:={ s with heap:=h' }) e c d (by decide) ⟨x,H,I1,ru,⟨rfl,fun ys hy=>by rw [I.tuple_inj hy hq]; exact hx⟩,st',fun b hb=>(hf b hb).1⟩⟩
 done:=by
  intro X hP hw hK hc i pins s σ H E I hf st hg
  subst hP hw hK
  obtain ⟨xs,hq,hx⟩:=hg
  obtain ⟨its,rv,p,hz⟩:=I.tuple hq
  obtain ⟨f0,f1,f2,f3,f4,f5⟩:=hf it (by simp)
  have hl:=rv.length
  exact wpAny_pyNext_tuple_end (I.ok.hd hc) st (show s.heap.IsTuple a its.toArray from p) (by simp; omega) fun h' eb=>⟨rfl,I.turned (t':=s.toks) (fun b o hb e=>eb b o hb e) f0 f1 f3 f4 f5⟩
 self:=fun _ _ _ _ _ st h=>wpAny_pyIter_tupleiter st h
theorem turn_range {P:Program} {w:World} {K:PySem.W.Frag} {tg:Expr} (it:Addr) (lo:Int) (n:Nat):Turn P w K tg (Itr lo n) [it] it (fun i h=>IsRangeIter h it (lo+(i:Nat)*1) ((n:Int)-(i:Nat)) 1) where
 mem:=by simp
 obj:=fun i h st b hb=>by
  have e:b=it:=by simpa using hb
  subst e
  exact ⟨_,st,fun v z=>by
   have z':Data.fields _=Data.cell v:=z
   cases z'⟩
 keep:=fun i h h' st k=>k it (by simp) _ st
 item:=by
  intro X hP hw hK hc i pins s σ H E I hf st hg
  subst hP hw hK
  obtain ⟨f0,f1,f2,f3,f4,f5⟩:=hf it (by simp)
  have W:=Walks.range (prog:=X.prog) (w:=X.w) (I.ok.hd hc) it lo 1 n
  refine W.item i s _ _ hg st fun v h' tk hv st' kk=>?_
  obtain ⟨t,rfl⟩:=hv
  have I1:Inv X pins σ H { s with heap:=h',toks:=tk }:=I.turned (fun b o hb e=>kk b o (by simpa using hb) e) f0 f1 f3 f4 f5
  refine ⟨_,rfl,go_of (s:={ s with heap:=h',toks:=tk }) (n:="range_iterator") st' rfl rfl (by decide) ⟨.int (lo+i),H,I1,⟨t,?_⟩,⟨rfl,rfl⟩,st',fun b hb=>(hf b hb).1⟩⟩
  rw [Int.mul_one]
 done:=by
  intro X hP hw hK hc i pins s σ H E I hf st hg
  subst hP hw hK
  obtain ⟨f0,f1,f2,f3,f4,f5⟩:=hf it (by simp)
  exact wpAny_pyNext_range_end (I.ok.hd hc) st (by have:n≤i:=hg; omega) fun h' eb=>⟨rfl,I.turned (t':=s.toks) (fun b o hb e=>eb b o hb e) f0 f1 f3 f4 f5⟩
 self:=fun _ _ _ _ _ st h=>wpAny_pyIter_rangeiter st h
end L2
namespace L2
open PySem PySem.Spec PyProof.Rows
section
variable {X:Cx} {tg:Expr}
inductive IListR (K:PySem.W.Frag) (x:V) (H:Hp) (R:It->Hp->Prop):Prop
 | mk (a:Addr) (e:x=.ref a) (s:∃ xs,SqL K H a xs) (q:R (Itl K a) H):IListR K x H R
inductive ITupR (K:PySem.W.Frag) (x:V) (H:Hp) (R:It->Hp->Prop):Prop
 | mk (a:Addr) (e:x=.ref a) (s:∃ xs,SqT K H a xs) (q:R (Itt K a) H):ITupR K x H R
def iList (K:PySem.W.Frag) (tl:TE):TI:=fun σ H R=>tl σ H fun x H1=>IListR K x H1 R
def iTup (K:PySem.W.Frag) (tl:TE):TI:=fun σ H R=>tl σ H fun x H1=>ITupR K x H1 R
theorem pi_list {l:Expr} {tl:TE} (hl:PE X l tl):PI X tg l (iList X.K tl):=by
 intro pins s σ H R I h
 refine thn (hl pins s σ H _ I h) fun v s1 ⟨x,H1,I1,r1,q1⟩=>?_
 obtain ⟨a,e,⟨xs,hq⟩,q⟩:=q1
 subst e
 cases r1
 obtain ⟨its,rv,p,hz⟩:=I1.list hq
 refine wpAny_pyIter_list p.isList ?_
 refine ⟨s1.heap.objs.size,[s1.heap.objs.size],_,_,H1,rfl,I1.kept (t':=s1.toks) fun b o e=>Heap.get?_push_of_some _ e,turn_list a _,⟨_,Heap.get?_push_size _ rfl,rfl,rfl⟩,fun b hb=>?_,q⟩
 have e:b=s1.heap.objs.size:=by simpa using hb
 subst e
 exact I1.fpOk (Nat.le_refl _) (I1.hok.fresh (Nat.le_refl _))
theorem pi_tup {l:Expr} {tl:TE} (hl:PE X l tl):PI X tg l (iTup X.K tl):=by
 intro pins s σ H R I h
 refine thn (hl pins s σ H _ I h) fun v s1 ⟨x,H1,I1,r1,q1⟩=>?_
 obtain ⟨a,e,⟨xs,hq⟩,q⟩:=q1
 subst e
 cases r1
 obtain ⟨its,rv,p,hz⟩:=I1.tuple hq
 refine wpAny_pyIter_tuple (show s1.heap.IsTuple a its.toArray from p) ?_
 refine ⟨s1.heap.objs.size,[s1.heap.objs.size],_,_,H1,rfl,I1.kept (t':=s1.toks) fun b o e=>Heap.get?_push_of_some _ e,turn_tuple a _,⟨_,Heap.get?_push_size _ rfl,rfl,rfl⟩,fun b hb=>?_,q⟩
 have e:b=s1.heap.objs.size:=by simpa using hb
 subst e
 exact I1.fpOk (Nat.le_refl _) (I1.hok.fresh (Nat.le_refl _))
theorem range_it {pins:List (Addr×Obj)} {σ:St} {H:Hp} {s:Shared} {R:It->Hp->Prop} {E:Value->Shared->Prop} {lo hi:Int} {t u v:Tok} {tk:Nat} (I:Inv X pins σ H s) (h1:-(2 ^ 62)≤lo) (h2:lo<2 ^ 62) (h3:-(2 ^ 62)≤hi) (h4:hi<2 ^ 62)
  (q:R (Itr lo (hi-lo).toNat) H):wpAny (model X.prog X.w) X.A (pyIter (.ref s.heap.objs.size)) (PIE X pins σ tg R) E { s with heap:=s.heap.push { cls:=.type "range",data:=.fields #[.int lo t,.int hi u,.int 1 v] },toks:=tk }:=by
 refine wpAny_pyIter_range (IsRange.new ..) (small_one h1 h2 h3 h4) ?_
 have I1:Inv X pins σ H { s with heap:=s.heap.push { cls:=.type "range",data:=.fields #[.int lo t,.int hi u,.int 1 v] },toks:=tk }:=I.kept fun b o e=>Heap.get?_push_of_some _ e
 refine ⟨(s.heap.push { cls:=.type "range",data:=.fields #[.int lo t,.int hi u,.int 1 v] }).objs.size,[(s.heap.push { cls:=.type "range",data:=.fields #[.int lo t,.int hi u,.int 1 v] }).objs.size],_,_,H,rfl,
  I1.kept (t':=tk) fun b o e=>Heap.get?_push_of_some _ e,turn_range _ lo (hi-lo).toNat,?_,fun b hb=>?_,q⟩
 ·have e1:lo+((0:Nat):Int)*1=lo:=by simp
  have e2:(((hi-lo).toNat:Nat):Int)-((0:Nat):Int)=Builtin.Range.rangeSize lo hi 1:=by rw [rangeSize_one]; split <;> omega
  show IsRangeIter _ _ (lo+((0:Nat):Int)*1) ((((hi-lo).toNat:Nat):Int)-((0:Nat):Int)) 1
  rw [e1,e2]
  exact Heap.get?_push_size _ rfl
 ·have e:b=(s.heap.push { cls:=.type "range",data:=.fields #[.int lo t,.int hi u,.int 1 v] }).objs.size:=by simpa using hb
  subst e
  exact I1.fpOk (Nat.le_refl _) (I1.hok.fresh (Nat.le_refl _))
def iRng1 (ta:TA):TI:=fun σ H R=>ta σ H fun vs H1=>∃ j:Int,vs=[.int j]∧-(2 ^ 62)≤j∧j<2 ^ 62∧R (Itr 0 j.toNat) H1
theorem pi_range1 {a:Expr} {ta:TA} {p pos:Pos} (hg:Gl X "range") (hm:X.mg "range" = none) (ha:PA X [a] ta) (hs:starEach [a] X.env=[(false,eval a X.env)]:=by rfl):PI X tg (.Call (.Name "range" p) [a] [] pos) (iRng1 ta):=by
 intro pins s σ H R I h
 refine Call_ (ld_blt I hg hm boot_range (PyProof.Rows.callWith_type1 (thn (ha pos pins s σ H _ I h) fun us s1 ⟨vs,H1,I1,r1,q1⟩=>?_) hs rfl))
 obtain ⟨j,e,q1,q2,q⟩:=q1
 subst e
 cases r1 with
 | cons r rr =>
  cases rr
  obtain ⟨t,rfl⟩:=r
  exact call_range_1 (range_it I1 (by omega) (by omega) q1 q2 (by simpa using q))
def tFor (wi:TI) (g:TG) (tb:TS):TS:=fun D σ H=>wi σ H fun J H1=>∃ W:Nat->Nat->St->Hp->Prop,(∃ m,W 0 m σ H1)∧∀ i m σ H,W i m σ H →
 (J.stop i H∧D.nx σ H)∨(J.go i H∧∃ N:St->Hp->Prop,(∀ σ' H',N σ' H'->∃ m',m' < m∧W (i+1) m' σ' H')∧∀ x H',J.yld i H x H'->g x σ H' fun σ2 H2=>tb { D with nx:=N,ct:=N,bk:=D.nx } σ2 H2)
def pinsAt (fp:List Addr) (h:Heap):List (Addr×Obj):=fp.filterMap fun b=>(h.get? b).map fun o=>(b,o)
theorem mem_pinsAt {fp:List Addr} {h:Heap} {b:Addr} {o:Obj} (hb:b∈fp) (e:h.get? b=some o):(b,o)∈pinsAt fp h:=List.mem_filterMap.mpr ⟨b,hb,by rw [e]; rfl⟩
theorem of_pinsAt {fp:List Addr} {h:Heap} {p:Addr×Obj} (hp:p∈pinsAt fp h):p.1∈fp∧h.get? p.1=some p.2:=by
 obtain ⟨b,hb,e⟩:=List.mem_filterMap.mp hp
 cases q:h.get? b with
 | none=>rw [q] at e; cases e
 | some o =>
  rw [q] at e
  have e':(b,o)=p:=Option.some.inj e
  subst e'
  exact ⟨hb,q⟩
theorem Inv.pinned {pins:List (Addr×Obj)} {σ:St} {H:Hp} {s:Shared} {fp:List Addr} (I:Inv X pins σ H s) (hf:∀ b∈fp,FpOk X pins H b) (ho:∀ b∈fp,∃ o,s.heap.get? b=some o∧∀ v,o.data≠.cell v):Inv X (pins++pinsAt fp s.heap) σ H s :=
 I.pins_of fun p hp=>(List.mem_append.mp hp).elim (fun z=>I.pin p (List.mem_append_right _ z)) fun z=>by
  obtain ⟨hb,e⟩:=of_pinsAt z
  obtain ⟨f0,f1,f2,_⟩:=hf p.1 hb
  obtain ⟨o,e',d⟩:=ho p.1 hb
  rw [e] at e'; cases e'
  exact ⟨e,f0,f1,f2,d⟩
theorem Inv.unpinned {pins pl:List (Addr×Obj)} {σ:St} {H:Hp} {s:Shared} (I:Inv X (pins++pl) σ H s):Inv X pins σ H s:=I.pins_of fun p hp=>I.pin p (List.mem_append_right _ (List.mem_append_left _ hp))
theorem ps_for {iter:Expr} {body:List Stmt} {wi:TI} {g:TG} {tb:TS} {pos:Pos} (hp:PassesOwn (model X.prog X.w) X.A X.env X.xe) (hc:X.calm=true) (hi:PI X tg iter wi) (hg:PG X tg g) (hb:PSs X body tb)
  (hs:∀ x,foldedSetIterable iter X.env x=pure x:=by intro _; rfl):PS X (.For tg iter body [] pos) (tFor wi g tb):=by
 intro pins s σ H D I h
 refine wpAny_For (thn (hi pins s σ H _ I h) fun v s1 h1=>thn h1 fun itv s2 h2=>?_) hs
 obtain ⟨it,fp,tn,J,H2,e,I2,T,st2,f2,W,⟨m0,w0⟩,turn⟩:=h2
 subst e
 have stat:∀ {H':Hp},(∀ b∈fp,H' b=none)->∀ b∈fp,FpOk X pins H' b:=fun hn b hb=>⟨hn b hb,(f2 b hb).2⟩
 refine codeAny_forLoop_any (fun n s'=>∃ i σ' H',Inv X pins σ' H' s'∧tn i s'.heap∧(∀ b∈fp,H' b=none)∧W i n σ' H') ?_ m0 ⟨0,σ,H2,I2,st2,fun b hb=>(f2 b hb).1,w0⟩
 rintro n s3 ⟨i,σ3,H3,I3,st3,fr3,w3⟩
 rcases turn i n σ3 H3 w3 with ⟨stop,qn⟩ | ⟨go,N,hN,step⟩
 ·refine wpAny_passesOwn hp (thn (T.done X rfl rfl rfl hc i pins s3 σ3 H3 X.xe I3 (stat fr3) st3 stop) fun r s4 ⟨hr,I4⟩=>?_)
  subst hr
  exact wpAny_execs_nil ⟨σ3,H3,I4,qn⟩
 ·refine wpAny_passesOwn hp (thn (T.item X rfl rfl rfl hc i pins s3 σ3 H3 X.xe I3 (stat fr3) st3 go) fun r s4 ⟨u,hr,h4⟩=>?_)
  subst hr
  refine wpAny_passesOwn hp (thn h4 fun _ s5 ⟨x,H5,I5,r5,y5,st5,fr5⟩=>?_)
  have I5':=I5.pinned (stat fr5) (T.obj _ _ st5)
  refine wpAny_passesOwn hp (thn (hg _ s5 σ3 H5 x u _ I5' r5 (step x H5 y5)) fun _ s6 ⟨σ6,H6,I6,q6⟩=>?_)
  refine wpAny_passesOwn hp (thn (hb _ s6 σ6 H6 _ I6 q6) fun f s7 q7=>?_)
  have again:∀ {σ7:St} {H7:Hp},Inv X (pins++pinsAt fp s5.heap) σ7 H7 s7->N σ7 H7->∃ m,m<n∧∃ i σ' H',Inv X pins σ' H' s7∧tn i s7.heap∧(∀ b∈fp,H' b=none)∧W i m σ' H':=fun {σ7 H7} I7 n7=>by
   obtain ⟨m',hm,w7⟩:=hN σ7 H7 n7
   refine ⟨m',hm,i+1,σ7,H7,I7.unpinned,T.keep _ _ _ st5 fun b hb o e=>(I7.pin (b,o) (List.mem_append_right _ (List.mem_append_right _ (mem_pinsAt hb e)))).1,fun b hb=>?_,w7⟩
   obtain ⟨o,e,d⟩:=T.obj _ _ st5 b hb
   exact (I7.pin (b,o) (List.mem_append_right _ (List.mem_append_right _ (mem_pinsAt hb e)))).2.1
  cases f with
  | next=>obtain ⟨σ7,H7,I7,n7⟩:=q7; exact again I7 n7
  | cont=>obtain ⟨σ7,H7,I7,n7⟩:=q7; exact again I7 n7
  | brk=>obtain ⟨σ7,H7,I7,q7⟩:=q7; exact ⟨σ7,H7,I7.unpinned,q7⟩
  | ret v=>obtain ⟨x7,σ7,H7,I7,r7,q7⟩:=q7; exact ⟨x7,σ7,H7,I7.unpinned,r7,q7⟩
end
theorem for_list {K:PySem.W.Frag} {a:Addr} {xs:List V} {g:TG} {tb:TS} {D:Ends} {σ:St} {H:Hp} (Pv:Nat->St->Hp->Prop) (h0:Pv 0 σ H) (hl:∀ i σ H,i≤xs.length->Pv i σ H->SqL K H a xs)
  (hs:∀ i x σ H,xs[i]?=some x->Pv i σ H->g x σ H fun σ2 H2=>tb { D with nx:=Pv (i+1),ct:=Pv (i+1),bk:=D.nx } σ2 H2) (hd:∀ σ H,Pv xs.length σ H->D.nx σ H) :
  ∃ W:Nat->Nat->St->Hp->Prop,(∃ m,W 0 m σ H)∧∀ i m σ H,W i m σ H →
   ((Itl K a).stop i H∧D.nx σ H)∨((Itl K a).go i H∧∃ N:St->Hp->Prop,(∀ σ' H',N σ' H'->∃ m',m' < m∧W (i+1) m' σ' H')∧∀ x H',(Itl K a).yld i H x H'->g x σ H' fun σ2 H2=>tb { D with nx:=N,ct:=N,bk:=D.nx } σ2 H2):=by
 refine ⟨fun i m σ H=>m=xs.length-i∧i≤xs.length∧Pv i σ H,⟨xs.length,by simp,Nat.zero_le _,h0⟩,?_⟩
 rintro i m σ H ⟨rfl,hi,p⟩
 have q:=hl i σ H hi p
 by_cases hlt:i<xs.length
 ·refine .inr ⟨⟨xs,xs[i],q,by simp [hlt]⟩,Pv (i+1),fun σ' H' p'=>⟨xs.length-(i+1),by omega,rfl,hlt,p'⟩,fun x H' y=>?_⟩
  obtain ⟨e,y⟩:=y
  subst e
  exact hs i x σ _ (y xs q) p
 ·have e:i=xs.length:=by omega
  subst e
  exact .inl ⟨⟨xs,q,Nat.le_refl _⟩,hd σ H p⟩
theorem for_tup {K:PySem.W.Frag} {a:Addr} {xs:List V} {g:TG} {tb:TS} {D:Ends} {σ:St} {H:Hp} (Pv:Nat->St->Hp->Prop) (h0:Pv 0 σ H) (hl:∀ i σ H,i≤xs.length->Pv i σ H->SqT K H a xs)
  (hs:∀ i x σ H,xs[i]?=some x->Pv i σ H->g x σ H fun σ2 H2=>tb { D with nx:=Pv (i+1),ct:=Pv (i+1),bk:=D.nx } σ2 H2) (hd:∀ σ H,Pv xs.length σ H->D.nx σ H) :
  ∃ W:Nat->Nat->St->Hp->Prop,(∃ m,W 0 m σ H)∧∀ i m σ H,W i m σ H →
   ((Itt K a).stop i H∧D.nx σ H)∨((Itt K a).go i H∧∃ N:St->Hp->Prop,(∀ σ' H',N σ' H'->∃ m',m' < m∧W (i+1) m' σ' H')∧∀ x H',(Itt K a).yld i H x H'->g x σ H' fun σ2 H2=>tb { D with nx:=N,ct:=N,bk:=D.nx } σ2 H2):=by
 refine ⟨fun i m σ H=>m=xs.length-i∧i≤xs.length∧Pv i σ H,⟨xs.length,by simp,Nat.zero_le _,h0⟩,?_⟩
 rintro i m σ H ⟨rfl,hi,p⟩
 have q:=hl i σ H hi p
 by_cases hlt:i<xs.length
 ·refine .inr ⟨⟨xs,xs[i],q,by simp [hlt]⟩,Pv (i+1),fun σ' H' p'=>⟨xs.length-(i+1),by omega,rfl,hlt,p'⟩,fun x H' y=>?_⟩
  obtain ⟨e,y⟩:=y
  subst e
  exact hs i x σ _ (y xs q) p
 ·have e:i=xs.length:=by omega
  subst e
  exact .inl ⟨⟨xs,q,Nat.le_refl _⟩,hd σ H p⟩
theorem for_range {lo:Int} {n:Nat} {g:TG} {tb:TS} {D:Ends} {σ:St} {H:Hp} (Pv:Nat->St->Hp->Prop) (h0:Pv 0 σ H)
  (hs:∀ i σ H,i<n->Pv i σ H->g (.int (lo+i)) σ H fun σ2 H2=>tb { D with nx:=Pv (i+1),ct:=Pv (i+1),bk:=D.nx } σ2 H2) (hd:∀ σ H,Pv n σ H->D.nx σ H) :
  ∃ W:Nat->Nat->St->Hp->Prop,(∃ m,W 0 m σ H)∧∀ i m σ H,W i m σ H →
   ((Itr lo n).stop i H∧D.nx σ H)∨((Itr lo n).go i H∧∃ N:St->Hp->Prop,(∀ σ' H',N σ' H'->∃ m',m' < m∧W (i+1) m' σ' H')∧∀ x H',(Itr lo n).yld i H x H'->g x σ H' fun σ2 H2=>tb { D with nx:=N,ct:=N,bk:=D.nx } σ2 H2):=by
 refine ⟨fun i m σ H=>m=n-i∧i≤n∧Pv i σ H,⟨n,by simp,Nat.zero_le _,h0⟩,?_⟩
 rintro i m σ H ⟨rfl,hi,p⟩
 by_cases hlt:i<n
 ·refine .inr ⟨hlt,Pv (i+1),fun σ' H' p'=>⟨n-(i+1),by omega,rfl,hlt,p'⟩,fun x H' y=>?_⟩
  obtain ⟨e,y⟩:=y
  subst e y
  exact hs i σ _ hlt p
 ·have e:i=n:=by omega
  subst e
  exact .inl ⟨Nat.le_refl _,hd σ H p⟩
theorem while_by {c:TT} {tb:TS} {D:Ends} {σ:St} {H:Hp} (Pv:St->Hp->Prop) (μ:St->Hp->Nat) (h0:Pv σ H)
  (hs:∀ σ H,Pv σ H->c σ H fun b H1=>if b=true then tb { D with nx:=fun σ' H'=>Pv σ' H'∧μ σ' H' < μ σ H,ct:=fun σ' H'=>Pv σ' H'∧μ σ' H' < μ σ H,bk:=D.nx } σ H1 else D.nx σ H1)
  (mono:∀ σ H Q Q',(∀ b H1,Q b H1->Q' b H1)->c σ H Q->c σ H Q'):tWhile c tb D σ H:=by
 refine ⟨fun m σ H=>m=μ σ H∧Pv σ H,⟨_,rfl,h0⟩,?_⟩
 rintro m σ H ⟨rfl,p⟩
 refine mono σ H _ _ (fun b H1 q=>?_) (hs σ H p)
 cases b with
 | true=>exact ⟨_,fun σ' H' ⟨p',l⟩=>⟨_,l,rfl,p'⟩,q⟩
 | false=>exact q
end L2
namespace L2
open PySem PySem.Spec PyProof.Rows
abbrev R2:=V->V->Hp->VK->Prop
def OpR (X:Cx) (f:Value->Value->Sem Value) (r:R2):Prop :=
 ∀ (pins:List (Addr×Obj)) (s:Shared) (σ:St) (H:Hp) (x y:V) (v u:Value) (Q:VK),Inv X pins σ H s->RelV x v->RelV y u->r x y H Q →
  wpAny (model X.prog X.w) X.A (f v u) (EP X pins σ Q) X.xe s
def UnR (X:Cx) (f:Value->Sem Value) (r:V->Hp->VK->Prop):Prop :=
 ∀ (pins:List (Addr×Obj)) (s:Shared) (σ:St) (H:Hp) (x:V) (v:Value) (Q:VK),Inv X pins σ H s->RelV x v->r x H Q →
  wpAny (model X.prog X.w) X.A (f v) (EP X pins σ Q) X.xe s
def CallR (X:Cx) (f:Value) (r:List V->Hp->VK->Prop):Prop :=
 ∀ (pins:List (Addr×Obj)) (s:Shared) (σ:St) (H:Hp) (xs:List V) (us:List Value) (Q:VK),Inv X pins σ H s->Vals xs us->r xs H Q →
  wpAny (model X.prog X.w) X.A (call f us) (EP X pins σ Q) X.xe s
def tOp (r:R2) (ta tb:TE):TE:=fun σ H Q=>ta σ H fun x H1=>tb σ H1 fun y H2=>r x y H2 Q
def tUn (r:V->Hp->VK->Prop) (ta:TE):TE:=fun σ H Q=>ta σ H fun x H1=>r x H1 Q
inductive IR (C:Int->Int->Prop) (g:Int->Int->V) (x y:V) (H:Hp) (Q:VK):Prop
 | mk (i j:Int) (a:x=.int i) (b:y=.int j) (c:C i j) (q:Q (g i j) H):IR C g x y H Q
def rI (C:Int->Int->Prop) (g:Int->Int->V):R2:=fun x y H Q=>IR C g x y H Q
inductive I0R (g:Int->Int->V) (x y:V) (H:Hp) (Q:VK):Prop
 | mk (i j:Int) (a:x=.int i) (b:y=.int j) (q:Q (g i j) H):I0R g x y H Q
def rI0 (g:Int->Int->V):R2:=fun x y H Q=>I0R g x y H Q
def rU (g:Int->V):V->Hp->VK->Prop:=fun x H Q=>∃ i,x=.int i∧Q (g i) H
section
variable {X:Cx} {a b c:Expr} {ta tb tc:TE} {pos:Pos}
theorem binT (ha:PE X a ta) (hb:PE X b tb) {pins:List (Addr×Obj)} {s:Shared} {σ:St} {H:Hp} {R:V->V->Hp->Prop} (I:Inv X pins σ H s)
  (h:ta σ H fun x H1=>tb σ H1 fun y H2=>R x y H2) {Q:Value->Shared->Prop} {f:Value->Value->Sem Value}
  (hf:∀ v u s2 x y H2,Inv X pins σ H2 s2->RelV x v->RelV y u->R x y H2->wpAny (model X.prog X.w) X.A (f v u) Q X.xe s2) :
  wpAny (model X.prog X.w) X.A (eval a X.env) (fun v s₁=>wpAny (model X.prog X.w) X.A (eval b X.env) (fun u s₂=>wpAny (model X.prog X.w) X.A (f v u) Q X.xe s₂) X.xe s₁) X.xe s:=by
 refine thn (ha pins s σ H _ I h) fun v s1 ⟨x,H1,I1,r1,q1⟩=>?_
 refine thn (hb pins s1 σ H1 _ I1 q1) fun u s2 ⟨y,H2,I2,r2,q2⟩=>?_
 exact hf v u s2 x y H2 I2 r1 r2 q2
theorem pe_op {op:Operator} {r:R2} (ho:OpR X (binaryOp op) r) (ha:PE X a ta) (hb:PE X b tb):PE X (.BinOp a op b pos) (tOp r ta tb):=by
 intro pins s σ H Q I h
 exact wpAny_BinOp (binT ha hb I h fun v u s2 x y H2 I2 rx ry q=>ho pins s2 σ H2 x y v u Q I2 rx ry q)
theorem pe_un {op:UnaryOp} {r:V->Hp->VK->Prop} (ho:UnR X (unaryOp op) r) (ha:PE X a ta):PE X (.UnaryOp op a pos) (tUn r ta):=by
 intro pins s σ H Q I h
 exact UnaryOp_ (thn (ha pins s σ H _ I h) fun v s1 ⟨x,H1,I1,r1,q1⟩=>ho pins s1 σ H1 x v Q I1 r1 q1)
theorem opI {f:Value->Value->Sem Value} {C:Int->Int->Prop} {g:Int->Int->Int}
  (rule:∀ (i j:Int) (t u:Tok) (s:Shared) (Q:Value->Shared->Prop) (E:Value->Shared->Prop),C i j->Q (.int (g i j) s.toks) { s with toks:=s.toks+1 }->wpAny (model X.prog X.w) X.A (f (.int i t) (.int j u)) Q E s) :
  OpR X f (rI C fun i j=>.int (g i j)):=by
 intro pins s σ H x y v u Q I rx ry h
 obtain ⟨i,j,rfl,rfl,hc,q⟩:=h
 obtain ⟨t,rfl⟩:=rx
 obtain ⟨t',rfl⟩:=ry
 exact rule i j t t' s _ _ hc ⟨.int (g i j),H,I.tok _,⟨_,rfl⟩,q⟩
theorem opI0 {f:Value->Value->Sem Value} {g:Int->Int->Int}
  (rule:∀ (i j:Int) (t u:Tok) (s:Shared) (Q:Value->Shared->Prop) (E:Value->Shared->Prop),Q (.int (g i j) s.toks) { s with toks:=s.toks+1 }->wpAny (model X.prog X.w) X.A (f (.int i t) (.int j u)) Q E s) :
  OpR X f (rI0 fun i j=>.int (g i j)):=by
 intro pins s σ H x y v u Q I rx ry h
 obtain ⟨i,j,rfl,rfl,q⟩:=h
 obtain ⟨t,rfl⟩:=rx
 obtain ⟨t',rfl⟩:=ry
 exact rule i j t t' s _ _ ⟨.int (g i j),H,I.tok _,⟨_,rfl⟩,q⟩
theorem opB0 {f:Value->Value->Sem Value} {g:Int->Int->Bool}
  (rule:∀ (i j:Int) (t u:Tok) (s:Shared) (Q:Value->Shared->Prop) (E:Value->Shared->Prop),Q (.bool (g i j)) s->wpAny (model X.prog X.w) X.A (f (.int i t) (.int j u)) Q E s) :
  OpR X f (rI0 fun i j=>.bl (g i j)):=by
 intro pins s σ H x y v u Q I rx ry h
 obtain ⟨i,j,rfl,rfl,q⟩:=h
 obtain ⟨t,rfl⟩:=rx
 obtain ⟨t',rfl⟩:=ry
 exact rule i j t t' s _ _ ⟨.bl (g i j),H,I,rfl,q⟩
def CDiv (i j:Int):Prop:=0<j∧j<1073741824
def CPow (i j:Int):Prop:=0≤j∧j≤1000000∧i.natAbs<2 ^ 64
def CMul (i j:Int):Prop:=(-(2 ^ 64)<i∧i<2 ^ 64)∨(-(2 ^ 64)<j∧j<2 ^ 64)
theorem CMul.ok {i j:Int} (h:CMul i j):IntMulOk i j:=by
 rcases h with ⟨h1,h2⟩ | ⟨h1,h2⟩
 ·exact .of_left (intBits_le_64 h1 h2)
 ·exact .of_right (intBits_le_64 h1 h2)
theorem op_add:OpR X (binaryOp .Add) (rI0 fun i j=>.int (i+j)):=opI0 fun _ _ _ _ _ _ _ q=>add_int q
theorem op_sub:OpR X (binaryOp .Sub) (rI0 fun i j=>.int (i-j)):=opI0 fun _ _ _ _ _ _ _ q=>sub_int q
theorem op_mul:OpR X (binaryOp .Mult) (rI CMul fun i j=>.int (i*j)):=opI fun _ _ _ _ _ _ _ hc q=>mul_int q hc.ok
theorem op_fdiv:OpR X (binaryOp .FloorDiv) (rI CDiv fun i j=>.int (i / j)):=opI fun i j _ _ _ _ _ hc q=>by
 have h1:(0:Int)<j:=hc.1
 have h2:j<1073741824:=hc.2
 exact floordiv_int (by omega) (by rw [Int.fdiv_eq_ediv_of_nonneg i (by omega)]; exact q) (.inl (PyProof.noPylong_small (by omega)))
theorem op_mod:OpR X (binaryOp .Mod) (rI (fun _ j=>0<j) fun i j=>.int (i % j)):=opI fun i j _ _ _ _ _ hc q=>by
 have h1:(0:Int)<j:=hc
 exact mod_int' (by omega) (by rw [Int.fmod_eq_emod_of_nonneg i (by omega)]; exact q)
theorem op_modN:OpR X (binaryOp .Mod) (rI (fun _ j=>j≠0) fun i j=>.int (i.fmod j)):=opI fun _ _ _ _ _ _ _ hc q=>mod_int' hc q
theorem op_pow:OpR X (binaryOp .Pow) (rI CPow fun i j=>.int (i ^ j.toNat)):=opI fun _ _ _ _ _ _ _ hc q=>pow_int_small hc.1 hc.2.1 hc.2.2 q
theorem op_xor:OpR X (binaryOp .BitXor) (rI0 fun i j=>.int (Builtin.bitXor i j)):=opI0 fun _ _ _ _ _ _ _ q=>xor_int q
theorem unI {f:Value->Sem Value} {g:Int->Int}
  (rule:∀ (i:Int) (t:Tok) (s:Shared) (Q:Value->Shared->Prop) (E:Value->Shared->Prop),Q (.int (g i) s.toks) { s with toks:=s.toks+1 }->wpAny (model X.prog X.w) X.A (f (.int i t)) Q E s) :
  UnR X f (rU fun i=>.int (g i)):=by
 intro pins s σ H x v Q I rx h
 obtain ⟨i,rfl,q⟩:=h
 obtain ⟨t,rfl⟩:=rx
 exact rule i t s _ _ ⟨.int (g i),H,I.tok _,⟨_,rfl⟩,q⟩
theorem un_neg:UnR X (unaryOp .USub) (rU fun i=>.int (-i)):=unI fun _ _ _ _ _ q=>neg_int q
end
def scal:V->V->Bool
 | .non,.non=>true | .non,.int _=>true | .int _,.non=>true | .non,.bl _=>true | .bl _,.non=>true | .non,.str _=>true | .str _,.non=>true
 | .int _,.int _=>true | .bl _,.bl _=>true | .str _,.str _=>true | .byt _,.byt _=>true
 | .int _,.str _=>true | .str _,.int _=>true | .bl _,.str _=>true | .str _,.bl _=>true
 | _,_=>false
inductive EqR (x y:V) (H:Hp) (Q:VK):Prop
 | mk (c:scal x y=true) (q:Q (.bl (decide (x=y))) H):EqR x y H Q
inductive NeR (x y:V) (H:Hp) (Q:VK):Prop
 | mk (c:scal x y=true) (q:Q (.bl (!decide (x=y))) H):NeR x y H Q
def rEq:R2:=fun x y H Q=>EqR x y H Q
def rNe:R2:=fun x y H Q=>NeR x y H Q
theorem dec_int {i j:Int}:decide (V.int i=V.int j)=(i == j):=by
 rw [Bool.eq_iff_iff]
 simp
theorem dec_bl {i j:Bool}:decide (V.bl i=V.bl j)=(i == j):=by
 rw [Bool.eq_iff_iff]
 simp
theorem dec_str {i j:Str}:decide (V.str i=V.str j)=(i == j):=by
 rw [Bool.eq_iff_iff]
 simp
theorem dec_byt {i j:Array UInt8}:decide (V.byt i=V.byt j)=(i.toList == j.toList):=by
 rw [Bool.eq_iff_iff]
 cases i
 cases j
 simp
section
variable {X:Cx} {a b c:Expr} {ta tb tc:TE} {pos:Pos}
theorem fin_bl {pins:List (Addr×Obj)} {σ:St} {H:Hp} {s:Shared} {Q:VK} {k k':Bool} (I:Inv X pins σ H s) (q:Q (.bl k) H) (e:k=k'):EP X pins σ Q (.bool k') s:=by
 subst e
 exact ⟨.bl k,H,I,rfl,q⟩
theorem op_eq:OpR X (compareOp .Eq) rEq:=by
 intro pins s σ H x y v u Q I rx ry h
 obtain ⟨hs,q⟩:=h
 cases x with
 | non =>
  cases rx
  cases y with
  | non=>cases ry; exact PySem.EqNone.eq_none_none (fin_bl I q (by simp))
  | bl j=>cases ry; exact PySem.EqNone.eq_none_bool (fin_bl I q (by simp))
  | int j=>obtain ⟨t',rfl⟩:=ry; exact PySem.EqNone.eq_none_int (fin_bl I q (by simp))
  | str j=>obtain ⟨t',rfl⟩:=ry; exact PySem.EqNone.eq_none_str (fin_bl I q (by simp))
  | _=>exact absurd (show false=true from hs) Bool.false_ne_true
 | bl i =>
  cases rx
  cases y with
  | non=>cases ry; exact PySem.EqNone.eq_bool_none (fin_bl I q (by simp))
  | bl j=>cases ry; exact eq_bool (fin_bl I q dec_bl)
  | str j=>obtain ⟨t',rfl⟩:=ry; exact PySem.EqMixed.eq_bool_str (fin_bl I q (by simp))
  | _=>exact absurd (show false=true from hs) Bool.false_ne_true
 | int i =>
  obtain ⟨t,rfl⟩:=rx
  cases y with
  | non=>cases ry; exact PySem.EqNone.eq_int_none (fin_bl I q (by simp))
  | int j=>obtain ⟨t',rfl⟩:=ry; exact eq_int (fin_bl I q dec_int)
  | str j=>obtain ⟨t',rfl⟩:=ry; exact PySem.EqMixed.eq_int_str (fin_bl I q (by simp))
  | _=>exact absurd (show false=true from hs) Bool.false_ne_true
 | str i =>
  obtain ⟨t,rfl⟩:=rx
  cases y with
  | non=>cases ry; exact PySem.EqNone.eq_str_none (fin_bl I q (by simp))
  | bl j=>cases ry; exact PySem.EqMixed.eq_str_bool (fin_bl I q (by simp))
  | int j=>obtain ⟨t',rfl⟩:=ry; exact PySem.EqMixed.eq_str_int (fin_bl I q (by simp))
  | str j=>obtain ⟨t',rfl⟩:=ry; exact eq_str (fin_bl I q dec_str)
  | _=>exact absurd (show false=true from hs) Bool.false_ne_true
 | byt i =>
  obtain ⟨t,rfl⟩:=rx
  cases y with
  | byt j=>obtain ⟨t',rfl⟩:=ry; exact PySem.W.eq_bytes (fin_bl I q dec_byt)
  | _=>exact absurd (show false=true from hs) Bool.false_ne_true
 | _=>cases y <;> exact absurd (show false=true from hs) Bool.false_ne_true
theorem op_ne:OpR X (compareOp .NotEq) rNe:=by
 intro pins s σ H x y v u Q I rx ry h
 obtain ⟨hs,q⟩:=h
 cases x with
 | non =>
  cases rx
  cases y with
  | non=>cases ry; exact PySem.EqNone.ne_none_none (fin_bl I q (by simp))
  | bl j=>cases ry; exact PySem.EqNone.ne_none_bool (fin_bl I q (by simp))
  | int j=>obtain ⟨t',rfl⟩:=ry; exact PySem.EqNone.ne_none_int (fin_bl I q (by simp))
  | str j=>obtain ⟨t',rfl⟩:=ry; exact PySem.EqNone.ne_none_str (fin_bl I q (by simp))
  | _=>exact absurd (show false=true from hs) Bool.false_ne_true
 | bl i =>
  cases rx
  cases y with
  | non=>cases ry; exact PySem.EqNone.ne_bool_none (fin_bl I q (by simp))
  | bl j=>cases ry; exact ne_bool (fin_bl I q (congrArg not dec_bl))
  | str j=>obtain ⟨t',rfl⟩:=ry; exact PySem.EqMixed.ne_bool_str (fin_bl I q (by simp))
  | _=>exact absurd (show false=true from hs) Bool.false_ne_true
 | int i =>
  obtain ⟨t,rfl⟩:=rx
  cases y with
  | non=>cases ry; exact PySem.EqNone.ne_int_none (fin_bl I q (by simp))
  | int j=>obtain ⟨t',rfl⟩:=ry; exact ne_int (fin_bl I q (congrArg not dec_int))
  | str j=>obtain ⟨t',rfl⟩:=ry; exact PySem.EqMixed.ne_int_str (fin_bl I q (by simp))
  | _=>exact absurd (show false=true from hs) Bool.false_ne_true
 | str i =>
  obtain ⟨t,rfl⟩:=rx
  cases y with
  | non=>cases ry; exact PySem.EqNone.ne_str_none (fin_bl I q (by simp))
  | bl j=>cases ry; exact PySem.EqMixed.ne_str_bool (fin_bl I q (by simp))
  | int j=>obtain ⟨t',rfl⟩:=ry; exact PySem.EqMixed.ne_str_int (fin_bl I q (by simp))
  | str j=>obtain ⟨t',rfl⟩:=ry; exact ne_str (fin_bl I q (congrArg not dec_str))
  | _=>exact absurd (show false=true from hs) Bool.false_ne_true
 | byt i =>
  obtain ⟨t,rfl⟩:=rx
  cases y with
  | byt j=>obtain ⟨t',rfl⟩:=ry; exact PySem.W.ne_bytes (fin_bl I q (congrArg not dec_byt))
  | _=>exact absurd (show false=true from hs) Bool.false_ne_true
 | _=>cases y <;> exact absurd (show false=true from hs) Bool.false_ne_true
theorem op_lt:OpR X (compareOp .Lt) (rI0 fun i j=>.bl (decide (i<j))):=opB0 fun _ _ _ _ _ _ _ q=>lt_int q
theorem op_le:OpR X (compareOp .LtE) (rI0 fun i j=>.bl (decide (i≤j))):=opB0 fun _ _ _ _ _ _ _ q=>le_int q
theorem op_gt:OpR X (compareOp .Gt) (rI0 fun i j=>.bl (decide (j<i))):=opB0 fun _ _ _ _ _ _ _ q=>gt_int q
theorem op_ge:OpR X (compareOp .GtE) (rI0 fun i j=>.bl (decide (j≤i))):=opB0 fun _ _ _ _ _ _ _ q=>ge_int q
theorem op_isN:OpR X (compareOp .Is) (fun x y H Q=>y=.non∧Q (.bl (decide (x=.non))) H):=by
 intro pins s σ H x y v u Q I rx ry h
 obtain ⟨rfl,q⟩:=h
 cases ry
 refine is_none_gen (fin_bl I q ?_)
 cases x <;> first
  | (cases rx; rfl)
  | (obtain ⟨t,rfl⟩:=rx; rfl)
theorem op_notN:OpR X (compareOp .IsNot) (fun x y H Q=>y=.non∧Q (.bl (!decide (x=.non))) H):=by
 intro pins s σ H x y v u Q I rx ry h
 obtain ⟨rfl,q⟩:=h
 cases ry
 refine isnot_none_gen (fin_bl I q ?_)
 cases x <;> first
  | (cases rx; rfl)
  | (obtain ⟨t,rfl⟩:=rx; rfl)
theorem nomark (b:Expr) {op:CmpOp} (h:op≠.In:=by decide) (h2:op≠.NotIn:=by decide):behindInMarks op b=false:=by
 have e1:(op == CmpOp.In)=false:=by cases op <;> first | rfl | exact absurd rfl h
 have e2:(op == CmpOp.NotIn)=false:=by cases op <;> first | rfl | exact absurd rfl h2
 cases b <;> simp [behindInMarks,e1,e2]
theorem pe_cmpR {op:CmpOp} {r:R2} (ho:OpR X (compareOp op) r) (ha:PE X a ta) (hb:PE X b tb) (hm:behindInMarks op b=false):PE X (.Compare a [op] [b] pos) (tOp r ta tb):=by
 intro pins s σ H Q I h
 exact wpAny_Compare1 (binT ha hb I h fun v u s2 x y H2 I2 rx ry q=>ho pins s2 σ H2 x y v u Q I2 rx ry q) hm
def tTest (t:TE):TT:=fun σ H Q=>t σ H fun x H'=>BlR x H' Q
theorem pt_cmpR {op:CmpOp} {r:R2} (ho:OpR X (compareOp op) r) (ha:PE X a ta) (hb:PE X b tb) (hm:behindInMarks op b=false):PT X (.Compare a [op] [b] pos) (tTest (tOp r ta tb)):=by
 intro pins s σ H Q I h
 refine wpAny_isTrue_Compare1 (thn (ha pins s σ H _ I h) fun v s1 ⟨x,H1,I1,r1,q1⟩=>thn (hb pins s1 σ H1 _ I1 q1) fun u s2 ⟨y,H2,I2,r2,q2⟩ =>
  thn (ho pins s2 σ H2 x y v u _ I2 r1 r2 q2) fun c s3 ⟨z,H3,I3,r3,k,e,q3⟩=>?_) hm
 subst e
 cases r3
 exact wpAny_truthy_bool ⟨H3,I3,q3⟩
def tChain (r r':R2) (ta tb tc:TE):TE:=fun σ H Q=>ta σ H fun x H1=>tb σ H1 fun y H2=>r x y H2 fun z H3=>∃ k,z=.bl k ∧
 (if k=true then tc σ H3 fun w' H4=>r' y w' H4 Q else Q (.bl false) H3)
theorem pt_chain {op op':CmpOp} {r r':R2} (ho:OpR X (compareOp op) r) (ho':OpR X (compareOp op') r') (ha:PE X a ta) (hb:PE X b tb) (hc:PE X c tc)
  (hm:lastMarks [op,op'] [b,c]=false:=by with_unfolding_all rfl):PT X (.Compare a [op,op'] [b,c] pos) (tTest (tChain r r' ta tb tc)):=by
 intro pins s σ H Q I h
 refine isTrue_chain (thn (ha pins s σ H _ I h) fun v s1 ⟨x,H1,I1,r1,q1⟩=>test_link (thn (hb pins s1 σ H1 _ I1 q1) fun u s2 ⟨y,H2,I2,r2,q2⟩ =>
  thn (ho pins s2 σ H2 x y v u _ I2 r1 r2 q2) fun d s3 ⟨z,H3,I3,r3,k,e,q3⟩=>?_)) hm
 subst e
 cases r3
 refine wpAny_truthy_bool ?_
 cases k with
 | false =>
  obtain ⟨k',e',q'⟩:=q3
  cases e'
  exact ite_ff ⟨H3,I3,q'⟩
 | true =>
  refine ite_tt (test_last (thn (hc pins s3 σ H3 _ I3 q3) fun w' s4 ⟨z',H4,I4,r4,q4⟩=>thn (ho' pins s4 σ H4 y z' u w' _ I4 r2 r4 q4) fun d' s5 ⟨z2,H5,I5,r5,k2,e2,q5⟩=>?_))
  subst e2
  cases r5
  exact wpAny_truthy_bool ⟨H5,I5,q5⟩
theorem line63:(sizeLine:Nat)<2 ^ 63:=by rw [sizeLine_eq]; decide
theorem vals1 {x:V} {us:List Value} (r:Vals [x] us):∃ u,us=[u]∧RelV x u:=by
 cases r with
 | cons r1 r2=>cases r2; exact ⟨_,rfl,r1⟩
theorem vals2 {x y:V} {us:List Value} (r:Vals [x,y] us):∃ u w',us=[u,w']∧RelV x u∧RelV y w':=by
 cases r with
 | cons r1 r2 =>
  cases r2 with
  | cons r3 r4=>cases r4; exact ⟨_,_,rfl,r1,r3⟩
theorem call_abs:CallR X (.builtin "abs") (fun xs H Q=>∃ i,xs=[.int i]∧Q (.int (if i<0 then -i else i)) H):=by
 intro pins s σ H xs us Q I r h
 obtain ⟨i,rfl,q⟩:=h
 obtain ⟨u,rfl,t,rfl⟩:=vals1 r
 exact call_abs_int fun u tk=>⟨.int (if i<0 then -i else i),H,I.tok _,⟨_,rfl⟩,q⟩
theorem call_max2 (hc:X.calm=true):CallR X (.builtin "max") (fun xs H Q=>∃ i j,xs=[.int i,.int j]∧Q (.int (if j > i then j else i)) H):=by
 intro pins s σ H xs us Q I r h
 obtain ⟨i,j,rfl,q⟩:=h
 obtain ⟨u,w',rfl,⟨t,rfl⟩,⟨t',rfl⟩⟩:=vals2 r
 refine max_two_ints (I.ok.hd hc) fun h' tk k=>⟨_,H,I.kept k,?_,q⟩
 by_cases hj:j > i
 ·rw [if_pos hj,if_pos hj]; exact ⟨_,rfl⟩
 ·rw [if_neg hj,if_neg hj]; exact ⟨_,rfl⟩
theorem call_int1:CallR X (.type "int") (fun xs H Q=>(∃ i,xs=[.int i]∧Q (.int i) H)∨∃ k,xs=[.bl k]∧Q (.int (if k then 1 else 0)) H):=by
 intro pins s σ H xs us Q I r h
 rcases h with ⟨i,rfl,q⟩ | ⟨k,rfl,q⟩
 ·obtain ⟨u,rfl,t,rfl⟩:=vals1 r
  exact call_int_int ⟨.int i,H,I,⟨_,rfl⟩,q⟩
 ·obtain ⟨u,rfl,r1⟩:=vals1 r
  cases r1
  exact call_int_bool ⟨.int (if k then 1 else 0),H,I.tok _,⟨_,rfl⟩,q⟩
end
end L2
namespace L2
open PySem PySem.Spec PyProof.Rows
structure ObjM (h:Heap) (x dx C:Addr) (mA:Str->Option Value):Prop where
 obj:h.get? x=some (PySem.W.instObj C dx)
 ns:h.Ns1 dx mA
 ne:dx≠x
theorem lookIn_ns {h:Heap} {dx:Addr} {mA:Str->Option Value} (n:h.Ns1 dx mA):∃ od,h.get? dx=some od∧∀ name,PySem.W.lookIn name od=some (mA name):=by
 obtain ⟨o,es,ep,ho,hd,hk,_,hm⟩:=n
 refine ⟨o,ho,fun name=>?_⟩
 have e:=hm name
 unfold nsFind findBy at e
 rw [←Array.find?_toList] at e
 unfold PySem.W.lookIn
 rw [hd]
 dsimp only
 split
 ·rename_i y q
  rw [q] at e
  exact congrArg some e
 ·rename_i q
  rw [q] at e
  have a:es.toList.any (·.refKey)=false:=by
   rw [List.any_eq_false]
   intro y hy
   obtain ⟨z,t,hkey⟩:=hk y (Array.mem_toList_iff.mp hy)
   simp [DictEntry.refKey,hkey]
  have a':¬ es.toList.any (·.refKey)=true:=by rw [a]; exact Bool.false_ne_true
  rw [if_neg a']
  exact congrArg some e
theorem ObjM.look {h:Heap} {x dx C:Addr} {mA:Str->Option Value} (I:ObjM h x dx C mA):∃ od,PySem.W.InstAt h x (PySem.W.instObj C dx) C (some od)∧∀ name,PySem.W.lookIn name od=some (mA name) :=
 let ⟨od,ho,hl⟩:=lookIn_ns I.ns
 ⟨od,⟨I.obj,rfl,rfl,ho⟩,hl⟩
section
variable {prog:Program} {w:World} {A:Around} {E:Value->Shared->Prop} {s:Shared} {K:PySem.W.Frag} {x dx C f:Addr} {mA:Str->Option Value} {name:Str} {v:Value}
theorem set_map {ns:List Str} {Q:Unit->Shared->Prop} (X:K.In s.heap) (I:ObjM s.heap x dx C mA)
  (hs:PySem.W.findIn K (.ref C) "__setattr__" = some (some (.builtin "object.__setattr__"))) (hp:PySem.W.plainOver K C=true) (ht:PySem.W.takerIn K C name=some none) (hh:PySem.W.hasDictIn K C=true)
  (hw:PySem.Within mA ns) (hsz:ns.length≤sizeLine)
  (h:∀ h',ObjM h' x dx C (fun y=>if y=name then some v else mA y)->Heap.SameBut dx s.heap h'->Q () { s with heap:=h',toks:=s.toks+2 }) :
  wpAny (model prog w) A (setAttr (.ref x) name v) Q E s:=by
 obtain ⟨od,J,hl⟩:=I.look
 refine PySem.W.set_plain X J hs (PySem.W.osa_open (s:={ s with toks:=s.toks+1 }) (r:=none) X J hp ht fun b=>?_)
 obtain ⟨cd,hc,hd'⟩:=PySem.W.any_some hh
 have hx:s.heap.get? x=some ⟨.ref C,some dx,.plain,#[]⟩:=I.obj
 refine wpAny_bind (wpAny_pure (wpAny_bind (wpAny_bind (wpAny_loadPart hx (wpAny_bind (PySem.W.Looks.here (s:={ s with toks:=s.toks+1 }) (PySem.W.looks_clsIn X hc) ?_))))))
 rw [hd']
 refine wpAny_pure (a:=some dx) (wpAny_bind (wpAny_pure (wpAny_bind ?_)))
 refine wpAny_nsSet1 (s:={ s with toks:=s.toks+1 }) I.ns fun h' hn2 hs2=>?_
 obtain ⟨oD,esD,epD,hoD,hdD,hcD⟩:=hn2.count (PySem.Within.cons name v hw)
 refine wpAny_bind (wpAny_lookBehind hoD (by rw [hdD]; exact pastItsLine_dict (Nat.le_trans hcD (by rw [List.length_cons]; omega))) ?_)
 exact wpAny_pure (h _ ⟨(hs2.2 _ (Ne.symm I.ne)).trans I.obj,hn2,I.ne⟩ hs2)
end
theorem RelO.some_of {v:V} {o:Option Value} (r:RelO (some v) o):∃ u,o=some u∧RelV v u:=by
 cases o with
 | none=>exact (show False from r).elim
 | some u=>exact ⟨u,rfl,r⟩
theorem handed_of {v:V} {u:Value} (r:RelV v u):PySem.W.handedIn u=true:=by
 cases v with
 | non=>cases (show u=Value.none from r); rfl
 | bl b=>cases (show u=Value.bool b from r); rfl
 | int i=>obtain ⟨t,e⟩:=(show ∃ t,u=Value.int i t from r); cases e; rfl
 | str x=>obtain ⟨t,e⟩:=(show ∃ t,u=Value.str x t from r); cases e; rfl
 | byt b=>obtain ⟨t,e⟩:=(show ∃ t,u=Value.bytes b t from r); cases e; rfl
 | flt b=>obtain ⟨t,e⟩:=(show ∃ t,u=Value.float b t from r); cases e; rfl
 | ref a=>cases (show u=Value.ref a from r); rfl
 | ty n=>cases (show u=Value.type n from r); rfl
section
variable {P:Program} {w:World} {H H':Hp} {h h':Heap} {a C dx:Addr} {fs fs':List (Str×V)}
end
structure Cls (K:PySem.W.Frag) (C:Addr):Prop where
 pg:PySem.W.plainGet K C Str.empty=true
 hd:PySem.W.hasDictIn K C=true
 po:PySem.W.plainOver K C=true
 sa:PySem.W.findIn K (.ref C) "__setattr__" = some (some (.builtin "object.__setattr__"))
theorem Cls.get {K:PySem.W.Frag} {C:Addr} (c:Cls K C) (f:Str):PySem.W.plainGet K C f=true:=c.pg
section
variable {X:Cx} {pins:List (Addr×Obj)} {σ:St} {H:Hp} {s:Shared} {a C dx:Addr} {fs:List (Str×V)} {f:Str} {v:V} {A:Around} {E:Value->Shared->Prop}
theorem attr_of {prog:Program} {w:World} {env:Env} {e:Expr} {f:Str} {pos:Pos} {s:Shared} {Q:Value->Shared->Prop} (hb:attributeBase e f env (eval e env)=eval e env)
  (h:wpAny (model prog w) A (eval e env) (fun o s₁=>wpAny (model prog w) A (getAttr o f true) Q E s₁) E s):wpAny (model prog w) A (eval (.Attribute e f pos) env) Q E s :=
 Attribute_any_ h (by rw [arm_eval_Attribute,hb])
end
section
variable {X:Cx} {o e value:Expr} {f:Str} {pos pos' tpos:Pos} {ta tv:TE}
end
section
variable {X:Cx} {pins:List (Addr×Obj)} {σ:St} {H:Hp} {s:Shared} {A:Around} {E:Value->Shared->Prop} {Q:Value->Shared->Prop} {c:Value} {b:Bool}
end
end L2
namespace L2
open PySem PySem.Spec PyProof.Rows
structure Room (k:Nat) (A:Around):Prop where
 hd:A.handled=none
 dp:A.depth+3*k+5<recursionLimit
 un:A.units+16*k+200<cLine
theorem Room.mono {j k:Nat} {A:Around} (r:Room k A) (h:j≤k):Room j A:=⟨r.hd,by have:=r.dp; omega,by have:=r.un; omega⟩
theorem Room.deeper {k:Nat} {A:Around} (r:Room (k+1) A) (env:Env):Room k (A.deeper env) :=
 ⟨r.hd,by have:=r.dp; show A.depth+1+3*k+5<_; omega,by have:=r.un; show A.units+3+16*k+200<_; omega⟩
theorem Room.in1 {k:Nat} {A:Around} (r:Room (k+1) A):Room k A.in1 :=
 ⟨r.hd,by have:=r.dp; show A.depth+3*k+5<_; omega,by have:=r.un; show A.units+1+16*k+200<_; omega⟩
theorem make_depth {A:Around} {C:Addr} {us:List Value} {kw:List (Str×Value)}:(A.under (.builtin "type.__call__" ⟨.ref C :: us,kw⟩)).depth=A.depth+1:=by
 first | rfl | simp [Around.under,Code.weight,Code.isCreation,Code.isGuard,Code.isCaller,Code.frames,Code.isFrame,guardIds]
theorem make_units {A:Around} {C:Addr} {us:List Value} {kw:List (Str×Value)}:(A.under (.builtin "type.__call__" ⟨.ref C :: us,kw⟩)).units=A.units+1:=by
 first | rfl | simp [Around.under,Code.cUnits,Code.frames,Code.isFrame]
theorem Room.make {k:Nat} {A:Around} (r:Room (k+1) A) (C:Addr) (us:List Value) (kw:List (Str×Value)):Room k (A.under (.builtin "type.__call__" ⟨.ref C :: us,kw⟩)) :=
 ⟨r.hd,by have:=r.dp; rw [make_depth]; omega,by have:=r.un; rw [make_units]; omega⟩
theorem Room.depth {k:Nat} {A:Around} (r:Room k A):A.depth<recursionLimit:=by have:=r.dp; omega
theorem Room.units {k:Nat} {A:Around} (r:Room k A):A.units+64<cLine:=by have:=r.un; omega
def tNil:TA:=fun _ H Q=>Q [] H
def tCons (ta:TE) (tr:TA):TA:=fun σ H Q=>ta σ H fun x H1=>tr σ H1 fun xs H2=>Q (x :: xs) H2
section
variable {X:Cx} {e:Expr} {es:List Expr} {te:TE} {t:TA} {pos:Pos}
theorem pa_nil:PA X [] tNil:=fun _ _ _ _ H Q I h=>Calls.spliced_nil ⟨[],H,I,.nil,h⟩
theorem pa_cons (ha:PE X e te) (hr:PA X es t) (hs:starEach (e :: es) X.env=(false,eval e X.env) :: starEach es X.env:=by rfl):PA X (e :: es) (tCons te t):=by
 intro pos pins s σ H Q I h
 rw [hs]
 show wpAny _ _ (spliced ((false,eval e X.env) :: backTo pos (starEach es X.env))) _ _ s
 refine Calls.spliced_cons (thn (ha pins s σ H _ I h) fun u s1 ⟨x,H1,I1,r1,q1⟩=>?_)
 exact thn (hr pos pins s1 σ H1 _ I1 q1) fun us s2 ⟨xs,H2,I2,r2,q2⟩=>⟨x :: xs,H2,I2,.cons r1 r2,q2⟩
inductive TupNR (xs:List V) (H:Hp) (Q:VK):Prop
 | mk (n:xs.length≤sizeLine) (q:∀ p,H p=none->Q (.ref p) (upd H p (.tup xs))):TupNR xs H Q
inductive LstNR (xs:List V) (H:Hp) (Q:VK):Prop
 | mk (n:xs.length≤sizeLine) (q:∀ p,H p=none->Q (.ref p) (upd H p (.lst xs))):LstNR xs H Q
def tTup (t:TA):TE:=fun σ H Q=>t σ H fun xs H1=>TupNR xs H1 Q
def tLst (t:TA):TE:=fun σ H Q=>t σ H fun xs H1=>LstNR xs H1 Q
theorem pe_tup {x1} (h:PA X es t):PE X (.Tuple es x1 pos) (tTup t):=by
 intro pins s σ H Q I hq
 refine wpAny_Tuple_spliced (thn (h pos pins s σ H _ I hq) fun us s1 ⟨xs,H1,I1,r,z,q⟩=>⟨by rw [←r.length]; exact z,?_⟩)
 have hf:H1 s1.heap.objs.size=none:=I1.hok.fresh (Nat.le_refl _)
 refine ⟨.ref s1.heap.objs.size,upd H1 s1.heap.objs.size (.tup xs),I1.laid (t':=s1.toks) (fun b u e=>Heap.get?_push_of_some _ e) (Nat.le_refl _) ?_,rfl,q _ hf⟩
 exact ⟨z,us,r,⟨_,Heap.get?_push_size _ rfl,rfl,_,rfl⟩,_,Heap.get?_push_size _ rfl,rfl⟩
theorem pe_lst (h:PA X es t):PE X (.List es pos) (tLst t):=by
 intro pins s σ H Q I hq
 refine wpAny_List_spliced (thn (h pos pins s σ H _ I hq) fun us s1 ⟨xs,H1,I1,r,z,q⟩=>⟨by rw [←r.length]; exact z,?_⟩)
 have hf:H1 s1.heap.objs.size=none:=I1.hok.fresh (Nat.le_refl _)
 refine ⟨.ref s1.heap.objs.size,upd H1 s1.heap.objs.size (.lst xs),I1.laid (t':=s1.toks) (fun b u e=>Heap.get?_push_of_some _ e) (Nat.le_refl _) ?_,rfl,q _ hf⟩
 exact ⟨z,us,0,r,Heap.get?_push_size _ rfl⟩
end
abbrev Sp:=List V->Hp->VK->XK->Prop
abbrev CXT:=List Env->Hp->Shared->XK->Value->Shared->Prop
structure Env0 (P:Program) (w:World) (K:PySem.W.Frag) (mg:Str->Option Value) (base:Heap) (A:Around) (outer:List Env) (s:Shared) (H:Hp):Prop where
 frames:A.frames=some outer
 mod:Mod K mg base
 bs:∀ b o,base.get? b=some o->s.heap.get? b=some o∧H b=none
 bsz:base.objs.size≤s.heap.objs.size
 funs:s.heap.FunFrames base outer
 frf:∀ b∈frs outer,H b=none
 hok:HOk P w H s.heap
 bare:AllBare s.gens
def CE (outer:List Env) (P:Program) (w:World) (H:Hp) (s:Shared) (Q:VK) (u:Value) (s':Shared):Prop :=
 ∃ v H',s'.os=s.os∧AllBare s'.gens∧Un (frs outer) [] H H' s.heap s'.heap∧HOk P w H' s'.heap∧RelV v u∧Q v H'
def CR (CX:CXT) (outer:List Env) (P:Program) (w:World) (H:Hp) (s:Shared) (Q:VK) (E:XK) (r:Result) (s':Shared):Prop :=
 match r with
 | .ok (.ret u)=>CE outer P w H s Q u s'
 | .ok _=>False
 | .error e=>CX outer H s E e s'
structure FnOk (P:Program) (w:World) (K:PySem.W.Frag) (mg:Str->Option Value) (base:Heap) (CX:CXT) (k:Nat) (f:Addr) (fd:FuncData) (ps:List Str) (sp:Sp):Prop where
 len:∀ vs H Q E,sp vs H Q E->vs.length=ps.length
 run:∀ (A:Around) (outer:List Env) (s:Shared) (H:Hp) (args:Args) (us:List Value) (vs:List V) (Q:VK) (E:XK),Room k A->Env0 P w K mg base A outer s H->BindsTo s fd args (ps.zip us)->Vals vs us->sp vs H Q E →
  codeAny (model P w) A (.call (.ref f) args) (CR CX outer P w H s Q E) s
theorem FnOk.mono {P:Program} {w:World} {K:PySem.W.Frag} {mg:Str->Option Value} {base:Heap} {CX:CXT} {j k:Nat} {f:Addr} {fd:FuncData} {ps:List Str} {sp:Sp} (F:FnOk P w K mg base CX j f fd ps sp) (h:j≤k) :
  FnOk P w K mg base CX k f fd ps sp:=⟨F.len,fun A outer s H args us vs Q E hr=>F.run A outer s H args us vs Q E (hr.mono h)⟩
theorem FnOk.imp {P:Program} {w:World} {K:PySem.W.Frag} {mg:Str->Option Value} {base:Heap} {CX:CXT} {k:Nat} {f:Addr} {fd:FuncData} {ps:List Str} {sp sp':Sp} (F:FnOk P w K mg base CX k f fd ps sp)
  (h:∀ vs H Q E,sp' vs H Q E->sp vs H Q E):FnOk P w K mg base CX k f fd ps sp' :=
 ⟨fun vs H Q E q=>F.len vs H Q E (h _ _ _ _ q),fun A outer s H args us vs Q E hr he hb hv hs=>F.run A outer s H args us vs Q E hr he hb hv (h _ _ _ _ hs)⟩
theorem Env0.make {P:Program} {w:World} {K:PySem.W.Frag} {mg:Str->Option Value} {base:Heap} {A:Around} {outer:List Env} {s:Shared} {H:Hp} (e:Env0 P w K mg base A outer s H) (C:Addr) (us:List Value) (kw:List (Str×Value)) :
  Env0 P w K mg base (A.under (.builtin "type.__call__" ⟨.ref C :: us,kw⟩)) outer s H:=⟨by first | exact e.frames | (simpa [Around.under,Code.envs,Code.isFrame,pushEnvs] using e.frames),e.mod,e.bs,e.bsz,e.funs,e.frf,e.hok,e.bare⟩
theorem Env0.in1 {P:Program} {w:World} {K:PySem.W.Frag} {mg:Str->Option Value} {base:Heap} {A:Around} {outer:List Env} {s:Shared} {H:Hp} (e:Env0 P w K mg base A outer s H) :
  Env0 P w K mg base A.in1 outer s H:=⟨e.frames,e.mod,e.bs,e.bsz,e.funs,e.frf,e.hok,e.bare⟩
section
variable {X:Cx} {pins:List (Addr×Obj)} {σ:St} {H:Hp} {s s':Shared}
theorem Inv.env0 (I:Inv X pins σ H s):Env0 X.prog X.w X.K X.mg X.base X.A X.stack s H :=
 ⟨I.ok.frames,I.ok.mod,I.bs,Nat.le_trans I.ok.bsz I.sz,I.stack,I.stkFree,I.hok,I.bare⟩
theorem Inv.after {Q:VK} {u:Value} (I:Inv X pins σ H s) (h:CE X.stack X.prog X.w H s Q u s'):EP X pins σ Q u s':=by
 obtain ⟨v,H',os,bare,un,hok,r,q⟩:=h
 obtain ⟨hh,g,d,t,os'⟩:=s'
 obtain rfl:os'=s.os:=os
 exact ⟨v,H',I.call (h':=hh) (g':=g) (d':=d) (t':=t) (ch:=[]) un hok bare (fun b z=>absurd z (by simp)),r,q⟩
end
def tCall (sp:Sp) (dvs:List V) (E:XK) (t:TA):TE:=fun σ H Q=>t σ H fun vs H1=>sp (vs++dvs) H1 Q E
def Binds (K:PySem.W.Frag) (fd:FuncData) (ps:List Str) (ds:List Value):Prop :=
 ∀ (s:Shared) (us:List Value),K.In s.heap->(us++ds).length=ps.length->BindsTo s fd ⟨us,[]⟩ (ps.zip (us++ds))
theorem Binds.all {K:PySem.W.Frag} {fd:FuncData} {ps:List Str} (h:∀ us:List Value,us.length=ps.length->bindArgs fd ⟨us,[]⟩=pure (ps.zip us)):Binds K fd ps []:=fun s us _ hl=>by
 rw [List.append_nil] at hl ⊢
 exact .of_eq (h us hl)
def Passes (CX:CXT) (X:Cx) (E:XK):Prop:=∀ (pins:List (Addr×Obj)) (σ:St) (H:Hp) (s:Shared) (e:Value) (s':Shared),Inv X pins σ H s->CX X.stack H s E e s'->X.xe e s'
section
variable {X:Cx} {CX:CXT} {k:Nat} {f C:Addr} {fd:FuncData} {ps:List Str} {sp:Sp} {dvs:List V} {ds:List Value} {E:XK} {x m:Str} {p pos apos:Pos} {e o:Expr} {es:List Expr} {ta:TE} {t:TA}
theorem run_fn {pins:List (Addr×Obj)} {σ:St} {H:Hp} {s:Shared} {Q:VK} {us:List Value} {vs:List V} (F:FnOk X.prog X.w X.K X.mg X.base CX k f fd ps sp) (hr:Room k X.A) (hb:Binds X.K fd ps ds) (hd:Vals dvs ds) (hx:Passes CX X E)
  (I:Inv X pins σ H s) (r:Vals vs us) (h:sp (vs++dvs) H Q E):wpAny (model X.prog X.w) X.A (call (.ref f) us) (EP X pins σ Q) X.xe s:=by
 have r2:Vals (vs++dvs) (us++ds):=r.append hd
 have hl:(us++ds).length=ps.length:=by rw [←r2.length]; exact F.len _ _ _ _ h
 refine wpAny_call (codeAny_mono (F.run X.A X.stack s H ⟨us,[]⟩ (us++ds) (vs++dvs) Q E hr I.env0 (hb s us I.kIn hl) r2 h) fun r s' hq=>?_)
 cases r with
 | error e=>exact hx pins σ H s e s' I hq
 | ok fl =>
  cases fl with
  | ret u=>exact I.after hq
  | next=>exact False.elim hq
  | brk=>exact False.elim hq
  | cont=>exact False.elim hq
theorem pe_call (F:FnOk X.prog X.w X.K X.mg X.base CX k f fd ps sp) (hr:Room k X.A) (hg:Gl X x) (hm:X.mg x=some (.ref f)) (hk:PySem.W.keepIn X.K (.ref f)=true) (hb:Binds X.K fd ps ds) (hd:Vals dvs ds) (hx:Passes CX X E)
  (ha:PA X (e :: es) t) (hdb:(x == ("__debug__":Str))=false:=by decide) (he:starEach (e :: es) X.env=(false,eval e X.env) :: starEach es X.env:=by rfl) (hpl:(backTo pos (starEach es X.env)).any (·.1)=false:=by rfl) :
  PE X (.Call (.Name x p) (e :: es) [] pos) (tCall sp dvs E t):=by
 intro pins s σ H Q I h
 refine wpAny_Call_Name_kw (ld_glob I hg hm ?_ hdb)
 refine PySem.W.callWith_K (h₀:=X.base) I.ok.mod.kin hk (thn (ha pos pins s σ H _ I h) fun us s1 ⟨vs,H1,I1,r,q⟩=>⟨I1.kIn,?_⟩) he hpl
 exact run_fn F hr hb hd hx I1 r q
end
section
variable {X:Cx} {CX:CXT} {k:Nat} {f C:Addr} {fd:FuncData} {ps ks:List Str} {sp:Sp} {E:XK} {x m:Str} {p pos apos kpos:Pos} {e o:Expr} {es:List Expr} {kws:List Keyword} {te ta:TE} {t tk:TA} {nm:Option Str}
variable {g:List Value->List Value->List Value} {gV:List V->List V->List V}
end
structure FnScope (N P:List Str) (sc:Scope):Prop where
 kind:sc.kind=.function
 co:sc.isCoroutine=false
 gen:sc.isGenerator=false
 nd:N.Nodup
 pre:N.take P.length=P
 par:∀ x∈P,sc.names.lookup x=some .local∨sc.names.lookup x=some .cell
 nofree:∀ y∈sc.names,y.2≠.free
theorem bindL_out {kindOf:Str->Option NameKind} {x:Str}:∀ {binds:List (Str×Value)} {m:Str->Option Value},(∀ v,(x,v)∉binds)->bindL kindOf binds m x=m x
 | [],_,_=>rfl
 | (n,v) :: r,m,h=>by
  unfold bindL
  rw [bindL_out fun w hw=>h w (List.mem_cons_of_mem _ hw)]
  split
  ·have:x≠n:=by rintro rfl; exact h v List.mem_cons_self
   simp [this]
  ·rfl
theorem bindC_out {kindOf:Str->Option NameKind} {x:Str}:∀ {binds:List (Str×Value)} {m:Str->Option Value},(∀ v,(x,v)∉binds)->bindC kindOf binds m x=m x
 | [],_,_=>rfl
 | (n,v) :: r,m,h=>by
  unfold bindC
  rw [bindC_out fun w hw=>h w (List.mem_cons_of_mem _ hw)]
  split
  ·rfl
  ·have:x≠n:=by rintro rfl; exact h v List.mem_cons_self
   simp [this]
theorem bindL_get {kindOf:Str->Option NameKind} {x:Str} {v:Value}:∀ {P:List Str} {vs:List Value} {i:Nat} {m:Str->Option Value},P.Nodup->P[i]?=some x->vs[i]?=some v->kindOf x=some .local →
  bindL kindOf (P.zip vs) m x=some v
 | [],_,_,_,_,h,_,_=>by simp at h
 | _ :: _,[],_,_,_,_,h,_=>by simp at h
 | p :: P,w :: vs,0,m,nd,h1,h2,hk=>by
  simp at h1 h2; subst h1; subst h2
  show bindL kindOf ((p,w) :: P.zip vs) m p=_
  unfold bindL
  rw [bindL_out fun v hv=>(List.nodup_cons.mp nd).1 (List.of_mem_zip hv).1,if_pos hk]
  simp
 | p :: P,w :: vs,i+1,m,nd,h1,h2,hk=>by
  show bindL kindOf ((p,w) :: P.zip vs) m x=_
  unfold bindL
  exact bindL_get (i:=i) (List.nodup_cons.mp nd).2 (by simpa using h1) (by simpa using h2) hk
theorem bindC_get {kindOf:Str->Option NameKind} {x:Str} {v:Value}:∀ {P:List Str} {vs:List Value} {i:Nat} {m:Str->Option Value},P.Nodup->P[i]?=some x->vs[i]?=some v->kindOf x≠some .local →
  bindC kindOf (P.zip vs) m x=some v
 | [],_,_,_,_,h,_,_=>by simp at h
 | _ :: _,[],_,_,_,_,h,_=>by simp at h
 | p :: P,w :: vs,0,m,nd,h1,h2,hk=>by
  simp at h1 h2; subst h1; subst h2
  show bindC kindOf ((p,w) :: P.zip vs) m p=_
  unfold bindC
  rw [bindC_out fun v hv=>(List.nodup_cons.mp nd).1 (List.of_mem_zip hv).1,if_neg hk]
  simp
 | p :: P,w :: vs,i+1,m,nd,h1,h2,hk=>by
  show bindC kindOf ((p,w) :: P.zip vs) m x=_
  unfold bindC
  exact bindC_get (i:=i) (List.nodup_cons.mp nd).2 (by simpa using h1) (by simpa using h2) hk
def start (N:List Str) (vs:List V):St:=vs.map some++List.replicate (N.length-vs.length) none
def cxOf (CX:CXT) (P:Program) (w:World) (K:PySem.W.Frag) (mg:Str->Option Value) (base:Heap) (N:List Str) (qual:Str) (scope:Scope) (f:Addr) (cd:Value) (A:Around) (outer:List Env) (s:Shared) (H:Hp) (E:XK):Cx where
 prog:=P
 w:=w
 K:=K
 mg:=mg
 base:=base
 A:=A.deeper (envOfC qual scope s.heap.objs.size f cd)
 N:=N
 s₀:=s
 H₀:=H
 env:=envOfC qual scope s.heap.objs.size f cd
 outer:=outer
 stack:=envOfC qual scope s.heap.objs.size f cd :: outer
 ex:=[]
 calm:=true
 fn:=fun _=>true
 pn:=[]
 xe:=fun e s'=>wpAny (model P w) (A.deeper (envOfC qual scope s.heap.objs.size f cd)) (leaving (envOfC qual scope s.heap.objs.size f cd) e) (fun _ s''=>CX outer H s E e s'') (fun e' s''=>CX outer H s E e' s'') s'
theorem cell_has {sc:Scope} {n:Nat} {x:Str} (h:sc.names.lookup x=some .cell):∃ c,(cellsFrom n sc.names []).lookup x=some c:=by
 have q:=PySem.W.cellsFrom_some sc.names n [] (.inl h)
 exact Option.isSome_iff_exists.mp q
theorem inv_start {CX:CXT} {P:Program} {w:World} {K:PySem.W.Frag} {mg:Str->Option Value} {base:Heap} {N ps:List Str} {qual:Str} {scope:Scope} {f:Addr} {cd:Value} {A:Around} {outer:List Env} {s s1:Shared} {H:Hp} {E:XK} {us:List Value} {vs:List V}
  (S:FnScope N ps scope) (hd:A.handled=none) (e0:Env0 P w K mg base A outer s H) (hl:vs.length=ps.length) (r:Vals vs us)
  (x:InCallC s s.heap.objs.size (bindL (envOfC qual scope s.heap.objs.size f cd).kindOf (ps.zip us) fun _=>none) (cellsFrom (s.heap.objs.size+1) scope.names []) (bindC (envOfC qual scope s.heap.objs.size f cd).kindOf (ps.zip us) fun _=>none) s1) :
  Inv (cxOf CX P w K mg base N qual scope f cd A outer s H E) [] (start N vs) H s1:=by
 have hpl:ps.length≤N.length:=by have:=congrArg List.length S.pre; rw [List.length_take] at this; omega
 obtain ⟨h1,tk,rfl,hk⟩:=x.done
 have noA:∀ b:Addr,b∉(cxOf CX P w K mg base N qual scope f cd A outer s H E).ex:=fun b z=>absurd (show b∈([]:List Addr) from z) (by simp)
 refine ⟨⟨e0.mod,S.kind,rfl,rfl,Nat.le_refl _,fun y z c h1 h2=>?_,fun y hy=>?_,fun y c _ h=>?_,fun _=>hd,Around.frames_deeper e0.frames,.inr ⟨rfl,rfl⟩,fun b z=>absurd z (noA b),e0.bs,e0.bsz,fun b _ _=>noA b,fun b z=>absurd z (noA b),e0.funs,e0.frf⟩,
  rfl,e0.bare,Un.kept hk,⟨_,x.toInCall.ns,fun i y v h1 h2 h3=>?_⟩,fun y c h=>⟨_,x.cell y c h⟩,e0.hok.fresh (Nat.le_refl _),fun y c h=>?_,fun p hp=>absurd (show p∈([]:List (Addr×Obj)) from hp) (by simp),e0.hok.kept hk,?_⟩
 ·exact name_of_addr x.apart (PySem.mem_of_lookup h1) (PySem.mem_of_lookup h2)
 ·have hy:scope.names.lookup y=some .cell∨scope.names.lookup y=some .free:=hy
  rcases hy with hy | hy
  ·exact cell_has hy
  ·exact absurd rfl (S.nofree _ (PySem.mem_of_lookup hy))
 ·exact Nat.le_of_lt (x.above y c (PySem.mem_of_lookup h))
 ·have hi:i<vs.length:=by
   unfold start at h2
   by_cases hi:i<vs.length
   ·exact hi
   ·rw [List.getElem?_append_right (by simpa using hi)] at h2
    rw [List.getElem?_replicate] at h2
    split at h2 <;> cases h2
  have ha:vs[i]?=some v:=by
   unfold start at h2
   rw [List.getElem?_append_left (by simpa using hi),List.getElem?_map] at h2
   cases e:vs[i]? with
   | none=>rw [e] at h2; cases h2
   | some a=>rw [e] at h2; cases h2; rfl
  obtain ⟨u,hu,rv⟩:=r.get ha
  have hp:ps[i]?=some y:=by
   rw [←S.pre,List.getElem?_take_of_lt (by omega)]; exact h1
  have ndP:ps.Nodup:=by rw [←S.pre]; exact S.nd.sublist (List.take_sublist _ _)
  refine ⟨u,rv,?_⟩
  rcases S.par y (List.mem_of_getElem? hp) with k | k
  ·exact .inl ⟨k,bindL_get ndP hp hu k⟩
  ·obtain ⟨c,e⟩:=cell_has (n:=s.heap.objs.size+1) k
   refine .inr ⟨.inl k,c,e,?_⟩
   have q:=x.cell y c e
   rw [bindC_get ndP hp hu (by show scope.names.lookup y≠_; rw [k]; decide)] at q
   exact q
 ·exact e0.hok.fresh (Nat.le_of_lt (x.above y c (PySem.mem_of_lookup h)))
 ·unfold start
  show _=N.length
  rw [List.length_append,List.length_map,List.length_replicate]
  omega
theorem fn_of {CX:CXT} {P:Program} {w:World} {K:PySem.W.Frag} {mg:Str->Option Value} {base:Heap} {k:Nat} {f:Addr} {name qual:Str} {params:Arguments} {body:List Stmt} {scope:Scope} {dV kV doc pm cdv ct oc:Value} {an od:Option Addr}
  {osl:Array (Option Value)} {N ps:List Str} {sp:Sp} (lk:K.lookup f=some ⟨oc,od,.func (PySem.W.fnOf name qual params body scope dV kV doc pm an cdv ct),osl⟩) (hcd:PySem.W.codeIn K cdv qual=true) (S:FnScope N ps scope)
  (len:∀ vs H Q E,sp vs H Q E->vs.length=ps.length)
  (hbody:∀ (A:Around) (outer:List Env) (s:Shared) (H:Hp) (vs:List V) (Q:VK) (E:XK),Room k (A.deeper (envOfC qual scope s.heap.objs.size f cdv))->sp vs H Q E →
   ∃ t,PSs (cxOf CX P w K mg base N qual scope f cdv A outer s H E) body t∧t { nx:=fun _ H'=>Q .non H',rt:=Q } (start N vs) H) :
  FnOk P w K mg base CX (k+1) f (PySem.W.fnOf name qual params body scope dV kV doc pm an cdv ct) ps sp:=by
 refine ⟨len,fun A outer s H args us vs Q E hr e0 hb r hsp=>?_⟩
 have hl:=len _ _ _ _ hsp
 have KX:K.In s.heap:=e0.mod.kin.keeps fun b o e=>(e0.bs b o e).1
 have lim:s.heap.NoLimit:=e0.mod.nolimit.keeps fun b o e=>(e0.bs b o e).1
 have hkind:∀ y∈ps.zip us,scope.names.lookup y.1=some .local∨(scope.names.lookup y.1=some .cell∧((cellsFrom (s.heap.objs.size+1) scope.names []).lookup y.1).isSome=true):=fun ⟨n,v⟩ hy=>by
  rcases S.par n (List.of_mem_zip hy).1 with q | q
  ·exact .inl q
  ·exact .inr ⟨q,PySem.W.cellsFrom_some _ _ _ (.inl q)⟩
 refine codeAny_call_function hr.depth (KX _ _ lk) rfl S.co S.gen rfl (PySem.W.codeRec_of KX hcd) (hb _ _ _ _ ?_)
 refine wpAny_newFunctionEnv_cells S.kind hkind fun env he s1 x=>?_
 subst he
 refine ⟨lim.keeps x.toInCall.keep,codeAny_func ?_⟩
 obtain ⟨t,ht,hq⟩:=hbody A outer s H vs Q E (hr.deeper _) hsp
 have I:Inv (cxOf CX P w K mg base N qual scope f cdv A outer s H E) [] (start N vs) H s1:=inv_start S hr.hd e0 hl r x
 refine wpAny_mono (ht [] s1 (start N vs) H _ I hq) (fun fl s' hs=>?_) fun e s' hs=>hs
 have fin:∀ {σ':St} {H':Hp} {v:V} {u:Value},Inv (cxOf CX P w K mg base N qual scope f cdv A outer s H E) [] σ' H' s'->RelV v u->Q v H'->CE outer P w H s Q u s' :=
  fun {σ' H' v u} J rv q=>⟨v,H',J.os,J.bare,J.base,J.hok,rv,q⟩
 cases fl with
 | ret u =>
  obtain ⟨v,σ',H',J,rv,q⟩:=hs
  exact fin J rv q
 | next =>
  obtain ⟨σ',H',J,q⟩:=hs
  exact fin (v:=V.non) (u:=Value.none) J rfl q
 | brk =>
  obtain ⟨_,_,_,q⟩:=hs
  exact False.elim q
 | cont =>
  obtain ⟨_,_,_,q⟩:=hs
  exact False.elim q
end L2
namespace L2
open PySem PySem.Spec PyProof.Rows
section
variable {X:Cx} {x:Str} {p pos:Pos} {e:Expr} {es:List Expr} {t:TA} {id T:String} {r:List V->Hp->VK->Prop}
def tCB (r:List V->Hp->VK->Prop) (t:TA):TE:=fun σ H Q=>t σ H fun vs H1=>r vs H1 Q
theorem pe_callB (hc:CallR X (.builtin id) r) (hg:Gl X x) (hm:X.mg x=none) (hv:bootBuiltins x=some (.builtin id)) (ha:PA X (e :: es) t) (hn:x≠"__name__":=by decide) (hdb:(x == ("__debug__":Str))=false:=by decide)
  (he:starEach (e :: es) X.env=(false,eval e X.env) :: starEach es X.env:=by rfl) (hpl:(backTo pos (starEach es X.env)).any (·.1)=false:=by rfl):PE X (.Call (.Name x p) (e :: es) [] pos) (tCB r t):=by
 intro pins s σ H Q I h
 refine wpAny_Call_Name_kw (ld_blt I hg hm hv ?_ hn hdb)
 exact PyProof.Rows.callWith_builtin1 (thn (ha pos pins s σ H _ I h) fun us s1 ⟨vs,H1,I1,r1,q1⟩=>hc pins s1 σ H1 vs us Q I1 r1 q1) he hpl
theorem pe_callTy (hc:CallR X (.type T) r) (hg:Gl X x) (hm:X.mg x=none) (hv:bootBuiltins x=some (.type T)) (ha:PA X (e :: es) t) (hn:x≠"__name__":=by decide) (hdb:(x == ("__debug__":Str))=false:=by decide)
  (he:starEach (e :: es) X.env=(false,eval e X.env) :: starEach es X.env:=by rfl) (hpl:(backTo pos (starEach es X.env)).any (·.1)=false:=by rfl):PE X (.Call (.Name x p) (e :: es) [] pos) (tCB r t):=by
 intro pins s σ H Q I h
 refine wpAny_Call_Name_kw (ld_blt I hg hm hv ?_ hn hdb)
 exact PyProof.Rows.callWith_type1 (thn (ha pos pins s σ H _ I h) fun us s1 ⟨vs,H1,I1,r1,q1⟩=>hc pins s1 σ H1 vs us Q I1 r1 q1) he hpl
end
end L2
namespace HT
open PySem PyProof.Rows
section
open PySem.SeqAt
open PySem.AutoSeq1 (wpAny_loadPart')
open PySem.MeetsSeq PySem.MeetsSeq2 PySem.MeetsSeq3
end
section
variable {prog:Program} {w:World} {A:Around} {E:Value->Shared->Prop} {s:Shared}
theorem cat_tup {t b:Addr} {vs ws:List Value} {Q:Value->Shared->Prop} (ht:IsTup s.heap t vs.toArray) (hb:IsTup s.heap b ws.toArray) (hv:vs≠[])
  (h1:ws=[]->Q (.ref t) s) (h2:ws≠[]->Q (.ref s.heap.objs.size) { s with heap:=s.heap.push { cls:=.type "tuple",data:=.seq (vs++ws).toArray } })
  (hsz:vs.length+ws.length≤sizeLine):wpAny (model prog w) A (binaryOp .Add (.ref t) (.ref b)) Q E s:=by
 obtain ⟨⟨cls,dd,data,sl⟩,ho,hc,n,hd⟩:=id ht
 obtain ⟨⟨cls2,dd2,data2,sl2⟩,ho2,hc2,n2,hd2⟩:=id hb
 simp only at hc hd hc2 hd2
 subst hc hd hc2 hd2
 have e:vs.toArray++ws.toArray=(vs++ws).toArray:=by simp
 by_cases hw:ws=[]
 ·exact concat_meets ⟨_,ho,rfl⟩ ⟨_,ho2,rfl⟩ noFill_tuple_add seq_tuple_add PySem.F.slot_tuple_add PySem.F.entry_tuple_add (PySem.F.args_tuple_add_2 _ _)
   (tuple_addW1 t b vs.toArray ws.toArray n n2 dd dd2 sl sl2 (by simpa using hv) (by simp [hw])) ⟨ho,ho2,h1 hw⟩
 ·refine concat_meets ⟨_,ho,rfl⟩ ⟨_,ho2,rfl⟩ noFill_tuple_add seq_tuple_add PySem.F.slot_tuple_add PySem.F.entry_tuple_add (PySem.F.args_tuple_add_2 _ _)
   (tuple_addW2 t b vs.toArray ws.toArray n n2 dd dd2 sl sl2 (by simpa using hv) (by simpa using hw) (by rw [List.size_toArray,List.size_toArray]; exact hsz)) ⟨ho,ho2,?_⟩
  rw [e]
  exact h2 hw
def sIx (n d:Nat):Option Int->Nat
 | none=>d
 | some v=>if v<0 then (v+(n:Int)).toNat else min v.toNat n
theorem sIx_nat (n d k:Nat):sIx n d (some (k:Int))=min k n:=by
 show (if (k:Int)<0 then ((k:Int)+(n:Int)).toNat else min (k:Int).toNat n)=min k n
 rw [if_neg (by omega),Int.toNat_natCast]
theorem sIx_le (n d:Nat) (hd:d≤n) (o:Option Int):sIx n d o≤n:=by
 cases o with
 | none=>exact hd
 | some v =>
  show (if v<0 then (v+(n:Int)).toNat else min v.toNat n)≤n
  by_cases hv:v<0
  ·rw [if_pos hv]; omega
  ·rw [if_neg hv]; exact Nat.min_le_right _ _
theorem clip_eq (v:Int) (n d:Nat):(if v<0 then max (v+(n:Int)) 0 else min v (n:Int))=((sIx n d (some v):Nat):Int):=by
 show (if v<0 then max (v+(n:Int)) 0 else min v (n:Int))=(((if v<0 then (v+(n:Int)).toNat else min v.toNat n):Nat):Int)
 by_cases hv:v<0
 ·simp only [if_pos hv]; omega
 ·simp only [if_neg hv]; omega
theorem adjust_gen (lo hi:Option Int) (n:Nat):Builtin.Slice.sliceAdjust lo hi 1 (n:Int)=(((sIx n 0 lo:Nat):Int),((sIx n n hi:Nat):Int)):=by
 have h1:¬ ((1:Int)<0):=by omega
 unfold Builtin.Slice.sliceAdjust
 simp only [h1,if_false]
 refine Prod.ext ?_ ?_
 ·cases lo with
  | none=>rfl
  | some v=>exact clip_eq v n 0
 ·cases hi with
  | none=>rfl
  | some v=>exact clip_eq v n n
theorem places_gen (i j:Nat):Builtin.Slice.slicePlaces (i:Int) (j:Int) 1=j-i:=by
 unfold Builtin.Slice.slicePlaces
 have h1:(1:Int) > 0:=by omega
 simp only [h1,if_true,Int.ediv_one]
 split <;> omega
theorem slicePart_ {v:Value} {o:Option Int} {Q:Option Int->Shared->Prop} (p:IsPart v o) (h:Q o s):wpAny (model prog w) A (Builtin.Slice.slicePartIndex v) Q E s:=by
 cases p with
 | none=>exact slicePart_none h
 | int i t=>exact slicePart_int h
theorem sliceApplied_gen {sl:Addr} {vl vu:Value} {lo hi:Option Int} {n:Nat} {Q:Int×Int×Nat->Shared->Prop} (hs:s.heap.IsSliceOf sl vl vu .none) (pl:IsPart vl lo) (pu:IsPart vu hi)
  (h:Q (((sIx n 0 lo:Nat):Int),1,sIx n n hi-sIx n 0 lo) s):wpAny (model prog w) A (Builtin.Slice.sliceApplied (.ref sl) (pure (n:Int))) Q E s:=by
 obtain ⟨os,hos,hcs,hds⟩:=id hs
 unfold Builtin.Slice.sliceApplied Builtin.Slice.sliceFields
 refine wpAny_bind (wpAny_bind (wpAny_field hos hds (x:=vl) rfl (wpAny_bind (wpAny_field hos hds (x:=vu) rfl (wpAny_bind (wpAny_field hos hds (x:=.none) rfl (wpAny_pure ?_)))))))
 refine wpAny_bind (slicePart_none ?_)
 show wpAny _ _ (if ((1:Int) == 0)=true then _ else _) _ _ s
 rw [if_neg (by decide)]
 refine wpAny_bind (slicePart_ pl (wpAny_bind (slicePart_ pu (wpAny_bind (wpAny_pure ?_)))))
 show wpAny _ _ (match Builtin.Slice.sliceAdjust lo hi 1 (n:Int) with | (lo,hi)=>pure (lo,(1:Int),Builtin.Slice.slicePlaces lo hi 1)) _ _ s
 rw [adjust_gen lo hi n]
 show wpAny _ _ (pure (((sIx n 0 lo:Nat):Int),(1:Int),Builtin.Slice.slicePlaces ((sIx n 0 lo:Nat):Int) ((sIx n n hi:Nat):Int) 1)) _ _ s
 rw [places_gen]
 exact wpAny_pure h
theorem pick_gen (xs:Array Value) (i k:Nat):((List.range k).filterMap fun (m:Nat)=>xs[((i:Int)+(m:Int)*1).toNat]?).toArray=((xs.toList.drop i).take k).toArray:=by
 have e:(fun (m:Nat)=>xs[((i:Int)+(m:Int)*1).toNat]?)=fun m=>xs[i+m]?:=by
  funext m
  have:((i:Int)+(m:Int)*1).toNat=i+m:=by omega
  rw [this]
 rw [e]
 have:=pick_run xs i k
 rw [List.filterMap_map] at this
 have e2:((fun x=>xs[x]?) ∘ fun x=>i+x)=fun m=>xs[i+m]?:=rfl
 rw [e2] at this
 rw [this]
theorem getItem_tuple_cut {t sl:Addr} {items:Array Value} {vl vu:Value} {lo hi:Option Int} {Q:Value->Shared->Prop} (ht:IsTup s.heap t items) (hs:s.heap.IsSliceOf sl vl vu .none) (pl:IsPart vl lo) (pu:IsPart vu hi)
  (hw:¬ (sIx items.size 0 lo=0∧sIx items.size items.size hi=items.size))
  (h:Q (.ref s.heap.objs.size) { s with heap:=s.heap.push { cls:=.type "tuple",data:=.seq ((items.toList.drop (sIx items.size 0 lo)).take (sIx items.size items.size hi-sIx items.size 0 lo)).toArray } })
  (hsz:items.size≤sizeLine):wpAny (model prog w) A (getItem (.ref t) (.ref sl)) Q E s:=by
 have htake:sizeOk (.seq ((items.toList.drop (sIx items.size 0 lo)).take (sIx items.size items.size hi-sIx items.size 0 lo)).toArray):=by
  show ((items.toList.drop (sIx items.size 0 lo)).take (sIx items.size items.size hi-sIx items.size 0 lo)).toArray.size≤sizeLine
  rw [List.size_toArray,List.length_take,List.length_drop,Array.length_toList]
  omega
 have hj:sIx items.size items.size hi≤items.size:=sIx_le _ _ (Nat.le_refl _) hi
 obtain ⟨os,hos,hcs,hds⟩:=id hs
 have hTs:s.TypeIs (.ref sl) "slice":=⟨os,hos,hcs⟩
 unfold getItem
 try with_reducible refine wpAny_holding ?_
 first | refine wpAny_bind (wpAny_pure ?_) | skip
 refine wpAny_bind (wpAny_sequenceKey ht.typeIs (by decide) ?_)
 refine wpAny_bind (wpAny_callSpecial?_slot (name:=Str.ofString "__getitem__") ht.typeIs PyProof.Rows.slot_tuple_getitem
  (wpAny_call_entry PyProof.Rows.slot_tuple_getitem ht.typeIs entry_tuple_getitem ?_ (args_tuple_getitem _ _)))
 show wpAny _ _ (Builtin.Tuple.tupleItemsOf (.ref t) >>= _) _ _ s
 refine wpAny_bind (tupleItemsOf_ ht ?_)
 refine wpAny_bind (wpAny_typeOf hTs ?_)
 rw [if_pos (by decide)]
 refine wpAny_bind (sliceApplied_gen hs pl pu ?_)
 have hno:¬ ((((sIx items.size 0 lo:Nat):Int) == 0 && (1:Int) == 1 && (sIx items.size items.size hi-sIx items.size 0 lo) == items.size)=true):=by
  intro q
  rw [Bool.and_eq_true,Bool.and_eq_true] at q
  have q1:((sIx items.size 0 lo:Nat):Int)=0:=eq_of_beq q.1.1
  have q2:sIx items.size items.size hi-sIx items.size 0 lo=items.size:=eq_of_beq q.2
  exact hw ⟨by omega,by omega⟩
 show wpAny _ _ (if (((sIx items.size 0 lo:Nat):Int) == 0 && (1:Int) == 1 && (sIx items.size items.size hi-sIx items.size 0 lo) == items.size)=true then _ else _) _ _ s
 rw [if_neg hno,pick_gen]
 first
  | exact wpAny_bind (m:=Builtin.Tuple.tupleExact _) (wpAny_newObj_type (wpAny_pure ⟨_,rfl,wpAny_pure h⟩) htake)
  | exact wpAny_bind (m:=Builtin.Tuple.tupleExact _) (wpAny_newObj_type (wpAny_bind (wpAny_pure (wpAny_pure ⟨_,rfl,wpAny_pure h⟩))) htake)
  | exact wpAny_bind (wpAny_bind (m:=Builtin.Tuple.tupleExact _) (wpAny_newObj_type (wpAny_pure (wpAny_pure ⟨_,rfl,wpAny_pure h⟩)) htake))
  | exact wpAny_bind (wpAny_bind (m:=Builtin.Tuple.tupleExact _) (wpAny_newObj_type (wpAny_pure ⟨_,rfl,wpAny_pure h⟩) htake))
end
end HT
namespace L2
open PySem PySem.Spec PyProof.Rows
abbrev TO:=St->Hp->(Option Int->Hp->Prop)->Prop
def PO (X:Cx) (e:Option Expr) (t:TO):Prop :=
 ∀ (pins:List (Addr×Obj)) (s:Shared) (σ:St) (H:Hp) (Q:Option Int->Hp->Prop),Inv X pins σ H s->t σ H Q →
  wpAny (model X.prog X.w) X.A (evalPart e X.env) (fun u s'=>∃ o H',Inv X pins σ H' s'∧IsPart u o∧Q o H') X.xe s
def tNoPart:TO:=fun _ H Q=>Q none H
def tPart (t:TE):TO:=fun σ H Q=>t σ H fun x H1=>∃ i,x=.int i∧Q (some i) H1
theorem intsAre_of {ns:List Int}:∀ {us:List Value},Vals (ns.map V.int) us->IntsAre us ns:=by
 induction ns with
 | nil=>intro us r; rw [List.map_nil] at r; cases r; exact .nil
 | cons n ns ih =>
  intro us r
  rw [List.map_cons] at r
  cases r with
  | cons r1 r2 =>
   obtain ⟨t,e⟩:=r1
   subst e
   exact .cons n t (ih r2)
section
variable {X:Cx} {e:Expr} {te:TE} {lo hi:Option Expr} {tl th:TO} {pos p2:Pos}
theorem po_none:PO X none tNoPart:=by
 intro pins s σ H Q I h
 rw [evalPart_none]
 exact wpAny_pure ⟨none,H,I,.none,h⟩
theorem po_some (h:PE X e te):PO X (some e) (tPart te):=by
 intro pins s σ H Q I hw
 rw [evalPart_some]
 refine thn (h pins s σ H _ I hw) fun u s1 ⟨x,H1,I1,r1,q1⟩=>?_
 obtain ⟨i,rfl,q⟩:=q1
 obtain ⟨t,rfl⟩:=r1
 exact ⟨some i,H1,I1,.int i t,q⟩
def SlR (X:Cx) (r:V->Option Int->Option Int->Hp->VK->Prop):Prop :=
 ∀ (pins:List (Addr×Obj)) (s:Shared) (σ:St) (H:Hp) (x:V) (v vl vu:Value) (lo hi:Option Int) (sl:Addr) (Q:VK),Inv X pins σ H s->RelV x v->s.heap.IsSliceOf sl vl vu .none->IsPart vl lo->IsPart vu hi->r x lo hi H Q →
  ∃ T id,typeLookup (.type T) "__getitem__" = pure (some (.builtin id))∧s.TypeIs v T∧wpAny (model X.prog X.w) X.A (getItem v (.ref sl)) (EP X pins σ Q) X.xe s
def tSl (r:V->Option Int->Option Int->Hp->VK->Prop) (te:TE) (tl th:TO):TE:=fun σ H Q=>te σ H fun x H1=>tl σ H1 fun l H2=>th σ H2 fun u H3=>r x l u H3 Q
theorem pe_slice {r:V->Option Int->Option Int->Hp->VK->Prop} (hr:SlR X r) (he:PE X e te) (hl:PO X lo tl) (hu:PO X hi th):PE X (.Subscript e (.Slice lo hi none p2) pos) (tSl r te tl th):=by
 intro pins s σ H Q I h
 refine Subscript_ (thn (he pins s σ H _ I h) fun v s1 ⟨x,H1,I1,r1,q1⟩=>?_)
 refine wpAny_Slice (thn (hl pins s1 σ H1 _ I1 q1) fun vl s2 ⟨l,H2,I2,pl,q2⟩=>thn (hu pins s2 σ H2 _ I2 q2) fun vu s3 ⟨u,H3,I3,pu,q3⟩=>?_)
 rw [evalPart_none]
 refine wpAny_pure ?_
 have I4:Inv X pins σ H3 { s3 with heap:=s3.heap.push { cls:=.type "slice",data:=.fields #[vl,vu,.none] } }:=I3.kept (t':=s3.toks) fun b ob q=>Heap.get?_push_of_some _ q
 obtain ⟨T,id,hT,ht,hg⟩:=hr pins { s3 with heap:=s3.heap.push { cls:=.type "slice",data:=.fields #[vl,vu,.none] } } σ H3 x v vl vu l u s3.heap.objs.size Q I4 r1 (Heap.IsSliceOf.new ..) pl pu q3
 show wpAny (model X.prog X.w) X.A (subscriptTail e (.Slice lo hi none p2) v (.ref s3.heap.objs.size)) (EP X pins σ Q) X.xe { s3 with heap:=s3.heap.push { cls:=.type "slice",data:=.fields #[vl,vu,.none] } }
 exact tail_any (ops:=[.ref s3.heap.objs.size,v]) ht hT hg (by with_unfolding_all rfl)
def cutV (xs:List V) (lo hi:Option Int):List V:=(xs.drop (HT.sIx xs.length 0 lo)).take (HT.sIx xs.length xs.length hi-HT.sIx xs.length 0 lo)
theorem cutV_length (xs:List V) (lo hi:Option Int):(cutV xs lo hi).length≤xs.length:=by
 unfold cutV
 rw [List.length_take,List.length_drop]
 omega
def rSlT (K:PySem.W.Frag):V->Option Int->Option Int->Hp->VK->Prop:=fun x lo hi H Q=>∃ a xs,x=.ref a∧SqT K H a xs ∧
 ¬ (HT.sIx xs.length 0 lo=0∧HT.sIx xs.length xs.length hi=xs.length)∧∀ p,H p=none->Q (.ref p) (upd H p (.tup (cutV xs lo hi)))
theorem sl_tup:SlR X (rSlT X.K):=by
 intro pins s σ H x v vl vu lo hi sl Q I rx hs pl pu h
 obtain ⟨a,xs,rfl,hx,hw,q⟩:=h
 cases rx
 obtain ⟨its,r,ht,hz⟩:=I.tuple hx
 have hlen:its.toArray.size=xs.length:=by rw [List.size_toArray]; exact r.length.symm
 refine ⟨"tuple",_,PyProof.Rows.slot_tuple_getitem.lookup,ht.typeIs,?_⟩
 refine HT.getItem_tuple_cut ht hs pl pu (by rw [hlen]; exact hw) ?_ (by rw [hlen]; exact hz)
 rw [hlen]
 refine ⟨.ref s.heap.objs.size,_,I.laid (t':=s.toks) (o:=.tup (cutV xs lo hi)) (fun b ob q=>Heap.get?_push_of_some _ q) (Nat.le_refl _) ?_,rfl,q _ (I.hok.fresh (Nat.le_refl _))⟩
 exact ⟨Nat.le_trans (cutV_length xs lo hi) hz,_,(r.drop (HT.sIx xs.length 0 lo)).take (HT.sIx xs.length xs.length hi-HT.sIx xs.length 0 lo),IsTup.new _ _,_,Heap.get?_push_size _ rfl,rfl⟩
def rCatT (K:PySem.W.Frag):R2:=fun x y H Q=>∃ a b xs ys,x=.ref a∧y=.ref b∧SqT K H a xs∧SqT K H b ys∧xs≠[]∧xs.length+ys.length≤sizeLine ∧
 (ys=[]->Q (.ref a) H)∧(ys≠[]->∀ p,H p=none->Q (.ref p) (upd H p (.tup (xs++ys))))
theorem Vals.nil_iff {xs:List V} {us:List Value} (r:Vals xs us):us=[]↔xs=[]:=by
 cases r with
 | nil=>simp
 | cons _ _=>simp
theorem op_catT:OpR X (binaryOp .Add) (rCatT X.K):=by
 intro pins s σ H x y v u Q I rx ry h
 obtain ⟨a,b,xs,ys,rfl,rfl,ha,hb,hx,hz,q1,q2⟩:=h
 cases rx
 cases ry
 obtain ⟨its,r1,p1,_⟩:=I.tuple ha
 obtain ⟨its2,r2,p2,_⟩:=I.tuple hb
 refine HT.cat_tup p1 p2 (fun z=>hx (r1.nil_iff.mp z)) (fun z=>⟨.ref a,H,I,rfl,q1 (r2.nil_iff.mp z)⟩) (fun z=>?_) (by rw [←r1.length,←r2.length]; exact hz)
 refine ⟨.ref s.heap.objs.size,_,I.laid (t':=s.toks) (o:=.tup (xs++ys)) (fun b ob q=>Heap.get?_push_of_some _ q) (Nat.le_refl _) ?_,rfl,q2 (fun w=>z (r2.nil_iff.mpr w)) _ (I.hok.fresh (Nat.le_refl _))⟩
 exact ⟨by rw [List.length_append]; exact hz,_,r1.append r2,IsTup.new _ _,_,Heap.get?_push_size _ rfl,rfl⟩
end
end L2
namespace L2
open PySem PySem.Spec PyProof.Rows
def ixN (n:Nat) (i:Int):Option Nat:=if 0≤i then (if i<n then some i.toNat else none) else if -(n:Int)≤i then some (i+n).toNat else none
def atI {α:Type} (xs:List α) (i:Int):Option α:=(ixN xs.length i).bind fun j=>xs[j]?
theorem ixN_seq {n:Nat} {i:Int} {j:Nat} (h:ixN n i=some j):seqIndex? i n=some j∧j<n∧-(n:Int)≤i∧i<n:=by
 unfold ixN at h
 by_cases h0:0≤i
 ·rw [if_pos h0] at h
  by_cases h1:i<n
  ·rw [if_pos h1] at h
   have e:i.toNat=j:=Option.some.inj h
   exact ⟨by rw [seqIndex_of h0 h1,e],by omega,by omega,h1⟩
  ·rw [if_neg h1] at h; cases h
 ·rw [if_neg h0] at h
  by_cases h1:-(n:Int)≤i
  ·rw [if_pos h1] at h
   have e:(i+n).toNat=j:=Option.some.inj h
   exact ⟨by rw [seqIndex_neg (by omega) h1,e],by omega,h1,by omega⟩
  ·rw [if_neg h1] at h; cases h
theorem atI_get {α:Type} {xs:List α} {i:Int} {v:α} (h:atI xs i=some v):∃ j,seqIndex? i xs.length=some j∧xs[j]?=some v∧j<xs.length∧-(xs.length:Int)≤i∧i<xs.length:=by
 unfold atI at h
 cases e:ixN xs.length i with
 | none=>rw [e] at h; cases h
 | some j =>
  rw [e] at h
  obtain ⟨h1,h2,h3,h4⟩:=ixN_seq e
  exact ⟨j,h1,h,h2,h3,h4⟩
theorem atI_nat {α:Type} {xs:List α} {j:Nat} {v:α} (h:xs[j]?=some v):atI xs (j:Int)=some v:=by
 have hj:j<xs.length:=(List.getElem?_eq_some_iff.mp h).1
 have e:ixN xs.length (j:Int)=some j:=by
  unfold ixN
  rw [if_pos (by omega),if_pos (by omega)]; simp
 unfold atI; rw [e]; exact h
def PlainIx (b:Expr):Prop:=∀ o i,subscripted b false o i=operate [o,i] (getItem o i)
def IxR (X:Cx) (r:R2):Prop :=
 ∀ (value slice:Expr) (pins:List (Addr×Obj)) (s:Shared) (σ:St) (H:Hp) (x y:V) (v u:Value) (Q:VK),Inv X pins σ H s->RelV x v->RelV y u->r x y H Q →
  subscripted slice false v u=operate [v,u] (getItem v u)->wpAny (model X.prog X.w) X.A (subscriptTail value slice v u) (EP X pins σ Q) X.xe s
def MtR (X:Cx) (id:String) (r:V->List V->Hp->VK->Prop):Prop :=
 ∀ (pins:List (Addr×Obj)) (s:Shared) (σ:St) (H:Hp) (x:V) (xs:List V) (v:Value) (us:List Value) (Q:VK),Inv X pins σ H s->RelV x v->Vals xs us->r x xs H Q →
  wpAny (model X.prog X.w) X.A (call (.builtin id) (v :: us)) (EP X pins σ Q) X.xe s
section
variable {X:Cx} {a b:Expr} {ta tb:TE} {pos:Pos}
theorem pe_ix {r:R2} (hr:IxR X r) (ha:PE X a ta) (hb:PE X b tb) (hs:PlainIx b):PE X (.Subscript a b pos) (tOp r ta tb):=by
 intro pins s σ H Q I h
 exact Subscript_ (binT ha hb I h fun v u s2 x y H2 I2 rx ry q=>hr a b pins s2 σ H2 x y v u Q I2 rx ry q (hs _ _))
inductive IxLR (K:PySem.W.Frag) (x y:V) (H:Hp) (Q:VK):Prop
 | mk (p:Addr) (xs:List V) (i:Int) (v:V) (a:x=.ref p) (b:y=.int i) (c:SqL K H p xs) (d:atI xs i=some v) (q:Q v H):IxLR K x y H Q
inductive IxTR (K:PySem.W.Frag) (x y:V) (H:Hp) (Q:VK):Prop
 | mk (p:Addr) (xs:List V) (i:Int) (v:V) (a:x=.ref p) (b:y=.int i) (c:SqT K H p xs) (d:atI xs i=some v) (q:Q v H):IxTR K x y H Q
def rIxL (K:PySem.W.Frag):R2:=fun x y H Q=>IxLR K x y H Q
def rIxT (K:PySem.W.Frag):R2:=fun x y H Q=>IxTR K x y H Q
theorem ix_list:IxR X (rIxL X.K):=by
 intro value slice pins s σ H x y v u Q I rx ry h hs
 obtain ⟨p,xs,i,z,rfl,rfl,hq,he,q⟩:=h
 cases rx
 obtain ⟨t,rfl⟩:=ry
 obtain ⟨its,r,pl,hz⟩:=I.list hq
 obtain ⟨j,h1,h2,h3,h4,h5⟩:=atI_get he
 obtain ⟨w,ew,rw'⟩:=r.get h2
 have hl:=r.length
 have hn:=line63
 have fin:EP X pins σ Q w s:=⟨z,H,I,rw',q⟩
 by_cases h0:0≤i
 ·have hj:i.toNat=j:=by
   rw [seqIndex_of h0 h5] at h1
   exact Option.some.inj h1
  exact item_listR pl.isList h0 (by omega) (by rw [hj]; simpa using ew) fin hs
 ·have hj:(i+(its.toArray.size:Int)).toNat=j:=by
   rw [seqIndex_neg (by omega) h4] at h1
   rw [List.size_toArray,←hl]
   exact Option.some.inj h1
  exact subscriptTail_builtinR (x:=w) pl.isList.typeIs slot_list_getitem.lookup
   (wpAny_getItem_list_neg (Q:=fun r s'=>r=w∧EP X pins σ Q r s') pl.isList (by omega) (by rw [List.size_toArray] <;> omega) (by omega) (by rw [hj]; simpa using ew) ⟨rfl,fin⟩) hs
theorem ix_tup:IxR X (rIxT X.K):=by
 intro value slice pins s σ H x y v u Q I rx ry h hs
 obtain ⟨p,xs,i,z,rfl,rfl,hq,he,q⟩:=h
 cases rx
 obtain ⟨t,rfl⟩:=ry
 obtain ⟨its,r,pl,hz⟩:=I.tuple hq
 obtain ⟨j,h1,h2,h3,h4,h5⟩:=atI_get he
 obtain ⟨w,ew,rw'⟩:=r.get h2
 have hl:=r.length
 have hn:=line63
 have fin:EP X pins σ Q w s:=⟨z,H,I,rw',q⟩
 exact subscriptTail_builtinR (x:=w) pl.typeIs slot_tuple_getitem.lookup
  (getItem_tuple (j:=j) (Q:=fun r s'=>r=w∧EP X pins σ Q r s') pl (by omega) (by omega) (by rw [List.size_toArray,←hl]; exact h1) (by simpa using ew) ⟨rfl,fin⟩) hs
theorem mapSeq_set (its:List Value) (n j:Nat) (u:Value):Obj.mapSeq (·.setIfInBounds j u) { cls:=.type "list",data:=.seq its.toArray n }={ cls:=.type "list",data:=.seq (its.set j u).toArray n }:=by
 simp [Obj.mapSeq]
theorem Inv.lst {pins:List (Addr×Obj)} {σ:St} {H:Hp} {s:Shared} {p:Addr} {xs:List V} (I:Inv X pins σ H s) (h:H p=some (.lst xs)) :
  ∃ (its:List Value) (n:Nat),Vals xs its∧s.heap.get? p=some { cls:=.type "list",data:=.seq its.toArray n }∧xs.length≤sizeLine:=by
 obtain ⟨z,its,n,r,e⟩:=I.hok p _ h
 exact ⟨its,n,r,e,z⟩
theorem Inv.lstUpd {pins:List (Addr×Obj)} {σ:St} {H:Hp} {s:Shared} {p:Addr} {xs ys:List V} {its its':List Value} {n n':Nat} {f:Obj->Obj} (I:Inv X pins σ H s) (h:H p=some (.lst xs))
  (ho:s.heap.get? p=some { cls:=.type "list",data:=.seq its.toArray n }) (hf:f { cls:=.type "list",data:=.seq its.toArray n }={ cls:=.type "list",data:=.seq its'.toArray n' }) (r:Vals ys its') (hz:ys.length≤sizeLine) (t:Nat) :
  Inv X pins σ (upd H p (.lst ys)) { s with heap:=s.heap.update p f,toks:=t }:=by
 have e:(s.heap.update p f).get? p=some { cls:=.type "list",data:=.seq its'.toArray n' }:=by
  rw [Heap.get?_update_self f ho (by rw [hf] <;> rfl),hf]
 refine I.write (x:=p) (e:=p) (by rw [h]; trivial) (.inl rfl) (fun b u hb q=>(Heap.get?_update_other _ _ (Ne.symm hb)).trans q) ⟨_,e⟩ ?_
 exact ⟨hz,its',n',r,e⟩
inductive SetLR (o i v:V) (H:Hp) (Q:Hp->Prop):Prop
 | mk (p:Addr) (xs:List V) (k:Int) (j:Nat) (e1:o=.ref p) (e2:i=.int k) (h:H p=some (.lst xs)) (x:ixN xs.length k=some j) (q:Q (upd H p (.lst (xs.set j v)))):SetLR o i v H Q
def rSetL:V->V->V->Hp->(Hp->Prop)->Prop:=fun o i v H Q=>SetLR o i v H Q
theorem set_list:PSet X rSetL:=by
 intro pins s σ H o i v ov iv u Q I ro ri rv h
 obtain ⟨p,xs,k,j,rfl,rfl,hp,hj,q⟩:=h
 cases ro
 obtain ⟨t,rfl⟩:=ri
 obtain ⟨its,n,r,ho,hz⟩:=I.lst hp
 obtain ⟨h1,h2,h3,h4⟩:=ixN_seq hj
 have hl:=r.length
 have hn:=line63
 have I':Inv X pins σ (upd H p (.lst (xs.set j v))) { s with heap:=s.heap.update p (Obj.mapSeq (·.setIfInBounds j u)) } :=
  I.lstUpd hp ho (mapSeq_set its n j u) (r.set rv j) (by rw [List.length_set]; exact hz) s.toks
 by_cases h0:0≤k
 ·have hk:k.toNat=j:=by
   rw [seqIndex_of h0 h4] at h1
   exact Option.some.inj h1
  exact PySem.W.ki_setAt ho h0 (by omega) (by rw [List.size_toArray,←hl]; exact h4) (by rw [hk]; exact ⟨_,I',q⟩)
 ·have hk:(k+(its.toArray.size:Int)).toNat=j:=by
   rw [seqIndex_neg (by omega) h3] at h1
   rw [List.size_toArray,←hl]
   exact Option.some.inj h1
  exact PySem.W.ki_setBack ho (by omega) (by rw [List.size_toArray,←hl]; exact h3) (by omega) (by rw [hk]; exact ⟨_,I',q⟩)
def flatV:V->Bool
 | .non=>true
 | .bl _=>true
 | .int _=>true
 | .str _=>true
 | _=>false
def eqV:V->V->Bool
 | .non,.non=>true
 | .bl a,.bl b=>a == b
 | .bl a,.int b=>(if a then 1 else 0) == b
 | .int a,.bl b=>a == (if b then 1 else 0)
 | .int a,.int b=>a == b
 | .str a,.str b=>a == b
 | _,_=>false
theorem eqAt_V {A:Around} {s:Shared} {y x:V} {u v:Value} (ry:RelV y u) (rx:RelV x v) (fy:flatV y=true) (fx:flatV x=true):SeqAt.EqAt A s u v (eqV y x):=by
 cases y with
 | non =>
  cases ry
  cases x with
  | non=>cases rx; exact SeqAt.EqAt.same _
  | bl b=>cases rx; exact SeqAt.EqAt.none_bool b
  | int b=>obtain ⟨t,rfl⟩:=rx; exact SeqAt.EqAt.none_int b t
  | str b=>obtain ⟨t,rfl⟩:=rx; exact SeqAt.EqAt.none_str b t
  | _=>exact absurd (show false=true from fx) Bool.false_ne_true
 | bl a =>
  cases ry
  cases x with
  | non=>cases rx; exact SeqAt.EqAt.bool_none a
  | bl b=>cases rx; exact SeqAt.EqAt.bool_bool a b
  | int b=>obtain ⟨t,rfl⟩:=rx; exact SeqAt.EqAt.bool_int a b t
  | str b=>obtain ⟨t,rfl⟩:=rx; exact SeqAt.EqAt.bool_str a b t
  | _=>exact absurd (show false=true from fx) Bool.false_ne_true
 | int a =>
  obtain ⟨t',rfl⟩:=ry
  cases x with
  | non=>cases rx; exact SeqAt.EqAt.int_none a t'
  | bl b=>cases rx; exact SeqAt.EqAt.int_bool a t' b
  | int b=>obtain ⟨t,rfl⟩:=rx; exact SeqAt.EqAt.int_int a t' b t
  | str b=>obtain ⟨t,rfl⟩:=rx; exact SeqAt.EqAt.int_str a t' b t
  | _=>exact absurd (show false=true from fx) Bool.false_ne_true
 | str a =>
  obtain ⟨t',rfl⟩:=ry
  cases x with
  | non=>cases rx; exact SeqAt.EqAt.str_none a t'
  | bl b=>cases rx; exact SeqAt.EqAt.str_bool a t' b
  | int b=>obtain ⟨t,rfl⟩:=rx; exact SeqAt.EqAt.str_int a t' b t
  | str b=>obtain ⟨t,rfl⟩:=rx; exact SeqAt.EqAt.str_str a t' b t
  | _=>exact absurd (show false=true from fx) Bool.false_ne_true
 | _=>exact absurd (show false=true from fy) Bool.false_ne_true
def eqU (x:V) (u:Value):Bool:=match u with
 | .none=>eqV .non x
 | .bool b=>eqV (.bl b) x
 | .int i _=>eqV (.int i) x
 | .str z _=>eqV (.str z) x
 | _=>false
theorem eqU_of {x y:V} {u:Value} (r:RelV y u) (f:flatV y=true):eqU x u=eqV y x:=by
 cases y with
 | non=>cases r; rfl
 | bl b=>cases r; rfl
 | int i=>obtain ⟨t,rfl⟩:=r; rfl
 | str z=>obtain ⟨t,rfl⟩:=r; rfl
 | _=>exact absurd (show false=true from f) Bool.false_ne_true
theorem any_eqU {x:V}:∀ {xs:List V} {us:List Value},Vals xs us->xs.all flatV=true->us.any (eqU x)=xs.any fun y=>eqV y x
 | _,_,.nil,_=>rfl
 | y :: xs,u :: us,.cons r t,f=>by
  rw [List.all_cons,Bool.and_eq_true] at f
  rw [List.any_cons,List.any_cons,eqU_of r f.1,any_eqU t f.2]
theorem mem_eqAt {A:Around} {s:Shared} {x:V} {v:Value} (rx:RelV x v) (fx:flatV x=true):∀ {xs:List V} {us:List Value},Vals xs us->xs.all flatV=true->∀ u∈us,SeqAt.EqAt A s u v (eqU x u)
 | _,_,.nil,_=>fun u hu=>by cases hu
 | y :: xs,u :: us,.cons r t,f=>fun u' hu=>by
  rw [List.all_cons,Bool.and_eq_true] at f
  rcases List.mem_cons.mp hu with rfl | hu
  ·rw [eqU_of r f.1]; exact eqAt_V r rx f.1 fx
  ·exact mem_eqAt rx fx t f.2 u' hu
def inV (x:V) (xs:List V):Bool:=xs.any fun y=>eqV y x
def rIn (K:PySem.W.Frag) (neg:Bool):R2:=fun x y H Q=>∃ p xs,y=.ref p∧(SqL K H p xs∨SqT K H p xs)∧flatV x=true∧xs.all flatV=true∧Q (.bl (if neg then !inV x xs else inV x xs)) H
theorem op_in_seq:OpR X (compareOp .In) (rIn X.K false):=by
 intro pins s σ H x y v u Q I rx ry h
 obtain ⟨p,xs,rfl,hq,fx,fs,q⟩:=h
 cases ry
 rcases hq with hq | hq
 ·obtain ⟨its,r,pl,hz⟩:=I.list hq
  refine SeqAt.in_listAt (eqU x) pl.isList (fun w hw=>mem_eqAt rx fx r fs w (by simpa using hw)) ⟨.bl _,H,I,rfl,?_⟩
  rw [show its.toArray.any (eqU x)=its.any (eqU x) by simp,any_eqU r fs]
  exact q
 ·obtain ⟨its,r,pl,hz⟩:=I.tuple hq
  refine SeqAt.in_tupleAt (eqU x) pl (fun w hw=>mem_eqAt rx fx r fs w (by simpa using hw)) ⟨.bl _,H,I,rfl,?_⟩
  rw [show its.toArray.any (eqU x)=its.any (eqU x) by simp,any_eqU r fs]
  exact q
theorem op_notIn_seq:OpR X (compareOp .NotIn) (rIn X.K true):=by
 intro pins s σ H x y v u Q I rx ry h
 obtain ⟨p,xs,rfl,hq,fx,fs,q⟩:=h
 cases ry
 rcases hq with hq | hq
 ·obtain ⟨its,r,pl,hz⟩:=I.list hq
  refine SeqAt.notIn_listAt (eqU x) pl.isList (fun w hw=>mem_eqAt rx fx r fs w (by simpa using hw)) ⟨.bl _,H,I,rfl,?_⟩
  rw [show its.toArray.any (eqU x)=its.any (eqU x) by simp,any_eqU r fs]
  exact q
 ·obtain ⟨its,r,pl,hz⟩:=I.tuple hq
  refine SeqAt.notIn_tupleAt (eqU x) pl (fun w hw=>mem_eqAt rx fx r fs w (by simpa using hw)) ⟨.bl _,H,I,rfl,?_⟩
  rw [show its.toArray.any (eqU x)=its.any (eqU x) by simp,any_eqU r fs]
  exact q
inductive LenR (K:PySem.W.Frag) (xs:List V) (H:Hp) (Q:VK):Prop
 | mk (p:Addr) (ys:List V) (e:xs=[.ref p]) (s:SqL K H p ys∨SqT K H p ys) (q:Q (.int ys.length) H):LenR K xs H Q
theorem call_len_seq:CallR X (.builtin "len") (LenR X.K):=by
 intro pins s σ H xs us Q I r h
 obtain ⟨p,ys,rfl,hq,q⟩:=h
 obtain ⟨u,rfl,rx⟩:=vals1 r
 cases rx
 have hn:=line63
 rcases hq with hq | hq
 ·obtain ⟨its,r',pl,hz⟩:=I.list hq
  have hlen:=r'.length
  exact Calls.call_len_list pl.isList (by simp only [List.size_toArray] <;> omega) ⟨.int ys.length,H,I.tok _,⟨s.toks+1,by rw [List.size_toArray,hlen]⟩,q⟩
 ·obtain ⟨its,r',pl,hz⟩:=I.tuple hq
  have hlen:=r'.length
  exact len_tuple pl (by simp only [List.size_toArray] <;> omega) ⟨.int ys.length,H,I.tok _,⟨s.toks+1,by rw [List.size_toArray,hlen]⟩,q⟩
theorem call_list_of:CallR X (.type "list") (fun xs H Q=>∃ p ys,xs=[.ref p]∧(SqL X.K H p ys∨SqT X.K H p ys)∧∀ l,H l=none->Q (.ref l) (upd H l (.lst ys))):=by
 intro pins s σ H xs us Q I r h
 obtain ⟨p,ys,rfl,hq,q⟩:=h
 obtain ⟨u,rfl,rx⟩:=vals1 r
 cases rx
 have fin:∀ (its:List Value),Vals ys its->ys.length≤sizeLine->∀ (h':Heap) (c':Nat),(∀ b o',s.heap.get? b=some o'->h'.get? b=some o') →
   h'.get? s.heap.objs.size=some { cls:=.type "list",dict:=none,data:=.seq its.toArray c',slots:=#[] }->EP X pins σ Q (.ref s.heap.objs.size) { s with heap:=h' }:=fun its r' hz h' c' kp e =>
  ⟨.ref s.heap.objs.size,_,I.laid (t':=s.toks) kp (Nat.le_refl _) (show ObjOk X.prog X.w _ h' _ (.lst ys) from ⟨hz,its,c',r',e⟩),rfl,q _ (I.hok.fresh (Nat.le_refl _))⟩
 rcases hq with hq | hq
 ·obtain ⟨its,r',pl,hz⟩:=I.list hq
  have hlen:=r'.length
  obtain ⟨o,ho,hc,n,hd⟩:=pl.isList
  exact call_list_seq p (.inl rfl) ho hc hd (fun h' c' kp e=>fin its r' hz h' c' kp e) (by simp only [List.size_toArray] <;> omega)
 ·obtain ⟨its,r',pl,hz⟩:=I.tuple hq
  have hlen:=r'.length
  obtain ⟨o,ho,hc,n,hd⟩:=pl
  exact call_list_seq p (.inr rfl) ho hc hd (fun h' c' kp e=>fin its r' hz h' c' kp e) (by simp only [List.size_toArray] <;> omega)
theorem call_tuple_of:CallR X (.type "tuple") (fun xs H Q=>∃ p ys,xs=[.ref p]∧((SqL X.K H p ys∧∀ l,H l=none->Q (.ref l) (upd H l (.tup ys)))∨(SqT X.K H p ys∧Q (.ref p) H))):=by
 intro pins s σ H xs us Q I r h
 obtain ⟨p,ys,rfl,h⟩:=h
 obtain ⟨u,rfl,rx⟩:=vals1 r
 cases rx
 rcases h with ⟨hq,q⟩ | ⟨hq,q⟩
 ·obtain ⟨its,r',pl,hz⟩:=I.list hq
  have hlen:=r'.length
  refine call_tuple_list pl.isList (fun h' kp=>?_) (by simp only [List.size_toArray] <;> omega)
  have I1:Inv X pins σ H { s with heap:=h' }:=I.kept (t':=s.toks) kp
  have I2:Inv X pins σ (upd H h'.objs.size (.tup ys)) { s with heap:=h'.push { cls:=.type "tuple",data:=.seq its.toArray } } :=
   I1.laid (t':=s.toks) (fun b o e=>Heap.get?_push_of_some _ e) (Nat.le_refl _) (show ObjOk X.prog X.w _ _ _ (.tup ys) from ⟨hz,its,r',IsTup.new _ _,_,Heap.get?_push_size _ rfl,rfl⟩)
  exact ⟨.ref h'.objs.size,_,I2,rfl,q _ (I1.hok.fresh (Nat.le_refl _))⟩
 ·obtain ⟨its,r',pl,hz⟩:=I.tuple hq
  exact call_tuple_same pl ⟨.ref p,H,I,rfl,q⟩
def tyV (K:PySem.W.Frag) (T:String) (x:V) (H:Hp):Prop:=match x with
 | .str _=>T="str"
 | .int _=>T="int"
 | .ref p=>(T="list"∧∃ xs,SqL K H p xs)∨(T="tuple"∧∃ o,K.lookup p=some o∧o.cls=.type "tuple"∧o.dict=none) ∨
   (T="dict"∧((∃ kvs,H p=some (.dK kvs))∨∃ kvs,H p=some (.dT kvs)))∨(T="set"∧∃ S n,H p=some (.set S n))
 | _=>False
theorem tyV_is {pins:List (Addr×Obj)} {σ:St} {H:Hp} {s:Shared} {T:String} {x:V} {v:Value} (I:Inv X pins σ H s) (r:RelV x v) (ty:tyV X.K T x H) :
  s.TypeIs v T∧∀ a,v=.ref a->∃ ob,s.heap.get? a=some ob∧ob.dict=none:=by
 cases x with
 | str z =>
  obtain ⟨t,rfl⟩:=r
  cases (show T="str" from ty)
  exact ⟨typeIs_str s z t,fun _ e=>nomatch e⟩
 | int i =>
  obtain ⟨t,rfl⟩:=r
  cases (show T="int" from ty)
  exact ⟨typeIs_int s i t,fun _ e=>nomatch e⟩
 | ref p =>
  cases r
  rcases ty with ⟨rfl,xs,hq⟩ | ⟨rfl,o,hk,hc,hd⟩ | ⟨rfl,hk⟩ | ⟨rfl,S,n,hk⟩
  ·obtain ⟨its,_,pl,_⟩:=I.list hq
   refine ⟨pl.isList.typeIs,fun a e=>?_⟩
   cases e
   obtain ⟨o,n,e,c,hd,_⟩:=pl
   exact ⟨o,e,hd⟩
  ·refine ⟨⟨o,I.kIn p o hk,hc⟩,fun a e=>?_⟩
   cases e
   exact ⟨o,I.kIn _ o hk,hd⟩
  ·have z:∃ o,s.heap.get? p=some o∧o.ExactDict:=by
    rcases hk with ⟨kvs,hk⟩ | ⟨kvs,hk⟩
    ·obtain ⟨_,_,_,_,o,_,_,e,ex,_⟩:=I.hok p _ hk
     exact ⟨o,e,ex⟩
    ·obtain ⟨_,_,_,_,o,_,_,e,ex,_⟩:=I.hok p _ hk
     exact ⟨o,e,ex⟩
   obtain ⟨o,e,ex⟩:=z
   refine ⟨⟨o,e,ex.1⟩,fun a e2=>?_⟩
   cases e2
   exact ⟨o,e,ex.2.1⟩
  ·obtain ⟨o,_,_,_,e,ex,_⟩:=I.hok p _ hk
   refine ⟨⟨o,e,ex.1⟩,fun a e2=>?_⟩
   cases e2
   exact ⟨o,e,ex.2.1⟩
 | _=>exact False.elim ty
def tBM (K:PySem.W.Frag) (T:String) (r:V->List V->Hp->VK->Prop) (to:TE) (t:TA):TE:=fun σ H Q=>to σ H fun x H1=>tyV K T x H1∧t σ H1 fun xs H2=>r x xs H2 Q
variable {o e:Expr} {es:List Expr} {to:TE} {t:TA} {name:Str} {apos cpos:Pos} {T id:String} {r:V->List V->Hp->VK->Prop}
theorem pe_bm (pa:PlainAttrs T) (slot:Slot T name id) (hty:typeOf (.builtin id)=pure (.type "method_descriptor")) (hm:MtR X id r) (ho:PE X o to) (ha:PA X (e :: es) t)
  (hbase:attributeBase o name X.env (eval o X.env)=eval o X.env:=by rfl)
  (hfew:((backTo cpos (starEach (e :: es) X.env)).all (fun x=>!x.1) && (backToKw cpos (keywordEach [] X.env)).all (fun x=>x.1.isSome)
   && decide ((e :: es).length+([]:List Keyword).length+(if ([]:List Keyword).isEmpty then 0 else 1)<30))=true:=by rfl)
  (hline:(apos.endLine == cpos.line)=true:=by rfl) (hs:starEach (e :: es) X.env=(false,eval e X.env) :: starEach es X.env:=by rfl) (hplain:(backTo cpos (starEach es X.env)).any (·.1)=false:=by rfl) :
  PE X (.Call (.Attribute o name apos) (e :: es) [] cpos) (tBM X.K T r to t):=by
 intro pins s σ H Q I h
 refine wpAny_Call_method_late hbase hfew hline rfl (thn (ho pins s σ H _ I h) fun v s1 ⟨x,H1,I1,r1,ty,q1⟩=>?_)
 obtain ⟨h1,h2⟩:=tyV_is I1 r1 ty
 refine ⟨T,id,pa,slot,hty,h1,h2,?_⟩
 have hA:=ha cpos pins s1 σ H1 _ I1 q1
 rw [hs] at hA ⊢
 refine Calls.callWith_builtin (by show (false || (backTo cpos (starEach es X.env)).any (·.1))=false; rw [hplain] <;> rfl) (Calls.evalArgs_plain ?_)
 exact thn hA fun us s2 ⟨vs,H2,I2,r2,q2⟩=>hm pins s2 σ H2 x vs v us Q I2 r1 r2 q2
/- xs.append(e),list.index on a module's tuple .. are MtR facts of 06m -/
end
end L2
namespace L2
open PySem PySem.Spec PyProof.Rows
def MtM (X:Cx) (id:String) (r:V->List V->Hp->VK->Prop):Prop :=
 ∀ (pins:List (Addr×Obj)) (s:Shared) (σ:St) (H:Hp) (x:V) (xs:List V) (v:Value) (us:List Value) (Q:VK),Inv X pins σ H s->RelV x v->Vals xs us->r x xs H Q →
  wpAny (model X.prog X.w) X.A (call (.builtin id) (v :: us)) (EP X pins σ Q) X.xe s
theorem Vals.one:∀ {x:V} {us:List Value},Vals [x] us->∃ u,us=[u]∧RelV x u
 | _,_,.cons r .nil=>⟨_,rfl,r⟩
theorem Vals.two:∀ {x y:V} {us:List Value},Vals [x,y] us->∃ u v,us=[u,v]∧RelV x u∧RelV y v
 | _,_,_,.cons r (.cons q .nil)=>⟨_,_,rfl,r,q⟩
theorem Vals.eraseIdx:∀ {xs:List V} {us:List Value} (i:Nat),Vals xs us->Vals (xs.eraseIdx i) (us.eraseIdx i)
 | _,_,_,.nil=>.nil
 | _,_,0,.cons _ t=>t
 | _,_,i+1,.cons r t=>.cons r (Vals.eraseIdx i t)
section
variable {X:Cx} {pins:List (Addr×Obj)} {σ:St} {H:Hp} {s:Shared} {l b:Addr} {xs ys zs:List V}
theorem Inv.lset {its its':List Value} {n:Nat} {f:Array Value->Array Value} {t':Nat} (I:Inv X pins σ H s) (hH:H l=some (.lst xs))
  (e:s.heap.get? l=some { cls:=.type "list",data:=.seq its.toArray n }) (hf:f its.toArray=its'.toArray) (hv:Vals ys its') (hz:ys.length≤sizeLine) :
  Inv X pins σ (upd H l (.lst ys)) { s with heap:=s.heap.update l (Obj.mapSeq f),toks:=t' }:=by
 have q:=PySem.IsL.update e f
 rw [hf] at q
 refine I.write (x:=l) (e:=l) (by rw [hH]; exact trivial) (.inl rfl) (fun b' u hb hu=>(Heap.get?_update_other s.heap (Obj.mapSeq f) (Ne.symm hb)).trans hu) ⟨_,q⟩ ?_
 exact ⟨hz,its',_,hv,q⟩
theorem Inv.lnew {its:List Value} {t':Nat} (I:Inv X pins σ H s) (hv:Vals ys its) (hz:ys.length≤sizeLine) :
  Inv X pins σ (upd H s.heap.objs.size (.lst ys)) { s with heap:=s.heap.push { cls:=.type "list",data:=.seq its.toArray },toks:=t' } :=
 I.laid (fun _ _ q=>Heap.get?_push_of_some _ q) (Nat.le_refl _) ⟨hz,its,0,hv,Heap.get?_push_size _ rfl⟩
theorem Inv.fresh (I:Inv X pins σ H s):H s.heap.objs.size=none:=I.hok.fresh (Nat.le_refl _)
theorem Inv.lstM (I:Inv X pins σ H s) (hH:H l=some (.lst xs)):xs.length≤sizeLine∧∃ (its:List Value) (n:Nat),Vals xs its∧xs.length=its.length∧s.heap.get? l=some { cls:=.type "list",data:=.seq its.toArray n }:=by
 obtain ⟨z,its,n,r,e⟩:=I.hok l _ hH
 exact ⟨z,its,n,r,r.length,e⟩
end
section
variable {X:Cx}
inductive AppR (x:V) (vs:List V) (H:Hp) (Q:VK):Prop
 | mk (l:Addr) (xs:List V) (y:V) (e1:x=.ref l) (e2:vs=[y]) (h:H l=some (.lst xs)) (n:xs.length<sizeLine) (q:Q .non (upd H l (.lst (xs++[y])))):AppR x vs H Q
def rAppend:V->List V->Hp->VK->Prop:=fun x vs H Q=>AppR x vs H Q
theorem mt_append:MtM X "list.append" rAppend:=by
 intro pins s σ H x vs v us Q I rx rv h
 obtain ⟨l,xs,y,rfl,rfl,hH,hz,q⟩:=h
 cases rx
 obtain ⟨u,rfl,ru⟩:=rv.one
 obtain ⟨z,its,n,r,hl,e⟩:=I.lstM hH
 refine call_meets F.slot_list_append ⟨_,e,rfl⟩ F.entry_list_append (F.args_list_append_2 _ _) (PySem.list_append l its.toArray n u (by rw [List.size_toArray]; omega)) ⟨e,?_⟩
 refine ⟨.non,_,I.lset (its':=its++[u]) hH e (by simp) (r.append (.cons ru .nil)) ?_,rfl,q⟩
 rw [List.length_append,List.length_singleton]
 omega
inductive CatR (x y:V) (H:Hp) (Q:VK):Prop
 | mk (l b:Addr) (xs zs:List V) (e1:x=.ref l) (e2:y=.ref b) (h1:H l=some (.lst xs)) (h2:H b=some (.lst zs)) (n:xs.length+zs.length≤sizeLine) (q:∀ p,H p=none->Q (.ref p) (upd H p (.lst (xs++zs)))):CatR x y H Q
def rCat:R2:=fun x y H Q=>CatR x y H Q
theorem op_cat:OpR X (binaryOp .Add) rCat:=by
 intro pins s σ H x y v u Q I rx ry h
 obtain ⟨l,b,xs,zs,rfl,rfl,hH,hB,hz,q⟩:=h
 cases rx
 cases ry
 obtain ⟨z,its,n,r,hl,e⟩:=I.lstM hH
 obtain ⟨z2,its2,n2,r2,hl2,e2⟩:=I.lstM hB
 refine PySem.P.add_list e e2 ?_ (by rw [List.size_toArray,List.size_toArray]; omega)
 have ea:its.toArray++its2.toArray=(its++its2).toArray:=by simp
 rw [ea]
 exact ⟨.ref _,_,I.lnew (t':=s.toks) (r.append r2) (by rw [List.length_append]; omega),rfl,q _ I.fresh⟩
end
section
variable {prog:Program} {w:World} {A:Around} {E:Value->Shared->Prop} {s:Shared}
end
section
variable {X:Cx}
end
end L2
namespace L2
open PySem PySem.Spec PyProof.Rows
section
variable {κ:Type} [DecidableEq κ]
def valV (kvs:List (κ×V)) (k:κ):Option V:=(kvs.find? fun kv=>decide (kv.1=k)).map (·.2)
def putK (kvs:List (κ×V)) (k:κ) (v:V):List (κ×V) :=
 if (kvs.any fun kv=>decide (kv.1=k))=true then kvs.map (fun kv=>if kv.1=k then (kv.1,v) else kv) else kvs++[(k,v)]
def dropK (kvs:List (κ×V)) (k:κ):List (κ×V):=kvs.filter fun kv=>decide (kv.1≠k)
theorem valV_pos {p:κ×V} {r:List (κ×V)} {k:κ} (e:p.1=k):valV (p :: r) k=some p.2:=by simp [valV,List.find?_cons,e]
theorem valV_neg {p:κ×V} {r:List (κ×V)} {k:κ} (e:¬ p.1=k):valV (p :: r) k=valV r k:=by simp [valV,List.find?_cons,e]
theorem valV_any (k:κ):∀ kvs:List (κ×V),(kvs.any fun kv=>decide (kv.1=k))=(valV kvs k).isSome
 | []=>rfl
 | p :: r=>by
  rw [List.any_cons]
  by_cases e:p.1=k
  ·simp only [valV_pos e,decide_eq_true e,Bool.true_or,Option.isSome_some]
  ·rw [valV_neg e,decide_eq_false e,Bool.false_or]; exact valV_any k r
theorem length_putK (kvs:List (κ×V)) (k:κ) (v:V):(putK kvs k v).length≤kvs.length+1:=by
 unfold putK
 split
 ·rw [List.length_map]; omega
 ·rw [List.length_append,List.length_cons,List.length_nil]; omega
theorem RelO.isSome_eq {o:Option V} {u:Option Value} (r:RelO o u):o.isSome=u.isSome:=by
 cases o with
 | none=>cases u with
  | none=>rfl
  | some _=>exact (show False from r).elim
 | some _=>cases u with
  | none=>exact (show False from r).elim
  | some _=>rfl
theorem RelO.getD {o:Option V} {u:Option Value} {d:V} {d':Value} (r:RelO o u) (rd:RelV d d'):RelV (o.getD d) (u.getD d'):=by
 cases o with
 | none=>cases u with
  | none=>exact rd
  | some _=>exact (show False from r).elim
 | some _=>cases u with
  | none=>exact (show False from r).elim
  | some _=>exact r
theorem KV.val {kvs:List (κ×V)} {vs:List (κ×Value)} (r:KV kvs vs) (k:κ):RelO (valV kvs k) (valueAt vs k):=by
 unfold KV at r
 induction r with
 | nil=>exact True.intro
 | @cons p q ps qs h t ih =>
  obtain ⟨h1,h2⟩:=h
  by_cases e:p.1=k
  ·have e':q.1=k:=h1.symm.trans e
   have b:valueAt (q :: qs) k=some q.2:=by simp [valueAt,List.find?_cons,e']
   rw [valV_pos e,b]; exact h2
  ·have e':¬ q.1=k:=fun z=>e (h1.trans z)
   have b:valueAt (q :: qs) k=valueAt qs k:=by simp [valueAt,List.find?_cons,e']
   rw [valV_neg e,b]; exact ih
theorem KV.any {kvs:List (κ×V)} {vs:List (κ×Value)} (r:KV kvs vs) (k:κ):(kvs.any fun kv=>decide (kv.1=k))=vs.any fun kv=>decide (kv.1=k):=by
 unfold KV at r
 induction r with
 | nil=>rfl
 | cons h t ih=>rw [List.any_cons,List.any_cons,ih,h.1]
theorem KV.repl {kvs:List (κ×V)} {vs:List (κ×Value)} (r:KV kvs vs) (k:κ) {y:V} {u:Value} (ry:RelV y u) :
  KV (kvs.map fun kv=>if kv.1=k then (kv.1,y) else kv) (vs.map fun kv=>if kv.1=k then (kv.1,u) else kv):=by
 unfold KV at r ⊢
 induction r with
 | nil=>exact .nil
 | @cons p q ps qs h t ih =>
  rw [List.map_cons,List.map_cons]
  refine .cons ?_ ih
  obtain ⟨h1,h2⟩:=h
  by_cases e:p.1=k
  ·rw [if_pos e,if_pos (h1.symm.trans e)]; exact ⟨h1,ry⟩
  ·rw [if_neg e,if_neg (fun z=>e (h1.trans z))]; exact ⟨h1,h2⟩
theorem KV.put {kvs:List (κ×V)} {vs:List (κ×Value)} (r:KV kvs vs) (k:κ) {y:V} {u:Value} (ry:RelV y u):KV (putK kvs k y) (stored vs k u):=by
 unfold putK stored
 rw [r.any k]
 by_cases e:(vs.any fun kv=>decide (kv.1=k))=true
 ·rw [if_pos e,if_pos e]; exact r.repl k ry
 ·rw [if_neg e,if_neg e]; exact Paired.snoc r ⟨rfl,ry⟩
theorem KV.drop {kvs:List (κ×V)} {vs:List (κ×Value)} (r:KV kvs vs) (k:κ):KV (dropK kvs k) (without vs k):=by
 unfold KV at r ⊢
 unfold dropK without
 induction r with
 | nil=>exact .nil
 | @cons p q ps qs h t ih =>
  obtain ⟨h1,h2⟩:=h
  rw [List.filter_cons,List.filter_cons]
  by_cases e:p.1=k
  ·have a:¬ decide (p.1≠k)=true:=by simp [e]
   have b:¬ decide (q.1≠k)=true:=by simp [h1.symm.trans e]
   rw [if_neg a,if_neg b]; exact ih
  ·have e':¬ q.1=k:=fun z=>e (h1.trans z)
   have a:decide (p.1≠k)=true:=by simp [e]
   have b:decide (q.1≠k)=true:=by simp [e']
   rw [if_pos a,if_pos b]; exact .cons ⟨h1,h2⟩ ih
theorem KV.length {kvs:List (κ×V)} {vs:List (κ×Value)} (r:KV kvs vs):kvs.length=vs.length:=Paired.length r
theorem dropK_le (kvs:List (κ×V)) (k:κ):(dropK kvs k).length≤kvs.length:=List.length_filter_le _ _
end
theorem kV_is {P:Program} {w:World} {k:Key} {u:Value} (r:RelV (kV k) u):(mixKind P w).is k u=true:=by
 cases k with
 | inl i=>obtain ⟨t,e⟩:=(show ∃ t,u=Value.int i t from r); subst e; exact mixKind_int P w i t
 | inr x=>obtain ⟨t,e⟩:=(show ∃ t,u=Value.str x t from r); subst e; exact mixKind_str P w x t
theorem items_are {P:Program} {w:World}:∀ {ks:List Key} {us:List Value},Vals (ks.map kV) us->ItemsAre (mixKind P w) ks us
 | [],_,r=>by rw [List.map_nil] at r; cases r; exact .nil
 | k :: ks,_,r=>by
  rw [List.map_cons] at r
  cases r with
  | cons h t=>exact .cons (kV_is h) (items_are t)
abbrev KT (H:Hp):List (List Key×V)->List (List Key×Addr×Value)->Prop:=Paired fun p q=>p.1=q.1∧H q.2.1=some (.tup (p.1.map kV))∧RelV p.2 q.2.2
theorem KT.val {H:Hp} {kvs:List (List Key×V)} {xs:List (List Key×Addr×Value)} (r:KT H kvs xs) (k:List Key):RelO (valV kvs k) ((atKey xs k).map (·.2)):=by
 induction r with
 | nil=>exact True.intro
 | @cons p q ps qs h t ih =>
  obtain ⟨h1,_,h2⟩:=h
  by_cases e:p.1=k
  ·have e':q.1=k:=h1.symm.trans e
   have b:atKey (q :: qs) k=some q.2:=by simp [atKey,List.find?_cons,e']
   rw [valV_pos e,b]; exact h2
  ·have e':¬ q.1=k:=fun z=>e (h1.trans z)
   have b:atKey (q :: qs) k=atKey qs k:=by simp [atKey,List.find?_cons,e']
   rw [valV_neg e,b]; exact ih
theorem KT.repl {H:Hp} {kvs:List (List Key×V)} {xs:List (List Key×Addr×Value)} (r:KT H kvs xs) (k:List Key) {y:V} {u:Value} (ry:RelV y u) :
  KT H (kvs.map fun kv=>if kv.1=k then (kv.1,y) else kv) (xs.map (putAt k u)):=by
 induction r with
 | nil=>exact .nil
 | @cons p q ps qs h t ih =>
  rw [List.map_cons,List.map_cons]
  refine .cons ?_ ih
  obtain ⟨h1,h2,h3⟩:=h
  unfold putAt
  by_cases e:p.1=k
  ·rw [if_pos e,if_pos (h1.symm.trans e)]; exact ⟨h1,h2,ry⟩
  ·rw [if_neg e,if_neg (fun z=>e (h1.trans z))]; exact ⟨h1,h2,h3⟩
theorem KT.put {H:Hp} {kvs:List (List Key×V)} {xs:List (List Key×Addr×Value)} (r:KT H kvs xs) (k:List Key) {b:Addr} {y:V} {u:Value} (hb:H b=some (.tup (k.map kV))) (ry:RelV y u) :
  KT H (putK kvs k y) (storedH xs k b u):=by
 have e:(kvs.any fun kv=>decide (kv.1=k))=(atKey xs k).isSome:=by
  rw [valV_any,(r.val k).isSome_eq,Option.isSome_map]
 unfold putK storedH
 rw [e]
 by_cases q:(atKey xs k).isSome=true
 ·rw [if_pos q,if_pos q]; exact r.repl k ry
 ·rw [if_neg q,if_neg q]; exact Paired.snoc r ⟨rfl,hb,ry⟩
theorem KT.keeps {H H':Hp} {kvs:List (List Key×V)} {xs:List (List Key×Addr×Value)} (r:KT H kvs xs) (ht:∀ b ys,H b=some (.tup ys)->H' b=some (.tup ys)):KT H' kvs xs :=
 Paired.mapP r fun _ _ z=>⟨z.1,ht _ _ z.2.1,z.2.2⟩
section
variable {P:Program} {w:World} {H:Hp} {h:Heap} {a:Addr}
theorem rd_of {u:HO} (ok:HOk P w H h) (e:Rd H a u):ObjOk P w H h a u:=e.ok ok
theorem dk_rd {kvs:List (Key×V)} (ok:HOk P w H h) (e:Rd H a (.dK kvs)):kvs.length≤sizeLine∧(a == sysModules)=false∧∃ vs,KV kvs vs∧h.DictOf (mixKind P w) a vs :=
 show ObjOk P w H h a (.dK kvs) from rd_of ok e
theorem dk_of {kvs:List (Key×V)} (ok:HOk P w H h) (e:H a=some (.dK kvs)):kvs.length≤sizeLine∧(a == sysModules)=false∧∃ vs,KV kvs vs∧h.DictOf (mixKind P w) a vs:=dk_rd ok (.inl e)
theorem key_of {ks:List Key} (ok:HOk P w H h) (e:H a=some (.tup (ks.map kV))):(tupleKind (mixKind P w)).is h ks a:=by
 obtain ⟨_,its,r,⟨o,h1,h2,n,h3⟩,_⟩:=(show ObjOk P w H h a (.tup (ks.map kV)) from ok a _ e)
 exact ⟨o,its.toArray,n,h1,h2,h3,by simpa using items_are r⟩
theorem dt_rd {kvs:List (List Key×V)} (ok:HOk P w H h) (e:Rd H a (.dT kvs)):kvs.length≤sizeLine∧(a == sysModules)=false ∧
  ∃ xs,KT H kvs xs∧h.DictOfH (tupleKind (mixKind P w)) a xs:=by
 obtain ⟨z,y,xs,r,o,es,ep,h1,h2,h3,h4,h5⟩:=(show ObjOk P w H h a (.dT kvs) from rd_of ok e)
 refine ⟨z,y,xs,r,o,es,ep,h1,h2,h3,h4,fun x hx=>?_,h5⟩
 have all:∀ {l:List (List Key×V)} {m:List (List Key×Addr×Value)},KT H l m->∀ x∈m,(tupleKind (mixKind P w)).is h x.1 x.2.1:=by
  intro l m q
  induction q with
  | nil=>intro x hx; exact nomatch hx
  | @cons p q ps qs hq t ih =>
   intro x hx
   rcases List.mem_cons.mp hx with e | hx
   ·subst e
    exact key_of ok (by rw [←hq.1]; exact hq.2.1)
   ·exact ih x hx
 exact all r x hx
theorem dt_of {kvs:List (List Key×V)} (ok:HOk P w H h) (e:H a=some (.dT kvs)):kvs.length≤sizeLine∧(a == sysModules)=false ∧
  ∃ xs,KT H kvs xs∧h.DictOfH (tupleKind (mixKind P w)) a xs:=dt_rd ok (.inl e)
end
def DGet (H:Hp) (a:Addr) (y:V) (r:Option V):Prop :=
 (∃ kvs k,Rd H a (.dK kvs)∧y=kV k∧r=valV kvs k)∨∃ kvs k b,Rd H a (.dT kvs)∧y=.ref b∧H b=some (.tup (k.map kV))∧r=valV kvs k
def DPut (H:Hp) (a:Addr) (y v:V) (H':Hp):Prop :=
 (∃ kvs k,H a=some (.dK kvs)∧y=kV k∧kvs.length<sizeLine∧H'=upd H a (.dK (putK kvs k v))) ∨
 ∃ kvs k b,H a=some (.dT kvs)∧y=.ref b∧H b=some (.tup (k.map kV))∧kvs.length<sizeLine∧H'=upd H a (.dT (putK kvs k v))
theorem DGet.k {H:Hp} {a:Addr} {kvs:List (Key×V)} {k:Key} (e:H a=some (.dK kvs)):DGet H a (kV k) (valV kvs k):=.inl ⟨kvs,k,.inl e,rfl,rfl⟩
theorem DGet.t {H:Hp} {a b:Addr} {kvs:List (List Key×V)} {k:List Key} (e:H a=some (.dT kvs)) (eb:H b=some (.tup (k.map kV))):DGet H a (.ref b) (valV kvs k):=.inr ⟨kvs,k,b,.inl e,rfl,eb,rfl⟩
theorem DPut.k {H:Hp} {a:Addr} {kvs:List (Key×V)} {k:Key} {v:V} (e:H a=some (.dK kvs)) (hl:kvs.length<sizeLine):DPut H a (kV k) v (upd H a (.dK (putK kvs k v))):=.inl ⟨kvs,k,e,rfl,hl,rfl⟩
theorem DPut.t {H:Hp} {a b:Addr} {kvs:List (List Key×V)} {k:List Key} {v:V} (e:H a=some (.dT kvs)) (eb:H b=some (.tup (k.map kV))) (hl:kvs.length<sizeLine) :
  DPut H a (.ref b) v (upd H a (.dT (putK kvs k v))):=.inr ⟨kvs,k,b,e,rfl,eb,hl,rfl⟩
section
variable {X:Cx} {pins:List (Addr×Obj)} {σ:St} {H:Hp} {s:Shared} {a:Addr} {y v:V} {u r:Value} {o:Option V} {A:Around} {E:Value->Shared->Prop}
theorem Inv.big (I:Inv X pins σ H s):sysModules<s.heap.objs.size:=by
 have h:mainGlobals<s.heap.objs.size:=(I.mod.glob.keeps I.bk).lt
 exact Nat.lt_trans (by decide) h
theorem d_getItem {Q:Value->Shared->Prop} (hu:A.units+1<cLine) (I:Inv X pins σ H s) (g:DGet H a y (some v)) (ry:RelV y u) (h:∀ w' s',Inv X pins σ H s'->RelV v w'->Q w' s') :
  wpAny (model X.prog X.w) A (getItem (.ref a) u) Q E s:=by
 rcases g with ⟨kvs,k,e,ey,l⟩ | ⟨kvs,k,b,e,ey,eb,l⟩
 ·subst ey
  obtain ⟨z,hd,vs,rel,dd⟩:=dk_rd I.hok e
  obtain ⟨w',hw,rw'⟩:=RelO.some_of (v:=v) (o:=valueAt vs k) (by rw [l]; exact rel.val k)
  exact wpAny_getItem_of (kV_is ry) dd.mapOf hw (h w' _ (I.tok _) rw')
 ·subst ey
  cases (show u=Value.ref b from ry)
  obtain ⟨z,hd,xs,rel,dd⟩:=dt_rd I.hok e
  obtain ⟨w',hw,rw'⟩:=RelO.some_of (v:=v) (o:=(atKey xs k).map (·.2)) (by rw [l]; exact rel.val k)
  obtain ⟨p,hp,hp2⟩:=Option.map_eq_some_iff.mp hw
  refine wpAny_getItem_heap (tupleKind_room_in1 hu) (key_of I.hok eb) dd hp ?_
  rw [hp2]
  exact h w' _ (I.tok _) rw'
theorem d_in {Q:Value->Shared->Prop} (hu:A.units+1<cLine) (I:Inv X pins σ H s) (g:DGet H a y o) (ry:RelV y u) (h:∀ s',Inv X pins σ H s'->Q (.bool o.isSome) s') :
  wpAny (model X.prog X.w) A (compareOp .In u (.ref a)) Q E s:=by
 rcases g with ⟨kvs,k,e,ey,l⟩ | ⟨kvs,k,b,e,ey,eb,l⟩
 ·subst ey
  obtain ⟨z,hd,vs,rel,dd⟩:=dk_rd I.hok e
  refine wpAny_in_of (kV_is ry) hd dd.mapOf ?_
  rw [←(rel.val k).isSome_eq,←l]
  exact h _ (I.tok _)
 ·subst ey
  cases (show u=Value.ref b from ry)
  obtain ⟨z,hd,xs,rel,dd⟩:=dt_rd I.hok e
  refine wpAny_in_heap (tupleKind_room_in1 hu) (key_of I.hok eb) hd dd ?_
  have q:=(rel.val k).isSome_eq
  rw [Option.isSome_map] at q
  rw [←q,←l]
  exact h _ (I.tok _)
theorem d_notIn {Q:Value->Shared->Prop} (hu:A.units+1<cLine) (I:Inv X pins σ H s) (g:DGet H a y o) (ry:RelV y u) (h:∀ s',Inv X pins σ H s'->Q (.bool (!o.isSome)) s') :
  wpAny (model X.prog X.w) A (compareOp .NotIn u (.ref a)) Q E s:=by
 rcases g with ⟨kvs,k,e,ey,l⟩ | ⟨kvs,k,b,e,ey,eb,l⟩
 ·subst ey
  obtain ⟨z,hd,vs,rel,dd⟩:=dk_rd I.hok e
  refine wpAny_notIn_of (kV_is ry) hd dd.mapOf ?_
  rw [←(rel.val k).isSome_eq,←l]
  exact h _ (I.tok _)
 ·subst ey
  cases (show u=Value.ref b from ry)
  obtain ⟨z,hd,xs,rel,dd⟩:=dt_rd I.hok e
  refine wpAny_notIn_heap (tupleKind_room_in1 hu) (key_of I.hok eb) hd dd ?_
  have q:=(rel.val k).isSome_eq
  rw [Option.isSome_map] at q
  rw [←q,←l]
  exact h _ (I.tok _)
theorem d_write {h':Heap} {t':Nat} {ob:HO} (I:Inv X pins σ H s) (mu:Mut (H a)) (hs:Heap.SameBut a s.heap h') (he:∃ q,h'.get? a=some q) (new:ObjOk X.prog X.w (upd H a ob) h' a ob) :
  Inv X pins σ (upd H a ob) { s with heap:=h',toks:=t' } :=
 I.write (x:=a) (e:=a) mu (.inl rfl) (fun b q hb z=>(hs.2 b hb).trans z) he new
theorem dk_new {P:Program} {w:World} {H':Hp} {h':Heap} {kvs:List (Key×V)} {vs:List (Key×Value)} (z:kvs.length≤sizeLine) (hd:(a == sysModules)=false) (rel:KV kvs vs) (dd:h'.DictOf (mixKind P w) a vs) :
  ObjOk P w H' h' a (.dK kvs):=⟨z,hd,vs,rel,dd⟩
theorem d_setItem {H':Hp} {Q:Unit->Shared->Prop} (hu:A.units+1<cLine) (I:Inv X pins σ H s) (g:DPut H a y v H') (ry:RelV y u) (rv:RelV v r) (h:∀ s',Inv X pins σ H' s'->Q () s') :
  wpAny (model X.prog X.w) A (setItem (.ref a) u r) Q E s:=by
 rcases g with ⟨kvs,k,e,ey,l,eH⟩ | ⟨kvs,k,b,e,ey,eb,l,eH⟩
 ·subst ey eH
  obtain ⟨z,hd,vs,rel,dd⟩:=dk_of I.hok e
  have hz:vs.length≤sizeLine:=by rw [←rel.length]; exact z
  have hl:(putK kvs k v).length≤sizeLine:=by have:=length_putK kvs k v; omega
  refine wpAny_setItem_pairs (hsz:=hz) (kV_is ry) dd fun h' dd' hs=>h _ ?_
  have he:∃ q,h'.get? a=some q:=let ⟨q,_,_,hq,_⟩:=dd'; ⟨q,hq⟩
  exact d_write I (by rw [e]; exact True.intro) hs he (dk_new hl hd (rel.put k rv) dd')
 ·subst ey eH
  cases (show u=Value.ref b from ry)
  obtain ⟨z,hd,xs,rel,dd⟩:=dt_of I.hok e
  have hz:xs.length≤sizeLine:=by rw [←Paired.length rel]; exact z
  have hl:(putK kvs k v).length≤sizeLine:=by have:=length_putK kvs k v; omega
  refine wpAny_setItem_heap (hsz:=hz) (tupleKind_room_in1 hu) (key_of I.hok eb) dd fun h' dd' hs=>h _ ?_
  obtain ⟨q,es,ep,hq,h2,h3,h4,_,h5⟩:=dd'
  refine d_write I (by rw [e]; exact True.intro) hs ⟨q,hq⟩ ⟨hl,hd,_,(rel.put k eb rv).keeps fun c ys ec=>?_,q,es,ep,hq,h2,h3,h4,h5⟩
  rw [upd_ne (ne_of ec e (fun z=>nomatch z))]
  exact ec
end
section
variable {X:Cx} {pins:List (Addr×Obj)} {σ:St} {H:Hp} {s:Shared} {a:Addr} {kvs:List (Key×V)} {k:Key} {u:Value} {A:Around} {E:Value->Shared->Prop}
theorem d_pop {v:V} {more:List Value} {Q:Value->Shared->Prop} (I:Inv X pins σ H s) (e:H a=some (.dK kvs)) (ry:RelV (kV k) u) (l:valV kvs k=some v) (hm:more=[]∨∃ x,more=[x])
  (h:∀ w' s',Inv X pins σ (upd H a (.dK (dropK kvs k))) s'->RelV v w'->Q w' s'):wpAny (model X.prog X.w) A (call (.builtin "dict.pop") (.ref a :: u :: more)) Q E s:=by
 obtain ⟨z,hd,vs,rel,dd⟩:=dk_of I.hok e
 obtain ⟨w',hw,rw'⟩:=RelO.some_of (v:=v) (o:=valueAt vs k) (by rw [←l]; exact rel.val k)
 have hp:(keyPart u).isSome=true:=by
  cases k with
  | inl i=>obtain ⟨t,q⟩:=(show ∃ t,u=Value.int i t from ry); subst q; rfl
  | inr x=>obtain ⟨t,q⟩:=(show ∃ t,u=Value.str x t from ry); subst q; rfl
 have ha:argsOk "dict.pop" ⟨.ref a :: u :: more,[]⟩:=by
  rcases hm with q | ⟨x,q⟩
  ·subst q; exact PySem.F.args_dict_pop_2 _ _
  ·subst q; exact PySem.F.args_dict_pop_3 _ _ _
 refine call_meetsIn PySem.F.slot_dict_pop dd.typeIs PySem.F.entry_dict_pop ha (meets_dict_pop_there (mixKind X.prog X.w) a (kV_is ry) more hm hp)
  ⟨vs,w',dd,by rw [←rel.length]; exact z,hw,fun h' dd' hs=>h w' _ ?_ rw'⟩
 have he:∃ q,h'.get? a=some q:=let ⟨q,_,_,hq,_⟩:=dd'; ⟨q,hq⟩
 exact d_write I (by rw [e]; exact True.intro) hs he (dk_new (Nat.le_trans (dropK_le kvs k) z) hd (rel.drop k) dd')
theorem d_len {Q:Value->Shared->Prop} (I:Inv X pins σ H s) (e:Rd H a (.dK kvs)) (h:∀ t s',Inv X pins σ H s'->Q (.int kvs.length t) s'):wpAny (model X.prog X.w) A (call (.builtin "len") [.ref a]) Q E s:=by
 obtain ⟨z,hd,vs,rel,dd⟩:=dk_rd I.hok e
 refine call_len_dict hd dd (by rw [←rel.length]; rw [sizeLine_eq] at z; omega) ?_
 rw [←rel.length]
 exact h _ _ (I.tok _)
end
def NoSl (i:Expr):Prop:=∀ ov iv,subscripted i false ov iv=operate [ov,iv] (getItem ov iv)
theorem subD_of {prog:Program} {w:World} {A:Around} {E:Value->Shared->Prop} {s:Shared} {env:Env} {value slice:Expr} {pos:Pos} {T id:String} {Q:Value->Shared->Prop}
  (hl:typeLookup (.type T) "__getitem__" = pure (some (.builtin id))) (hs:NoSl slice)
  (h:wpAny (model prog w) A (eval value env) (fun o s₁=>wpAny (model prog w) A (eval slice env) (fun i s₂=>s₂.TypeIs o T∧wpAny (model prog w) A (getItem o i) Q E s₂) E s₁) E s) :
  wpAny (model prog w) A (eval (.Subscript value slice pos) env) Q E s:=by
 refine Subscript_ (wpAny_mono h (fun o s₁ h₁=>wpAny_mono h₁ (fun i s₂ h₂=>?_) fun _ _ x=>x) fun _ _ x=>x)
 obtain ⟨hT,h₂⟩:=h₂
 unfold subscriptTail
 refine wpAny_bind ?_
 rw [getitemInPython_of_ne hT.not_modules]
 refine wpAny_bind (wpAny_specialOf hT hl ?_)
 have fin:wpAny (model prog w) A (subscripted slice false o i) (fun r s₃=>wpAny (model prog w) A (letTemporaryGo value o r >>= fun _=>pure r) Q E s₃) E s₂:=by
  rw [hs o i]
  exact wpAny_operating (wpAny_mono h₂ (fun r s₃ h₃=>wpAny_bind (wpAny_letTemporaryGo (wpAny_pure h₃))) fun _ _ x=>x)
 first
  | exact wpAny_pure (wpAny_bind fin)
  | exact wpAny_bind (wpAny_pure (wpAny_bind fin))
  | exact wpAny_bind fin
theorem dict_typeIs {X:Cx} {pins:List (Addr×Obj)} {σ:St} {H:Hp} {s:Shared} {a:Addr} {y:V} {o:Option V} (I:Inv X pins σ H s) (g:DGet H a y o):s.TypeIs (.ref a) "dict":=by
 rcases g with ⟨kvs,k,e,_,_⟩ | ⟨kvs,k,b,e,_,_,_⟩
 ·obtain ⟨_,_,vs,_,dd⟩:=dk_rd I.hok e
  exact dd.typeIs
 ·obtain ⟨_,_,xs,_,dd⟩:=dt_rd I.hok e
  exact dd.typeIs
inductive DGetR (x y:V) (H:Hp) (Q:VK):Prop
 | mk (a:Addr) (v:V) (e:x=.ref a) (d:DGet H a y (some v)) (q:Q v H):DGetR x y H Q
inductive DInR (x y:V) (H:Hp) (Q:VK):Prop
 | mk (a:Addr) (o:Option V) (e:x=.ref a) (d:DGet H a y o) (q:Q (.bl o.isSome) H):DInR x y H Q
inductive DPutR (x y v:V) (H:Hp) (Q:Hp->Prop):Prop
 | mk (a:Addr) (H4:Hp) (e:x=.ref a) (d:DPut H a y v H4) (q:Q H4):DPutR x y v H Q
def tDGet (td ty:TE):TE:=fun σ H Q=>td σ H fun x H1=>ty σ H1 fun y H2=>DGetR x y H2 Q
def tDIn (ty td:TE):TE:=fun σ H Q=>ty σ H fun y H1=>td σ H1 fun x H2=>DInR x y H2 Q
def tDNotIn (ty td:TE):TE:=fun σ H Q=>ty σ H fun y H1=>td σ H1 fun x H2=>∃ a o,x=.ref a∧DGet H2 a y o∧Q (.bl (!o.isSome)) H2
def sDPut (td ty tv:TE):TS:=fun D σ H=>tv σ H fun v H1=>td σ H1 fun x H2=>ty σ H2 fun y H3=>DPutR x y v H3 (D.nx σ)
section
variable {X:Cx} {o i e value:Expr} {pos pos' tpos:Pos} {td ty tv:TE}
theorem pe_dget (hu:X.A.units+1<cLine) (ho:PE X o td) (hi:PE X i ty) (hs:NoSl i):PE X (.Subscript o i pos) (tDGet td ty):=by
 intro pins s σ H Q I h
 refine subD_of PySem.F.slot_dict_getitem.lookup hs (thn (ho pins s σ H _ I h) fun u s1 ⟨x,H1,I1,rx,q1⟩=>thn (hi pins s1 σ H1 _ I1 q1) fun iv s2 ⟨y,H2,I2,ry,a,v,ex,g,q2⟩=>?_)
 subst ex
 obtain rfl:u=Value.ref a:=rx
 exact ⟨dict_typeIs I2 g,d_getItem hu I2 g ry fun w' s3 I3 rw'=>⟨v,H2,I3,rw',q2⟩⟩
theorem pc_din (hu:X.A.units+1<cLine) (hi:PE X i ty) (ho:PE X o td):PC X .In i o (tDIn ty td):=by
 intro pins s σ H Q I h
 refine thn (hi pins s σ H _ I h) fun iv s1 ⟨y,H1,I1,ry,q1⟩=>thn (ho pins s1 σ H1 _ I1 q1) fun u s2 ⟨x,H2,I2,rx,a,ov,ex,g,q2⟩=>?_
 subst ex
 obtain rfl:u=Value.ref a:=rx
 exact d_in hu I2 g ry fun s3 I3=>⟨.bl ov.isSome,H2,I3,rfl,q2⟩
theorem pc_dnotin (hu:X.A.units+1<cLine) (hi:PE X i ty) (ho:PE X o td):PC X .NotIn i o (tDNotIn ty td):=by
 intro pins s σ H Q I h
 refine thn (hi pins s σ H _ I h) fun iv s1 ⟨y,H1,I1,ry,q1⟩=>thn (ho pins s1 σ H1 _ I1 q1) fun u s2 ⟨x,H2,I2,rx,a,ov,ex,g,q2⟩=>?_
 subst ex
 obtain rfl:u=Value.ref a:=rx
 exact d_notIn hu I2 g ry fun s3 I3=>⟨.bl (!ov.isSome),H2,I3,rfl,q2⟩
theorem ps_dput (hu:X.A.units+1<cLine) (ho:PE X o td) (hi:PE X i ty) (hv:PE X value tv) (hs:swapsWith value (some (.Subscript o i pos')) pos.line X.env=pure false) :
  PS X (.Assign [.Subscript o i pos'] value pos) (sDPut td ty tv):=by
 intro pins s σ H D I h
 refine wpAny_Assign_Subscript (thn (hv pins s σ H _ I h) fun r s1 ⟨v,H1,I1,rv,q1⟩=>thn (ho pins s1 σ H1 _ I1 q1) fun u s2 ⟨x,H2,I2,rx,q2⟩=>thn (hi pins s2 σ H2 _ I2 q2) fun iv s3 ⟨y,H3,I3,ry,a,H4,ex,g,q3⟩=>?_) hs
 subst ex
 obtain rfl:u=Value.ref a:=rx
 exact d_setItem hu I3 g ry rv fun s4 I4=>⟨σ,H4,I4,q3⟩
end
theorem dk_empty {P:Program} {w:World} {H:Hp} (h:Heap) (hb:sysModules<h.objs.size):ObjOk P w H (h.push { cls:=.type "dict",data:=.dict #[] }) h.objs.size (.dK []) :=
 ⟨Nat.zero_le _,beq_eq_false_iff_ne.mpr (Ne.symm (Nat.ne_of_lt hb)),[],.nil,Heap.DictOf.new h⟩
def tDNewK:TE:=fun _ H Q=>∀ p,H p=none->Q (.ref p) (upd H p (.dK []))
section
variable {X:Cx} {pos:Pos}
theorem pe_dnewK:PE X (.Dict [] [] pos) tDNewK:=fun pins s σ H Q I h =>
 wpAny_Dict_empty ⟨.ref s.heap.objs.size,_,I.laid (a:=s.heap.objs.size) (o:=.dK []) (t':=s.toks) (fun _ _ q=>Heap.get?_push_of_some _ q) (Nat.le_refl _) (dk_empty s.heap I.big),rfl,h _ (I.hok.fresh (Nat.le_refl _))⟩
end
def tPairs:List (TE×TE)->St->Hp->(List (V×V)->Hp->Prop)->Prop
 | [],_,H,Q=>Q [] H
 | (tk,tv) :: r,σ,H,Q=>tk σ H fun x H1=>tv σ H1 fun y H2=>tPairs r σ H2 fun ps H3=>Q ((x,y) :: ps) H3
abbrev VV:List (V×V)->List (Value×Value)->Prop:=Paired fun p q=>RelV p.1 q.1∧RelV p.2 q.2
def PPs (X:Cx) (pos:Pos) (keys:List (Option Expr)) (values:List Expr) (trs:List (TE×TE)):Prop :=
 ∀ (pins:List (Addr×Obj)) (s:Shared) (σ:St) (H:Hp) (Q:List (V×V)->Hp->Prop),Inv X pins σ H s->tPairs trs σ H Q →
  wpAny (model X.prog X.w) X.A (evalPairs (pairTrees keys values X.env pos)) (fun vs s'=>∃ ps H',Inv X pins σ H' s'∧VV ps vs∧Q ps H') X.xe s
theorem pps_nil {X:Cx} {pos:Pos}:PPs X pos [] [] []:=fun pins s σ H Q I h=>pairTrees_nil_walk ⟨[],H,I,.nil,h⟩
theorem pps_cons {X:Cx} {pos:Pos} {k v:Expr} {ks:List (Option Expr)} {vs:List Expr} {tk tv:TE} {trs:List (TE×TE)} (hk:PE X k tk) (hv:PE X v tv) (hr:PPs X pos ks vs trs) :
  PPs X pos (some k :: ks) (v :: vs) ((tk,tv) :: trs):=fun pins s σ H Q I h =>
 pairTrees_cons_walk (thn (hk pins s σ H _ I h) fun u s1 ⟨x,H1,I1,rx,q1⟩=>thn (hv pins s1 σ H1 _ I1 q1) fun w2 s2 ⟨y,H2,I2,ry,q2⟩ =>
  thn (hr pins s2 σ H2 _ I2 q2) fun ws s3 ⟨ps,H3,I3,rel,q3⟩=>⟨(x,y) :: ps,H3,I3,.cons ⟨rx,ry⟩ rel,q3⟩)
def mergeK (kvs more:List (Key×V)):List (Key×V):=more.foldl (fun acc kv=>putK acc kv.1 kv.2) kvs
theorem KV.merge:∀ {more:List (Key×V)} {rs:List (Key×Value)} {kvs:List (Key×V)} {vs:List (Key×Value)},KV more rs->KV kvs vs->KV (mergeK kvs more) (merged vs rs):=by
 intro more rs kvs vs r
 unfold KV at r
 induction r generalizing kvs vs with
 | nil=>intro q; exact q
 | @cons p q ps qs h t ih =>
  intro r0
  have e:KV (putK kvs p.1 p.2) (stored vs q.1 q.2):=by
   have:=r0.put p.1 h.2
   rw [←h.1]; exact this
  exact ih e
theorem length_mergeK:∀ (more kvs:List (Key×V)),(mergeK kvs more).length≤kvs.length+more.length
 | [],kvs=>by show kvs.length≤kvs.length+0; omega
 | p :: r,kvs=>by
  have h1:=length_mergeK r (putK kvs p.1 p.2)
  have h2:=length_putK kvs p.1 p.2
  show (mergeK (putK kvs p.1 p.2) r).length≤_
  rw [List.length_cons]; omega
theorem carries_of {P:Program} {w:World}:∀ {kvs:List (Key×V)} {ws:List (Value×Value)},VV (kvs.map fun kv=>(kV kv.1,kv.2)) ws->∃ rs,Carries (mixKind P w) ws rs∧KV kvs rs
 | [],_,r=>by rw [List.map_nil] at r; cases r; exact ⟨[],True.intro,.nil⟩
 | p :: kvs,_,r=>by
  rw [List.map_cons] at r
  cases r with
  | @cons a b as bs h t =>
   obtain ⟨rs,c,q⟩:=carries_of (P:=P) (w:=w) t
   obtain ⟨b1,b2⟩:=b
   exact ⟨(p.1,b2) :: rs,⟨kV_is h.1,rfl,c⟩,.cons ⟨rfl,h.2⟩ q⟩
def tDisp (trs:List (TE×TE)):TE:=fun σ H Q=>∀ p,H p=none->tPairs trs σ (upd H p (.dK [])) fun ps H2=>H2 p=some (.dK [])∧∃ kvs:List (Key×V),ps=kvs.map (fun kv=>(kV kv.1,kv.2))∧kvs.length≤15∧Q (.ref p) (upd H2 p (.dK (mergeK [] kvs)))
theorem pe_disp {X:Cx} {pos:Pos} {keys:List (Option Expr)} {values:List Expr} {trs:List (TE×TE)} (h:PPs X pos keys values trs) (hall:keys.all (·.isSome)=true) (hl:keys.length=values.length) (h0:keys≠[])
  (h15:keys.length≤15):PE X (.Dict keys values pos) (tDisp trs):=by
 intro pins s σ H Q I q
 have hn:=I.hok.fresh (Nat.le_refl s.heap.objs.size)
 have I1:=I.laid (a:=s.heap.objs.size) (o:=.dK []) (h':=s.heap.push { cls:=.type "dict",data:=.dict #[] }) (t':=s.toks) (fun _ _ q=>Heap.get?_push_of_some _ q) (Nat.le_refl _) (dk_empty s.heap I.big)
 refine wpAny_Dict_walk (knd:=mixKind X.prog X.w) hall hl h0 h15 (thn (h pins _ σ _ _ I1 (q _ hn)) fun ws s2 ⟨ps,H2,I2,rel,e,kvs,ep,lk,q2⟩=>?_)
 subst ep
 obtain ⟨rs,c,rk⟩:=carries_of (P:=X.prog) (w:=X.w) rel
 obtain ⟨z,hd,vs0,r0,dd⟩:=dk_of I2.hok e
 cases r0
 refine ⟨rs,c,dd,fun h' dd' hs=>⟨.ref s.heap.objs.size,_,?_,rfl,q2⟩⟩
 have hz:(mergeK [] kvs).length≤sizeLine:=by
  have h1:=length_mergeK kvs []
  rw [List.length_nil] at h1
  rw [sizeLine_eq]; omega
 have he:∃ q,h'.get? s.heap.objs.size=some q:=let ⟨q,_,_,hq,_⟩:=dd'; ⟨q,hq⟩
 exact d_write I2 (by rw [e]; exact True.intro) hs he (dk_new hz hd (rk.merge .nil) dd')
structure M1 (X:Cx) (o:Expr) (m:Str) (apos:Pos) (e:Expr) (cpos:Pos):Prop where
 base:attributeBase o m X.env (eval o X.env)=eval o X.env
 few:((backTo cpos (starEach [e] X.env)).all (fun x=>!x.1) && (backToKw cpos (keywordEach [] X.env)).all (fun x=>x.1.isSome)
  && decide (([e]:List Expr).length+([]:List Keyword).length+(if ([]:List Keyword).isEmpty then 0 else 1)<30))=true
 line:(apos.endLine == cpos.line)=true
 trees:backTo cpos (starEach [e] X.env)=[(false,eval e X.env)]
structure M2 (X:Cx) (o:Expr) (m:Str) (apos:Pos) (e f:Expr) (cpos:Pos):Prop where
 base:attributeBase o m X.env (eval o X.env)=eval o X.env
 few:((backTo cpos (starEach [e,f] X.env)).all (fun x=>!x.1) && (backToKw cpos (keywordEach [] X.env)).all (fun x=>x.1.isSome)
  && decide (([e,f]:List Expr).length+([]:List Keyword).length+(if ([]:List Keyword).isEmpty then 0 else 1)<30))=true
 line:(apos.endLine == cpos.line)=true
 trees:backTo cpos (starEach [e,f] X.env)=[(false,eval e X.env),(false,eval f X.env)]
def IsD (H:Hp) (a:Addr):Prop:=(∃ kvs,Rd H a (.dK kvs))∨∃ kvs,Rd H a (.dT kvs)
theorem isD_at {X:Cx} {pins:List (Addr×Obj)} {σ:St} {H:Hp} {s:Shared} {a:Addr} (I:Inv X pins σ H s) (d:IsD H a) :
  s.TypeIs (.ref a) "dict"∧(∀ b,Value.ref a=.ref b->∃ ob,s.heap.get? b=some ob∧ob.dict=none)∧(a == sysModules)=false:=by
 rcases d with ⟨kvs,e⟩ | ⟨kvs,e⟩
 ·obtain ⟨_,hd,vs,_,dd⟩:=dk_rd I.hok e
  refine ⟨dd.typeIs,fun b q=>?_,hd⟩
  cases q
  obtain ⟨ob,_,_,h1,h2,_⟩:=dd
  exact ⟨ob,h1,h2.2.1⟩
 ·obtain ⟨_,hd,xs,_,dd⟩:=dt_rd I.hok e
  refine ⟨dd.typeIs,fun b q=>?_,hd⟩
  cases q
  obtain ⟨ob,_,_,h1,h2,_⟩:=dd
  exact ⟨ob,h1,h2.2.1⟩
section
variable {X:Cx} {pins:List (Addr×Obj)} {σ:St} {H:Hp} {s:Shared} {a:Addr} {y d:V} {u r:Value} {o:Option V} {A:Around} {E:Value->Shared->Prop}
end
def tDPop1 (td ty:TE):TE:=fun σ H Q=>td σ H fun x H1=>∃ a,x=.ref a∧IsD H1 a∧ty σ H1 fun y H2=>∃ kvs k v,H2 a=some (.dK kvs)∧y=kV k∧valV kvs k=some v∧Q v (upd H2 a (.dK (dropK kvs k)))
section
variable {X:Cx} {o e f:Expr} {apos cpos:Pos} {td ty tx:TE}
theorem pe_dpop1 (ho:PE X o td) (he:PE X e ty) (m:M1 X o "pop" apos e cpos):PE X (.Call (.Attribute o "pop" apos) [e] [] cpos) (tDPop1 td ty):=by
 intro pins s σ H Q I h
 refine wpAny_Call_method m.base m.few m.line PySem.F.plainAttrs_dict PySem.F.slot_dict_pop PySem.F.type_dict_pop (thn (ho pins s σ H _ I h) fun u s1 ⟨x,H1,I1,rx,a,ex,d,q1⟩=>?_)
 subst ex
 obtain rfl:u=Value.ref a:=rx
 obtain ⟨t1,t2,_⟩:=isD_at I1 d
 refine ⟨t1,t2,?_⟩
 rw [m.trees]
 refine Calls.callWith_builtin rfl (Calls.evalArgs_plain (Calls.spliced_cons (thn (he pins s1 σ H1 _ I1 q1) fun iv s2 ⟨y,H2,I2,ry,kvs,k,v,ea,ey,l,q2⟩=>Calls.spliced_nil ?_)))
 subst ey
 exact d_pop I2 ea ry l (.inl rfl) fun w' s3 I3 rw'=>⟨v,_,I3,rw',q2⟩
end
section
variable {X:Cx} {pins:List (Addr×Obj)} {σ:St} {H:Hp} {s:Shared} {a:Addr} {kvs:List (Key×V)} {A:Around} {E:Value->Shared->Prop}
end
section
variable {X:Cx} {pins:List (Addr×Obj)} {σ:St} {H:Hp} {s:Shared} {a:Addr} {y:V} {u:Value} {A:Around} {E:Value->Shared->Prop}
end
end L2
namespace Att
open PySem PySem.W PySem.Calls PyProof.Rows
theorem ints_of_wellAll {P:Params} {h:Heap}:∀ (ns:List Int) (vs:List Value),WellAll P h vs (ns.map WData.int)->IntsAre vs ns:=by
 intro ns
 induction ns with
 | nil =>
  intro vs w
  rw [List.map_nil] at w
  cases w
  exact .nil
 | cons n ns ih =>
  intro vs w
  rw [List.map_cons] at w
  cases w with
  | cons a b =>
   cases a
   exact .cons _ _ (ih _ b)
theorem script_of {l:OpenLaw} {n:Nat} (hn:l.most=some n) {P:Params} {h:Heap} {args:List WData} {vals:List Value}
  (hpre:l.row.toRowW.claim.pre args=true) (hwl:WellAll P h vals args) :
  ∃ a vs ns,vals=[Value.ref a]∧args=[WData.list (ns.map WData.int)]∧h.get? a=some { cls:=.type "list",data:=.seq vs.toArray }∧IntsAre vs ns∧ns.length≤n:=by
 have hsh:WShape.hasAll [] args [.list .int]=true:=(pre_splitW hpre).1
 have hc:l.pre.holds [] { args:=args }=true:=(pre_splitW hpre).2
 obtain ⟨d,r,rfl,h1,h2⟩:=hasAllW_cons hsh
 obtain rfl:=hasAllW_nil h2
 obtain ⟨xs,rfl,h3⟩:=hasW_list h1
 obtain ⟨ns,rfl⟩:=items_int h3
 have hlen:ns.length≤n:=by
  unfold OpenLaw.pre at hc
  have h4:(WTm.not (.lt (.lit (.int (n:Int))) (.len (.arg 0)))).holds [] { args:=[.list (ns.map .int)] }=true:=by
   have h4:=(holds_andW hc).1
   rw [hn] at h4
   exact h4
  have h5:=condW_of h4 (w_not (w_lt w_lit (w_len_list (w_arg rfl))))
  rw [List.length_map] at h5
  refine Nat.le_of_not_lt fun q=>?_
  have q':(n:Int)<((ns.length:Nat):Int):=by omega
  first
   | (rw [decide_eq_true q'] at h5; exact absurd h5 (by decide))
   | (simp at h5; omega)
 cases hwl with
 | cons w1 w2 =>
  cases w2
  cases w1 with
  | list ho hall=>exact ⟨_,_,ns,rfl,rfl,ho,ints_of_wellAll ns _ hall,hlen⟩
theorem post_true (l:OpenLaw) (args:List WData):l.row.toRowW.claim.post args (.bool true) args=true :=
 postW_of (r:=l.row.toRowW) (X:=(true == true))
  (show WShape.has [] (.bool true) .bool=true by first | rfl | decide | simp [WShape.has,WShape.arms,WShape.armsAll])
  (show (WTm.eq .res (.lit (.bool true))).value [] { args:=args,res:=some (.bool true),after:=args }=some (.bool (true == true)) from w_eq_bool (w_res rfl) w_lit) rfl
theorem attach_call {l:OpenLaw} {n:Nat} {q:Program} {loose:List Str} {XP:(Str->Option Value)->Heap->Prop} {YP:World->Heap->Prop} {d:DefRec}
  (hn:l.most=some n) (hdf:d.params.defaults=[])
  (call:∀ (w:World) (s₀ s₁:Shared) (mg mb:Str->Option Value) (fa:Addr) (o:Obj) (pm cd doc:Value) (a:Addr) (vs:List Value) (ns:List Int),
   Ground q loose [] XP w s₀ mg mb s₁.heap->YP w s₁.heap →
   s₁.heap.get? fa=some o->o.data=.func (docDef d.name d.params d.body d.scope pm cd doc)->s₁.heap.CodeRec cd d.name->mg d.name=some (.ref fa) →
   s₁.heap.get? a=some { cls:=.type "list",data:=.seq vs.toArray }->IntsAre vs ns->ns.length≤n->s₁.gens = #[] →
   codeAny (model l.prog w) callerA (.call (.ref fa) ⟨[.ref a],[]⟩) (fun r s'=>r=.ok (.ret (.bool true))∧OldK s₁.heap s'.heap∧s'.os=s₁.os∧AllBare s'.gens) s₁) :
  WalkO q loose XP YP l.row.toRowW d [] (fun f vs=>PySem.call f vs):=by
 intro w s₀ s₁ mg mb G Y fa o pm cd doc dV kV ho hd hcd hD hmg hg args vals as hpre hlay hrd hwl hlo
 obtain rfl:dV=.none:=Dflts.none hD hdf
 obtain rfl:kV=.none:=Dflts.noKw hD
 obtain ⟨a,vs,ns,rfl,rfl,hobj,hints,hlen⟩:=script_of hn hpre hwl
 refine enter_call (codeAny_mono (call w s₀ s₁ mg mb fa o pm cd doc a vs ns G Y ho (fd_plain hd) hcd hmg hobj hints hlen hg) fun r s' hq=>?_)
 obtain ⟨rfl,h2,h3,h4⟩:=hq
 exact ⟨.inl ⟨.bool true,.bool true,[],rfl,fun _=>rfl,.bool true,post_true l _,fun _=>⟨List.Pairwise.nil,fun _ hm=>(nomatch hm)⟩⟩,h2,h3,h4⟩
section
variable {prog:Program} {w:World} {A:Around} {E:Value->Shared->Prop} {s:Shared} {K:Frag}
def ledger (h:Heap) (L d:Addr):List (Addr×Obj):=(List.range h.objs.size).filterMap fun a=>if a=L∨a=d then none else (h.get? a).map fun o=>(a,o)
end
end Att
namespace L2
open PySem PySem.Spec PyProof.Rows
theorem vals_ints:∀ {vs:List Value} {ns:List Int},IntsAre vs ns->Vals (ns.map V.int) vs
 | _,_,.nil=>.nil
 | _,_,.cons n t h=>.cons ⟨t,rfl⟩ (vals_ints h)
def Only (H:Hp):Prop:=∀ b,H b=none∨∃ o xs,H b=some (.frz o (.lst xs))
theorem law_call {P:Program} {w:World} {K:PySem.W.Frag} {mg mb:Str->Option Value} {CX:CXT} {k:Nat} {fa a:Addr} {fd:FuncData} {x:Str} {sp:Sp} {s₁:Shared} {vs:List Value} {ns:List Int}
  (KX:K.In s₁.heap) (hns:s₁.heap.Ns mainGlobals mg) (hb:s₁.heap.Ns builtinsNs mb) (hbb:∀ x:Str,x≠"__name__"->mb x=bootBuiltins x) (hlim:s₁.heap.NoLimit) (hg:s₁.gens = #[])
  (ha:s₁.heap.get? a=some { cls:=.type "list",data:=.seq vs.toArray }) (hi:IntsAre vs ns) (hl:ns.length≤sizeLine) (hr:Room k callerA)
  (F:∀ base:Heap,K.In base->base.Ns mainGlobals mg->FnOk P w K mg base CX k fa fd [x] sp) (hbind:∀ (s:Shared) (u:Value),BindsTo s fd ⟨[u],[]⟩ [(x,u)])
  (hsp:∀ H:Hp,Only H->SqL K H a (ns.map V.int)->sp [.ref a] H (fun v _=>v=.bl true) fun _ _ _=>False)
  (hCX:∀ H e s',CX [] H s₁ (fun _ _ _=>False) e s'->False) :
  codeAny (model P w) callerA (.call (.ref fa) ⟨[.ref a],[]⟩) (fun r s'=>r=.ok (.ret (.bool true))∧OldK s₁.heap s'.heap∧s'.os=s₁.os∧AllBare s'.gens) s₁:=by
 have rv:=vals_ints hi
 have lenV:=hi.length
 have core:∀ H:Hp,Only H->SqL K H a (ns.map V.int)->HOk P w H s₁.heap->(∀ b,H b≠none->b=a)->(H a≠none->K.lookup a=none) →
   codeAny (model P w) callerA (.call (.ref fa) ⟨[.ref a],[]⟩) (fun r s'=>r=.ok (.ret (.bool true))∧OldK s₁.heap s'.heap∧s'.os=s₁.os∧AllBare s'.gens) s₁:=by
  intro H hO hS hok hA hK
  have base_of:∀ {b:Addr} {o:Obj},s₁.heap.get? b=some o->H b=none->(hidT s₁.heap H).get? b=some o:=fun e n=>hidT_get e n
  have noA:∀ {b:Addr} {o:Obj} {es:Array DictEntry} {ep:Nat},s₁.heap.get? b=some o->o.data=.dict es ep->H b=none:=fun {b o es ep} e d=>by
   cases q:H b with
   | none=>rfl
   | some u =>
    have e':b=a:=hA b (by rw [q]; simp)
    subst e'
    rw [ha] at e; cases e
    have d':Data.seq vs.toArray _=Data.dict es ep:=d
    cases d'
  have nsK:∀ {b:Addr} {m:Str->Option Value},s₁.heap.Ns b m->(hidT s₁.heap H).Ns b m:=fun {b m} ⟨o,es,ep,e,d,r⟩=>⟨o,es,ep,base_of e (noA e d),d,r⟩
  have hKb:K.In (hidT s₁.heap H):=fun b o e=>base_of (KX b o e) (by
   cases q:H b with
   | none=>rfl
   | some u =>
    have e':b=a:=hA b (by rw [q]; simp)
    subst e'
    rw [hK (by rw [q]; simp)] at e; cases e)
  have hM:Mod K mg (hidT s₁.heap H):=⟨hKb,nsK hns,⟨mb,nsK hb,hbb⟩,let ⟨mc,h1,h2⟩:=hlim; ⟨mc,nsK h1,h2⟩⟩
  have e0:Env0 P w K mg (hidT s₁.heap H) callerA [] s₁ H:=⟨rfl,hM,fun b o e=>of_hidT e,Nat.le_of_eq (hidT_size _ _),trivial,fun b hb=>absurd (show b∈([]:List Addr) from hb) (by simp),hok,.of_eq hg⟩
  refine codeAny_mono ((F _ hKb (nsK hns)).run callerA [] s₁ H ⟨[.ref a],[]⟩ [.ref a] [.ref a] _ _ hr e0 (hbind s₁ (.ref a)) (.cons rfl .nil) (hsp H hO hS)) fun r s' h=>?_
  cases r with
  | error e=>exact (hCX H e s' h).elim
  | ok fl =>
   cases fl with
   | next=>exact False.elim h
   | brk=>exact False.elim h
   | cont=>exact False.elim h
   | ret u =>
    obtain ⟨v,H',os,bare,un,hok',r',q⟩:=h
    have q':v=.bl true:=q
    subst q'
    obtain rfl:u=Value.bool true:=r'
    refine ⟨rfl,OldK.of_keep fun b o e=>?_,os,bare⟩
    cases q:H b with
    | none=>exact un.keep b o e q (by intro z; exact absurd (show b∈([]:List Addr) from z) (by simp)) (by simp)
    | some u =>
     rcases hO b with z | ⟨ob,xs,z⟩
     ·rw [q] at z; cases z
     ·have z2:=un.frzs b ob _ z
      obtain ⟨e1,_⟩:=hok b _ z
      obtain ⟨e2,_⟩:=hok' b _ z2
      rw [e] at e1; cases e1
      exact e2
 cases hk:K.lookup a with
 | some o =>
  have e:=KX a o hk
  rw [ha] at e
  cases e
  refine core (fun _=>none) (fun _=>.inl rfl) (.inr ⟨_,vs.toArray,_,hk,rfl,rfl,rfl,by rw [List.size_toArray,lenV]; exact hl,by simpa using rv⟩) (fun b u z=>by have z':(none:Option HO)=some u:=z; cases z') (fun b z=>absurd rfl z) fun z=>absurd rfl z
 | none =>
  refine core (fun b=>if b=a then some (.frz { cls:=.type "list",data:=.seq vs.toArray } (.lst (ns.map V.int))) else none) (fun b=>?_) (.inl (.inr ⟨{ cls:=.type "list",data:=.seq vs.toArray },if_pos rfl⟩)) (fun b u z=>?_) (fun b z=>?_) fun _=>hk
  ·by_cases hb:b=a
   ·exact .inr ⟨_,_,if_pos hb⟩
   ·exact .inl (if_neg hb)
  ·by_cases hb:b=a
   ·have z':=(if_pos hb).symm.trans z
    cases z'
    subst hb
    exact ⟨ha,by rw [List.length_map]; exact hl,vs,_,rv,ha⟩
   ·have z':=(if_neg hb).symm.trans z
    cases z'
  ·by_cases hb:b=a
   ·exact hb
   ·exact absurd (if_neg hb) z
end L2
namespace L2
open PySem PySem.Spec PyProof.Rows
abbrev KOf {K:PySem.W.Frag} {h:Heap} (_:K.In h):PySem.W.Frag:=K
theorem walk_of {l:PySem.W.OpenLaw} {n k:Nat} {q:Program} {loose:List Str} {XP:(Str->Option Value)->Heap->Prop} {YP:World->Heap->Prop} {d:DefRec} {K:Params->PySem.W.Frag} {CX:World->CXT} {sp:World->Sp} {x:Str}
  (hn:l.most=some n) (hn2:n≤sizeLine) (hdf:d.params.defaults=[]) (hr:Room k callerA)
  (hY:∀ (w:World) (h:Heap),YP w h->(K w.params).In h)
  (F:∀ (w:World) (mg:Str->Option Value) (fa:Addr) (h:Heap),(K w.params).In h->h.Ns mainGlobals mg->mg d.name=some (.ref fa) →
   ∃ fd:FuncData,(∀ (s:Shared) (u:Value),BindsTo s fd ⟨[u],[]⟩ [(x,u)]) ∧
    ∀ base:Heap,(K w.params).In base->base.Ns mainGlobals mg->FnOk l.prog w (K w.params) mg base (CX w) k fa fd [x] (sp w))
  (hsp:∀ (w:World) (H:Hp) (a:Addr) (ns:List Int),ns.length≤n->Only H->SqL (K w.params) H a (ns.map V.int)->sp w [.ref a] H (fun v _=>v=.bl true) fun _ _ _=>False)
  (hCX:∀ (w:World) (H:Hp) (s:Shared) (e:Value) (s':Shared),CX w [] H s (fun _ _ _=>False) e s'->False) :
  PySem.W.WalkO q loose XP YP l.row.toRowW d [] (fun f vs=>PySem.call f vs):=by
 refine Att.attach_call hn hdf fun w s₀ s₁ mg mb fa o pm cd doc a vs ns G Y ho hd hcd hmg hobj hints hlen hg=>?_
 have KX:=hY w _ Y
 obtain ⟨fd,hb,hF⟩:=F w mg fa _ KX G.T.g hmg
 exact law_call KX G.T.g G.T.b G.T.builtins G.T.nolimit hg hobj hints (Nat.le_trans hlen hn2) hr hF hb (fun H hO hS=>hsp w H a ns hlen hO hS) fun H e s'=>hCX w H s₁ e s'
end L2
/- THE LAST THEOREM (shape; LID, My.* are yours):
   My.Adr: a structure of the addresses that your layer names (classes, functions); My.Txt K t: a structure (Prop) of the equations over K;
   My.txt_mk : {K} {implicit addresses ..} (e1 : nsIn K mainGlobals "law" = some (some (.ref f))) (e2 : K.lookup f = some ⟨oc, od, .func (fnOf "law" "law" params body scope dV kV doc pm an cdv ct), sl⟩) (e3 : codeIn K cdv "law" = true) .. : ∃ t, My.Txt K t
set_option maxRecDepth 100000 in
set_option maxHeartbeats 0 in
theorem PySem.Challenge.cw_LID_holds : PySem.Challenge.rw_LID.Holds := by
  w_on; o_law; k_head; (case hw => w_witness2)
  k_fill
  refine L2.walk_of (l := PySem.Challenge.rw_LID) (n := 63) (k := 40) (x := "script") (CX := fun w => ..) (sp := fun _ => My.sp_law) rfl (by decide) rfl ⟨rfl, by decide, by decide⟩ (fun w h Y => PySem.W.kIn_of Y) ?F ?S ?C
  case F =>
    intro w mg fa h KX G hmg
    have T : ∃ t, My.Txt (L2.KOf KX) t := by
      dsimp only [L2.KOf]                          -- K must stand as «<heap const> w.params» for k_is
      refine' My.txt_mk ?e1 ?e2 ?e3 ..
      (case e1 => PySem.W.k_is)                    -- in the order: a name -> its address -> its object -> its parts
      (case e2 => PySem.W.k_is)
      ..
    obtain ⟨t, T⟩ := T
    have e0 := hmg.symm.trans (PySem.W.mg_of KX G T.law)
    cases e0                                       -- fa is the law's own address
    exact ⟨_, fun s u => .of_eq rfl, fun base kb nb => My.law_fn T kb nb⟩     -- if «.of_eq rfl» comes too early: refine' ⟨_, ?b, fun base kb nb => My.law_fn T kb nb⟩; exact fun s u => .of_eq rfl
  case S => exact fun w H a ns hl hO hS => ..
  case C => exact ..
(the tactic k_is has no namespace: write k_is) -/
namespace L2
open PySem PySem.Spec PyProof.Rows
def inClass (s:Stmt) (j:Nat):Stmt:=match s with
 | .ClassDef _ _ _ body _ _ _ _ _ _ _=>body.getD j (.Pass ⟨0,0,0,0⟩)
 | _=>.Pass ⟨0,0,0,0⟩
def defArgs (s:Stmt):Arguments:=match s with
 | .FunctionDef _ a _ _ _ _ _ _ _ _=>a
 | _=>{ posonlyargs:=[],args:=[],vararg:=none,kwonlyargs:=[],kw_defaults:=[],kwarg:=none,defaults:=[] }
def defBody (s:Stmt):List Stmt:=match s with
 | .FunctionDef _ _ b _ _ _ _ _ _ _=>b
 | _=>[]
def defScope (s:Stmt):Scope:=match s with
 | .FunctionDef _ _ _ _ _ _ sc _ _ _=>sc
 | _=>{ kind:=.function,names:=[],isGenerator:=false,isCoroutine:=false }
abbrev CX0:CXT:=fun _ _ _ _ _ _=>False
abbrev E0:XK:=fun _ _ _=>False
theorem pass0 {X:Cx}:Passes CX0 X E0:=fun _ _ _ _ _ _ _ h=>h.elim
structure Fun (K:PySem.W.Frag) (x qual:Str) (st:Stmt) (f:Addr) (fd:FuncData):Prop where
 ex:∃ (oc:Value) (od:Option Addr) (kV doc pm:Value) (an:Option Addr) (cdv ct:Value) (osl:Array (Option Value)),
  fd=PySem.W.fnOf x qual (defArgs st) (defBody st) (defScope st) .none kV doc pm an cdv ct∧K.lookup f=some ⟨oc,od,.func fd,osl⟩∧PySem.W.codeIn K cdv qual=true
 kp:PySem.W.keepIn K (.ref f)=true
section
variable {P:Program} {w:World} {K:PySem.W.Frag} {mg:Str->Option Value} {base:Heap}
theorem Fun.ok {x qual:Str} {st:Stmt} {f:Addr} {fd:FuncData} {N ps:List Str} {k:Nat} {sp:Sp} (F:Fun K x qual st f fd) (S:FnScope N ps (defScope st)) (len:∀ vs H Q E,sp vs H Q E->vs.length=ps.length)
  (hbody:∀ (cdv:Value) (A:Around) (outer:List Env) (s:Shared) (H:Hp) (vs:List V) (Q:VK) (E:XK),Room k (A.deeper (envOfC qual (defScope st) s.heap.objs.size f cdv))->sp vs H Q E →
   ∃ t,PSs (cxOf CX0 P w K mg base N qual (defScope st) f cdv A outer s H E).nox (defBody st) t∧t { nx:=fun _ H'=>Q .non H',rt:=Q } (start N vs) H):FnOk P w K mg base CX0 (k+1) f fd ps sp:=by
 obtain ⟨oc,od,kV,doc,pm,an,cdv,ct,osl,rfl,lk,hcd⟩:=F.ex
 refine fn_of lk hcd S len fun A outer s H vs Q E hr hsp=>?_
 obtain ⟨t,h,q⟩:=hbody cdv A outer s H vs Q E hr hsp
 exact ⟨t,h.nox,q⟩
theorem Fun.binds {x qual:Str} {st:Stmt} {f:Addr} {fd:FuncData} {ps:List Str} (F:Fun K x qual st f fd)
  (h:∀ (kV doc pm:Value) (an:Option Addr) (cdv ct:Value) (us:List Value),us.length=ps.length->bindArgs (PySem.W.fnOf x qual (defArgs st) (defBody st) (defScope st) .none kV doc pm an cdv ct) ⟨us,[]⟩=pure (ps.zip us)):Binds K fd ps []:=by
 obtain ⟨oc,od,kV,doc,pm,an,cdv,ct,osl,rfl,lk,hcd⟩:=F.ex
 exact .all (h kV doc pm an cdv ct)
theorem fun_mk {x qual:Str} {st:Stmt} {f:Addr} {oc:Value} {od an:Option Addr} {osl:Array (Option Value)} {kV doc pm cdv ct:Value} (l:K.lookup f=some ⟨oc,od,.func (PySem.W.fnOf x qual (defArgs st) (defBody st) (defScope st) .none kV doc pm an cdv ct),osl⟩)
  (c:PySem.W.codeIn K cdv qual=true) (k:PySem.W.keepIn K (.ref f)=true):Fun K x qual st f (PySem.W.fnOf x qual (defArgs st) (defBody st) (defScope st) .none kV doc pm an cdv ct):=⟨⟨oc,od,kV,doc,pm,an,cdv,ct,osl,rfl,l,c⟩,k⟩
end
theorem hu_of {A:Around} {k:Nat} (hr:Room k A):A.units+1<cLine:=Nat.lt_of_le_of_lt (Nat.add_le_add_left (by decide:1≤64) _) hr.units
section
variable {X:Cx}
theorem pv (i:Nat) {x:Str} {pos:Pos} (hN:X.N[i]?=some x:=by rfl) (hv:Vis X.env.scope x:=by first | exact Or.inl rfl | exact Or.inr (Or.inl rfl) | exact Or.inr (Or.inr rfl)) (hd:(x == ("__debug__":Str))=false:=by decide)
  (hcd:(x == ("__classdict__":Str))=false:=by decide):PE X (.Name x pos) (tVar i):=pe_var hN hv hd hcd
end
theorem iteF {A B:Prop} (h:B):if false=true then A else B:=by
 rw [if_neg Bool.false_ne_true]
 exact h
theorem iteT {A B:Prop} (h:A):if true=true then A else B:=by
 rw [if_pos rfl]
 exact h
theorem ite2 {c A B:Prop} [Decidable c] (h1:c->A) (h2:¬ c->B):if c then A else B:=by
 by_cases h:c
 ·rw [if_pos h]
  exact h1 h
 ·rw [if_neg h]
  exact h2 h
theorem iteNS {c A B:Prop} [Decidable c] (hc:c) (h:B):if (!decide c)=true then A else B:=by
 rw [decide_eq_true hc]
 exact iteF h
def Same (H H':Hp):Prop:=∀ b o,H b=some o->H' b=some o
theorem Same.refl (H:Hp):Same H H:=fun _ _ h=>h
theorem Same.trans {H H1 H2:Hp} (a:Same H H1) (b:Same H1 H2):Same H H2:=fun c o h=>b c o (a c o h)
theorem Same.free {H H':Hp} (e:Same H H') {l:Addr} (h:H' l=Option.none):H l=Option.none:=by
 cases q:H l with
 | none=>rfl
 | some o =>
  rw [e l o q] at h
  cases h
theorem Same.seq {K:PySem.W.Frag} {H H':Hp} {a:Addr} {xs:List V} (e:Same H H') (h:SqL K H a xs):SqL K H' a xs:=by
 rcases h with (h | ⟨o,h⟩) | h
 ·exact .inl (.inl (e _ _ h))
 ·exact .inl (.inr ⟨o,e _ _ h⟩)
 ·exact .inr h
end L2
namespace L2
open PySem PySem.Spec PyProof.Rows
section
variable {X:Cx}
theorem call_lenD:CallR X (.builtin "len") (fun xs H Q=>∃ a kvs,xs=[V.ref a]∧H a=some (.dK kvs)∧Q (.int kvs.length) H):=by
 intro pins s σ H xs us Q I r h
 obtain ⟨a,kvs,rfl,ha,q⟩:=h
 obtain ⟨u,rfl,ru⟩:=vals1 r
 cases ru
 exact d_len I (.inl ha) fun t s' I'=>⟨.int kvs.length,H,I',⟨t,rfl⟩,q⟩
end
section
variable {κ:Type} [DecidableEq κ]
theorem dropK_pos {p:κ×V} {r:List (κ×V)} {k:κ} (e:p.1=k):dropK (p :: r) k=dropK r k:=by
 unfold dropK
 rw [List.filter_cons,if_neg (by simp [e])]
theorem dropK_neg {p:κ×V} {r:List (κ×V)} {k:κ} (e:¬ p.1=k):dropK (p :: r) k=p :: dropK r k:=by
 unfold dropK
 rw [List.filter_cons,if_pos (by simp [e])]
end
end L2
namespace L2
open PySem
def DK (h h':Heap):Prop:=∀ a o,h.get? a=some o->∃ o',h'.get? a=some o'∧o'.dict=o.dict
theorem DK.refl (h:Heap):DK h h:=fun _ o e=>⟨o,e,rfl⟩
theorem DK.trans {h1 h2 h3:Heap} (x:DK h1 h2) (y:DK h2 h3):DK h1 h3:=fun a o e=>by
 obtain ⟨o1,e1,d1⟩:=x a o e
 obtain ⟨o2,e2,d2⟩:=y a o1 e1
 exact ⟨o2,e2,d2.trans d1⟩
theorem not_freed {h:Heap} {a:Addr} {o:Obj} (e:h.get? a=some o):o.isFreed=false:=by
 unfold Heap.get? at e
 split at e
 ·cases e
 ·rename_i x hx
  obtain ⟨c,d,dt,sl⟩:=o
  cases dt <;> first | rfl | (exact absurd e (hx _ _ _))
theorem DK.upd {h:Heap} {a:Addr} {f:Obj->Obj} (hf:∀ o,(f o).dict=o.dict∧(f o).isFreed=o.isFreed):DK h (h.update a f):=fun b o e=>by
 by_cases hb:a=b
 ·subst hb
  exact ⟨f o,Heap.get?_update_self f e ((hf o).2.trans (not_freed e)),(hf o).1⟩
 ·exact ⟨o,(Heap.get?_update_other h f hb).trans e,rfl⟩
theorem DK.push (h:Heap) (x:Obj):DK h (h.push x):=fun _ o e=>⟨o,Heap.get?_push_of_some x e,rfl⟩
structure KpD {α:Type} (t:Sem α):Prop where
 out:∀ (M:Model) (Γ:Ctx) (Q:α->Pos->Shared->Prop) (E:Value->Pos->Shared->Prop) (p:Pos) (s:Shared),Sem.wp M Γ t Q E p s->Sem.wp M Γ t (fun a p' s'=>Q a p' s'∧DK s.heap s'.heap) E p s
namespace KpD
variable {α β:Type}
theorem pure (a:α):KpD (Pure.pure a:Sem α):=⟨fun _ _ _ _ _ s h=>⟨h,DK.refl _⟩⟩
theorem unsupported (w:String):KpD (PySem.unsupported w:Sem α):=⟨fun _ _ _ _ _ _ h=>h⟩
theorem bind {m:Sem α} {f:α->Sem β} (hm:KpD m) (hf:∀ a,KpD (f a)):KpD (m >>= f):=⟨fun M Γ Q E p s h=>by
 rw [Sem.wp_bind'] at h ⊢
 refine Sem.wp_mono M Γ m (fun a p' s' ⟨q,k⟩=>?_) (fun _ _ _ z=>z) p s (hm.out M Γ _ E p s h)
 exact Sem.wp_mono M Γ (f a) (fun b p2 s2 ⟨q2,k2⟩=>⟨q2,k.trans k2⟩) (fun _ _ _ z=>z) p' s' ((hf a).out M Γ Q E p' s' q)⟩
theorem ite {c:Prop} [Decidable c] {t u:Sem α} (ht:KpD t) (hu:KpD u):KpD (if c then t else u):=by split <;> assumption
theorem load (a:Addr):KpD (PySem.load a):=⟨fun _ _ _ _ _ _ h=>by
 obtain ⟨o,e,q⟩:=h
 exact ⟨o,e,q,DK.refl _⟩⟩
theorem stack:KpD PySem.stack:=⟨fun _ _ _ _ _ _ h=>⟨h,DK.refl _⟩⟩
theorem update (a:Addr) {f:Obj->Obj} (hf:∀ o,(f o).dict=o.dict∧(f o).isFreed=o.isFreed):KpD (PySem.update a f):=⟨fun _ _ _ _ _ _ h=>⟨h.1,h.2,DK.upd hf⟩⟩
theorem alloc (x:Obj):KpD (PySem.alloc x):=⟨fun _ _ _ _ _ _ h=>⟨h,DK.push _ _⟩⟩
theorem field (v:Value) (i:Nat):KpD (PySem.field v i):=⟨fun M Γ Q E p s h=>by
 rw [wp_field_iff] at h ⊢
 obtain ⟨a,o,vs,x,e,ho,hd,hx,q⟩:=h
 exact ⟨a,o,vs,x,e,ho,hd,hx,q,DK.refl _⟩⟩
theorem mapF (g:Array Value->Array Value) (o:Obj):(o.mapFields g).dict=o.dict∧(o.mapFields g).isFreed=o.isFreed:=by
 obtain ⟨c,d,dt,sl⟩:=o
 cases dt <;> exact ⟨rfl,rfl⟩
theorem setField (v:Value) (i:Nat) (x:Value):KpD (PySem.setField v i x):=⟨fun M Γ Q E p s h=>by
 rw [wp_setField_iff] at h ⊢
 obtain ⟨a,o,vs,e,ho,hd,hi,q⟩:=h
 exact ⟨a,o,vs,e,ho,hd,hi,q,DK.upd (mapF _)⟩⟩
theorem newFields (ty:String) (vs:List Value):KpD (PySem.newFields ty vs):=by
 unfold PySem.newFields newObj newObjAsIs
 dsimp only
 split
 all_goals repeat' with_reducible first
  | exact unsupported _
  | exact alloc _
  | exact pure _
  | apply bind
  | intro _
theorem slotF (g:Obj->Array (Option Value)) (o:Obj):({ o with slots:=g o }:Obj).dict=o.dict∧({ o with slots:=g o }:Obj).isFreed=o.isFreed:=by
 obtain ⟨c,d,dt,sl⟩:=o
 cases dt <;> exact ⟨rfl,rfl⟩
end KpD
local macro_rules
 | `(tactic| trivial)=>`(tactic| (repeat' with_reducible first
  | assumption
  | exact KpD.pure _
  | exact KpD.unsupported _
  | exact KpD.field _ _
  | exact KpD.setField _ _ _
  | exact KpD.newFields _ _
  | exact KpD.load _
  | exact KpD.update _ (KpD.slotF _)
  | exact KpD.stack
  | exact KpD.alloc _
  | apply KpD.ite
  | apply KpD.bind
  | intro _
  | split))
theorem kpd_behind (env:Env) (outer:List Env):KpD (behindIsImport env outer):=by unfold behindIsImport; trivial
theorem kpd_under:KpD underTheClaimsCaller:=by unfold underTheClaimsCaller; trivial
theorem kpd_kept (env:Env) (i:Bool) (l:List Env):KpD (keptBack env i l):=by
 have:=kpd_under
 cases l <;> unfold keptBack <;> trivial
theorem kpd_ready:∀ l:List Env,KpD (readyFrames l)
 | []=>KpD.pure _
 | env :: outer=>by
  have ih:=kpd_ready outer
  have h1:=kpd_behind env outer
  have h2:=fun i=>kpd_kept env i outer
  unfold readyFrames
  trivial
  all_goals first | exact h2 _ | exact KpD.update _ (KpD.slotF _)
theorem kpd_obj (l:List Env):KpD (frameObject l):=by
 cases l with
 | nil=>exact KpD.pure _
 | cons env outer =>
  have:=kpd_ready (env :: outer)
  unfold frameObject
  trivial
theorem kpd_envs:KpD frameEnvs:=by unfold frameEnvs; trivial
theorem kpd_frameOf (env:Env):KpD (frameOf env):=by
 have h1:=kpd_envs
 have h2:=kpd_obj
 unfold frameOf
 trivial
 all_goals exact h2 _
theorem kpd_place (f:Addr) (b:Bool):KpD (entryPlaceOf f b):=by unfold entryPlaceOf; trivial
theorem kpd_flight (e:Value) (f:Option Addr):KpD (setFlight e f):=by unfold setFlight; trivial
theorem kpd_note (e:Value) (env:Env):KpD (noteFrame e env):=by
 have h1:=kpd_frameOf env
 have h2:=kpd_place
 unfold noteFrame EntryCells.newEntry
 trivial
 all_goals exact h2 _ _
theorem kpd_leaving (env:Env) (e:Value):KpD (leaving env e):=by
 unfold leaving
 exact KpD.bind (kpd_note e env) fun _=>kpd_flight e none
theorem dk_any {α:Type} {M:Model} {A:Around} {t:Sem α} {Q Q':α->Shared->Prop} {E:Value->Shared->Prop} {s:Shared} (k:KpD t) (h:wpAny M A t Q' E s) (hQ:∀ a s',Q' a s'->DK s.heap s'.heap->Q a s'):wpAny M A t Q E s:=fun Γ p hΓ =>
 Sem.wp_mono M Γ t (fun a _ s' ⟨q,d⟩=>hQ a s' q d) (fun _ _ _ z=>z) p s (k.out M Γ _ _ p s (h Γ p hΓ))
end L2
namespace L2
open PySem PySem.Spec PyProof.Rows
theorem objOk_get {P:Program} {w:World} {H:Hp} {h:Heap} {a:Addr} {o:HO} (x:ObjOk P w H h a o):∃ u,h.get? a=some u:=by
 cases o with
 | lst xs=>obtain ⟨_,_,_,_,e⟩:=x; exact ⟨_,e⟩
 | tup xs=>obtain ⟨_,_,_,_,u,e,_⟩:=x; exact ⟨u,e⟩
 | dK kvs=>obtain ⟨_,_,_,_,u,_,_,e,_⟩:=x; exact ⟨u,e⟩
 | dT kvs=>obtain ⟨_,_,_,_,u,_,_,e,_⟩:=x; exact ⟨u,e⟩
 | set S n=>obtain ⟨u,_,_,_,e,_⟩:=x; exact ⟨u,e⟩
 | ins C dx fs=>obtain ⟨_,_,_,e,_⟩:=x; exact ⟨_,e⟩
 | own y=>exact x
 | xd fs=>obtain ⟨_,⟨u,_,_,e,_⟩,_⟩:=x; exact ⟨u,e⟩
 | rng lo hi=>obtain ⟨_,_,_,e⟩:=x; exact ⟨_,e⟩
 | frz ob u=>obtain ⟨e,_⟩:=x; exact ⟨_,e⟩
 | tbl ps=>exact ⟨_,x⟩
 | met f y=>exact ⟨_,x⟩
 | ext φ=>obtain ⟨_,e,_⟩:=x; exact e
theorem free_of_none {P:Program} {w:World} {H:Hp} {h:Heap} {a:Addr} (x:HOk P w H h) (e:h.get? a=none):H a=none:=by
 cases q:H a with
 | none=>rfl
 | some o =>
  obtain ⟨u,z⟩:=objOk_get (x a o q)
  rw [e] at z
  cases z
def FlyD (B:Heap) (l:List Env) (a:Addr) (cls:Value) (t:Addr) (od:Option Addr) (h:Heap):Prop:=Heap.FlyingW B l a cls (.ref t) h∧∃ o,h.get? a=some o∧o.dict=od
theorem FlyD.there {B h:Heap} {l:List Env} {a t:Addr} {cls:Value} {od:Option Addr} (x:FlyD B l a cls t od h):∃ o,h.get? a=some o∧o.cls=cls∧o.dict=od∧∃ vs,o.data=.fields vs:=by
 obtain ⟨o,e,d⟩:=x.2
 obtain ⟨o2,vs,e2,c,f,_⟩:=x.1.first
 rw [e] at e2
 cases e2
 exact ⟨o,e,c,d,vs,f⟩
theorem DK.dict {h h':Heap} {a:Addr} {od:Option Addr} (k:DK h h') (x:∃ o,h.get? a=some o∧o.dict=od):∃ o,h'.get? a=some o∧o.dict=od:=by
 obtain ⟨o,e,d⟩:=x
 obtain ⟨o',e',d'⟩:=k a o e
 exact ⟨o',e',d'.trans d⟩
def CXr (P:Program) (w:World):CXT:=fun outer H s E e s' =>
 ∃ (a t:Addr) (cls:Value) (od:Option Addr) (B:Heap) (H':Hp),e=.ref a∧s'.os=s.os∧AllBare s'.gens∧Un (frs outer) [] H H' s.heap s'.heap ∧
  (∀ b o,s.heap.get? b=some o->H b=none->b∉frs outer->B.get? b=some o)∧(∀ b o,s.heap.get? b=some o->b∉frs outer->∃ o',B.get? b=some o') ∧
  HOk P w H' B∧FlyD B outer a cls t od s'.heap∧s.heap.get? a=none∧H' a=none∧E cls od H'
def excO (a:Addr) (cls:Value) (od:Option Addr):HO:=.ext fun h=>∃ o,h.get? a=some o∧o.cls=cls∧o.dict=od∧∃ vs,o.data=.fields vs
theorem excO_ok {P:Program} {w:World} {H:Hp} {h:Heap} {a:Addr} {cls:Value} {od:Option Addr} {o:Obj} (e:h.get? a=some o) (c:o.cls=cls) (d:o.dict=od∧∃ vs,o.data=.fields vs):ObjOk P w H h a (excO a cls od) :=
 ⟨⟨o,e,c,d⟩,⟨o,e⟩,fun _ _ ⟨u,q,z⟩ k=>⟨u,k u q,z⟩⟩
def Caught (X:Cx) (pins:List (Addr×Obj)) (σ:St) (a:Addr) (cls:Value) (od:Option Addr) (H':Hp) (s':Shared):Prop :=
 ∃ (B:Heap) (t:Addr),FlyD B X.stack a cls t od s'.heap∧H' a=none∧∀ h'',FlyD B X.stack a cls t od h''->s'.heap.UpToSlots h'' →
  Inv X pins σ H' { s' with heap:=h'' }∧Inv X pins σ (upd H' a (excO a cls od)) { s' with heap:=h'' }
section
variable {X:Cx} {pins:List (Addr×Obj)} {σ:St} {H:Hp} {s s':Shared} {E:XK} {e:Value}
theorem fly_inv (I:Inv X pins σ H s) (h:CXr X.prog X.w X.stack H s E e s'):∃ a cls od H',e=.ref a∧E cls od H'∧Caught X pins σ a cls od H' s':=by
 obtain ⟨a,t,cls,od,B,H',rfl,os,bare,u,kB,tB,hok,fl,na,nH,hE⟩:=h
 refine ⟨a,cls,od,H',rfl,hE,B,t,fl,nH,fun h'' flD' up=>?_⟩
 have fl':=flD'.1
 have fr:=I.stack
 have un:Un (frs X.stack) [] H H' s.heap h'':=by
  refine ⟨fun b o q n hb _=>fl'.1 b o (kB b o q n hb),fun b o q n hb hx=>?_,u.free,fun b o q hx=>?_,u.tups,u.frzs,u.tbls⟩
  ·obtain ⟨sl,q1⟩:=u.slot b o q n hb hx
   obtain ⟨_,o2,q2,nf⟩:=fr.mem hb
   rw [q] at q2
   cases q2
   obtain ⟨sl',q3⟩:=up b _ q1 nf
   exact ⟨sl',q3⟩
  ·by_cases hb:b∈frs X.stack
   ·obtain ⟨sl,q1⟩:=u.slot b o q (I.stkFree b hb) hb hx
    obtain ⟨_,o2,q2,nf⟩:=fr.mem hb
    rw [q] at q2
    cases q2
    obtain ⟨sl',q3⟩:=up b _ q1 nf
    exact ⟨_,q3⟩
   ·obtain ⟨o',q'⟩:=tB b o q hb
    exact ⟨o',fl'.1 b o' q'⟩
 have ok':HOk X.prog X.w H' h'':=hok.kept fl'.1
 have neA:∀ b o,s.heap.get? b=some o->b≠a:=fun b o q z=>by rw [z,na] at q; cases q
 have inS:∀ b o,H b=some o->b≠a:=fun b o q=>by
  obtain ⟨v,z⟩:=objOk_get (I.hok b o q)
  exact neA b v z
 refine ⟨I.call' (s':={ s' with heap:=h'' }) os un ok' bare fun b z=>absurd z (by simp),?_⟩
 refine I.call' (s':={ s' with heap:=h'' }) os ⟨un.keep,un.slot,fun b o q n hx=>?_,un.there,fun b xs q=>?_,fun b o v q=>?_,fun b ps q=>?_⟩ (fun b o q=>?_) bare fun b z=>absurd z (by simp)
 ·rw [upd_ne (neA b o q)]
  exact un.free b o q n hx
 ·rw [upd_ne (inS b _ q)]
  exact un.tups b xs q
 ·rw [upd_ne (inS b _ q)]
  exact un.frzs b o v q
 ·obtain ⟨more,z⟩:=un.tbls b ps q
  exact ⟨more,by rw [upd_ne (inS b _ q)]; exact z⟩
 ·by_cases hb:b=a
  ·subst hb
   rw [upd_same] at q
   cases q
   obtain ⟨ob,z1,z2,z3⟩:=flD'.there
   exact excO_ok z1 z2 z3
  ·rw [upd_ne hb] at q
   refine (ok' b o q).stay (fun c v _ z=>z) (fun c z=>?_) fun c xs z=>?_
   ·rw [upd_ne (ne_of_none z nH)]
    exact z
   ·rw [upd_ne (ne_of_none z nH)]
    exact z
end
section
variable {P:Program} {w:World} {K:PySem.W.Frag} {mg:Str->Option Value} {base:Heap} {N:List Str} {qual:Str} {scope:Scope} {f:Addr} {cd:Value} {A:Around} {outer:List Env} {s₀:Shared} {H₀:Hp} {E:XK}
theorem pass_out:Passes (CXr P w) (cxOf (CXr P w) P w K mg base N qual scope f cd A outer s₀ H₀ E) E:=by
 intro pins σ H s e s' I h
 obtain ⟨a,t,cls,od,B,H',rfl,os,bare,u,kB,tB,hok,fl,na,nH,hE⟩:=h
 have sub:∀ b,b∈frs outer->b∈frs (envOfC qual scope s₀.heap.objs.size f cd :: outer):=fun b hb=>by
  show b∈List.filterMap _ (_ :: outer)
  rw [List.filterMap_cons]
  exact List.mem_cons_of_mem _ hb
 have noL:∀ b o,s₀.heap.get? b=some o->b∉frs outer->b∉frs (envOfC qual scope s₀.heap.objs.size f cd :: outer):=fun b o q hb z=>by
  rcases List.mem_cons.mp (I.stkSub b z) with z | z
  ·exact absurd (Heap.lt_size q) (by rw [z]; exact Nat.lt_irrefl _)
  ·exact hb z
 have nex:∀ b:Addr,b∉([]:List Addr):=fun b z=>by simp at z
 have kB':∀ b o,s₀.heap.get? b=some o->H₀ b=none->b∉frs outer->B.get? b=some o:=fun b o q n hb =>
  kB b o (I.base.keep b o q n hb (nex b)) (I.base.free b o q n (nex b)) (noL b o q hb)
 have tB':∀ b o,s₀.heap.get? b=some o->b∉frs outer->∃ o',B.get? b=some o':=fun b o q hb=>by
  obtain ⟨o1,q1⟩:=I.base.there b o q (nex b)
  exact tB b o1 q1 (noL b o q hb)
 have na':s₀.heap.get? a=none:=by
  cases q:s₀.heap.get? a with
  | none=>rfl
  | some o =>
   obtain ⟨o1,q1⟩:=I.base.there a o q (nex a)
   rw [na] at q1
   cases q1
 refine dk_any (kpd_leaving _ _) (Q':=fun _ s2=>∃ h',s2={ s' with heap:=h' }∧Heap.FlyingW B outer a cls (.ref t) h'∧s'.heap.UpToSlots h') (wpAny_leaves_onW I.ok.frames rfl fl.1 fun h' fl' up=>⟨h',rfl,fl',up⟩) ?_
 rintro _ s2 ⟨h',rfl,fl',up⟩ dk
 refine ⟨a,t,cls,od,B,H',rfl,os.trans I.os,bare,?_,kB',tB',hok,⟨fl',dk.dict fl.2⟩,na',nH,hE⟩
 have slot':∀ b o,s₀.heap.get? b=some o->H₀ b=none->b∈frs outer->∃ sl,h'.get? b=some { o with slots:=sl }:=fun b o q n hb=>by
  obtain ⟨sl,q1⟩:=I.base.slot b o q n hb (nex b)
  obtain ⟨sl1,q2⟩:=u.slot b _ q1 (I.base.free b o q n (nex b)) (sub b hb) (nex b)
  obtain ⟨_,o2,q3,nf⟩:=I.funs.mem hb
  rw [q1] at q3
  cases q3
  obtain ⟨sl2,q4⟩:=up b _ q2 nf
  exact ⟨sl2,q4⟩
 refine ⟨fun b o q n hb _=>fl'.1 b o (kB' b o q n hb),fun b o q n hb _=>slot' b o q n hb,fun b o q n _=>?_,fun b o q _=>?_,fun b xs q=>u.tups b xs (I.base.tups b xs q),fun b o v q=>u.frzs b o v (I.base.frzs b o v q),fun b ps q=>?_⟩
 ·obtain ⟨o1,q1⟩:=I.base.there b o q (nex b)
  exact u.free b o1 q1 (I.base.free b o q n (nex b)) (nex b)
 ·by_cases hb:b∈frs outer
  ·obtain ⟨sl,q1⟩:=slot' b o q (I.ok.frf b hb) hb
   exact ⟨_,q1⟩
  ·obtain ⟨o1,q1⟩:=tB' b o q hb
   exact ⟨o1,fl'.1 b o1 q1⟩
 ·obtain ⟨m1,q1⟩:=I.base.tbls b ps q
  obtain ⟨m2,q2⟩:=u.tbls b _ q1
  exact ⟨m1++m2,by rw [q2,Array.append_assoc]⟩
end
theorem okX {P:Program} {w:World} {K:PySem.W.Frag} {mg:Str->Option Value} {base:Heap} {x qual:Str} {st:Stmt} {f:Addr} {fd:FuncData} {N ps:List Str} {k:Nat} {sp:Sp} (F:Fun K x qual st f fd) (S:FnScope N ps (defScope st))
  (len:∀ vs H Q E,sp vs H Q E->vs.length=ps.length)
  (hbody:∀ (cdv:Value) (A:Around) (outer:List Env) (s:Shared) (H:Hp) (vs:List V) (Q:VK) (E:XK),Room k (A.deeper (envOfC qual (defScope st) s.heap.objs.size f cdv))->sp vs H Q E →
   ∃ t,PSs (cxOf (CXr P w) P w K mg base N qual (defScope st) f cdv A outer s H E) (defBody st) t∧t { nx:=fun _ H'=>Q .non H',rt:=Q } (start N vs) H):FnOk P w K mg base (CXr P w) (k+1) f fd ps sp:=by
 obtain ⟨oc,od,kV,doc,pm,an,cdv,ct,osl,rfl,lk,hcd⟩:=F.ex
 exact fn_of lk hcd S len fun A outer s H vs Q E hr hsp=>hbody cdv A outer s H vs Q E hr hsp
abbrev TX:=St->Hp->VK->XK->Prop
def PX (X:Cx) (e:PySem.Expr) (t:TX):Prop :=
 ∀ (pins:List (Addr×Obj)) (s:Shared) (σ:St) (H:Hp) (Q:VK) (E:XK) (W:Value->Shared->Prop),Inv X pins σ H s->t σ H Q E->(∀ a cls od H' s',Caught X pins σ a cls od H' s'->E cls od H'->W (.ref a) s') →
  wpAny (model X.prog X.w) X.A (eval e X.env) (EP X pins σ Q) W s
abbrev TXS:=Ends->St->Hp->XK->Prop
def PXS (X:Cx) (body:List Stmt) (t:TXS):Prop :=
 ∀ (pins:List (Addr×Obj)) (s:Shared) (σ:St) (H:Hp) (D:Ends) (E:XK) (W:Value->Shared->Prop),Inv X pins σ H s->t D σ H E->(∀ a cls od H' s',Caught X pins σ a cls od H' s'->E cls od H'->W (.ref a) s') →
  wpAny (model X.prog X.w) X.A (execs body X.env) (SP X pins D) W s
def tXSet (i:Nat) (te:TX):TXS:=fun D σ H E=>te σ H (fun v H1=>D.nx (σ.set i (some v)) H1) E
theorem pxs_set {X:Cx} {i:Nat} {x:Str} {e:PySem.Expr} {te:TX} {pos pos':Pos} (hN:X.N.Nodup) (hi:X.N[i]?=some x) (hx:Loc X.env.scope x) (he:PX X e te) (hs:swapsWith e (some (.Name x pos')) pos.line X.env=pure false:=by rfl)
  (hf:X.fn x=true∨X.env.scope.names.lookup x=some .local:=by first | exact .inl rfl | exact .inr rfl | assumption):PXS X [.Assign [.Name x pos'] e pos] (tXSet i te):=by
 intro pins s σ H D E W I h hW
 refine wpAny_execs_cons (wpAny_Assign_Name (thn (he pins s σ H _ E W I h hW) fun v s1 ⟨y,H1,I1,r1,q1⟩=>?_) hs)
 exact store_ok I1 hN hi hx r1 (fun s2 I2=>wpAny_execs_nil ⟨_,H1,I2,q1⟩) hf
abbrev marked (X:Cx) (a:Addr):Cx:={ X with A:=X.A.mark (some (.ref a)),calm:=false }
theorem inv_marked {X:Cx} {pins:List (Addr×Obj)} {σ:St} {H:Hp} {s:Shared} (I:Inv X pins σ H s) (a:Addr):Inv (marked X a) pins σ H s :=
 ⟨⟨I.ok.mod,I.ok.kind,I.ok.glob,I.ok.blt,I.ok.above,I.ok.inj,I.ok.has,I.ok.cab,(fun z=>by cases z),I.ok.frames,I.ok.stk,I.ok.exf,I.ok.bs,I.ok.bsz,I.ok.noex,I.ok.exfs,I.ok.funs,I.ok.frf⟩,I.os,I.bare,I.base,I.loc,I.cell,I.free,I.freeC,I.pin,I.hok,I.len⟩
theorem inv_back {X:Cx} {pins:List (Addr×Obj)} {σ:St} {H:Hp} {s:Shared} {a:Addr} (ok:X.Ok) (I:Inv (marked X a) pins σ H s):Inv X pins σ H s :=
 ⟨ok,I.os,I.bare,I.base,I.loc,I.cell,I.free,I.freeC,I.pin,I.hok,I.len⟩
theorem goes_ok {X:Cx} {M:Model} {A:Around} {W:Value->Shared->Prop} {pins:List (Addr×Obj)} {σ:St} {H:Hp} {s:Shared} {i:Nat} {n:Str} {pos:Pos} {Q:Unit->Shared->Prop} (I:Inv X pins σ H s) (hN:X.N.Nodup) (hi:X.N[i]?=some n)
  (hx:X.env.scope.names.lookup n=some .local) (h:∀ s',Inv X pins (σ.set i none) H s'->Q () s'):wpAny M A (do bindName X.env n .none; unbindBehindTheSuite X.env n pos) Q W s:=by
 obtain ⟨m,hn,hl⟩:=id I.loc
 have hcls:(X.env.scope.kind == .class || (X.env.scope.kind == .module && X.env.locals != X.env.globals))=false:=by rw [I.ok.kind]; rfl
 obtain ⟨oL,_,_,hoL,_⟩:=id hn
 refine wpAny_nameGoes_keeps hx hn hcls fun h' v hn' hs=>h _ ?_
 have ne:∀ b o,X.s₀.heap.get? b=some o->b≠X.env.locals:=fun b o e=>Nat.ne_of_lt (Nat.lt_of_lt_of_le (Heap.lt_size e) I.ok.above)
 refine ⟨I.ok,I.os,I.bare,⟨fun b o e z hb hx=>?_,fun b o e z hb hx=>?_,I.base.free,fun b o e hx=>?_,I.base.tups,I.base.frzs,I.base.tbls⟩,⟨_,hn',fun j y v' e1 e2 e3=>?_⟩,fun y c e=>?_,I.free,I.freeC,fun p hp=>?_,fun b o e=>?_,by simpa using I.len⟩
 ·exact (hs.2 b (ne b o e)).trans (I.base.keep b o e z hb hx)
 ·obtain ⟨sl,e1⟩:=I.base.slot b o e z hb hx
  exact ⟨sl,(hs.2 b (ne b o e)).trans e1⟩
 ·obtain ⟨o',e1⟩:=I.base.there b o e hx
  exact ⟨o',(hs.2 b (ne b o e)).trans e1⟩
 ·have hj:j≠i:=fun z=>by
   subst z
   have hlt:j<σ.length:=by rw [I.len]; exact (List.getElem?_eq_some_iff.mp hi).1
   rw [List.getElem?_set_self hlt] at e2
   cases e2
  rw [List.getElem?_set_ne (Ne.symm hj)] at e2
  obtain ⟨u',r',q⟩:=hl j y v' e1 e2 e3
  have hy:y≠n:=fun e=>hj (nodup_ix hN e1 (e ▸ hi))
  refine ⟨u',r',?_⟩
  rcases q with ⟨k,e⟩ | ⟨k,c,e,z⟩
  ·exact .inl ⟨k,by simp [hy,e]⟩
  ·exact .inr ⟨k,c,e,z.sameBut hs (I.cne y c e)⟩
 ·obtain ⟨w',z⟩:=I.cell y c e
  exact ⟨w',z.sameBut hs (I.cne y c e)⟩
 ·obtain ⟨e,z,ne',nf,d⟩:=I.pin p hp
  exact ⟨(hs.2 p.1 ne').trans e,z,ne',nf,d⟩
 ·refine (I.hok b o e).stay (fun c w' hc q=>(hs.2 c ?_).trans q) (fun _ q=>q) fun _ _ q=>q
  rintro rfl
  rcases hc with rfl | hc
  ·rw [I.free] at e; cases e
  ·rw [I.free] at hc; cases hc
section
variable {M:Model} {A:Around} {E:Value->Shared->Prop} {s:Shared} {B:Heap} {env:Env} {outer l:List Env} {L e t:Addr} {cls:Value} {od:Option Addr} {Q:Unit->Shared->Prop}
theorem looks_onD (hfr:A.frames=some (env :: outer)) (hf:env.frame=some L) (hfl:FlyD B (env :: outer) e cls t od s.heap)
  (hQ:∀ h',Heap.HeldW B (env :: outer) e cls (.ref t) L h'->(∃ o,h'.get? e=some o∧o.dict=od)->s.heap.UpToSlots h'->Q () { s with heap:=h' }):wpAny M A (noteFrame (.ref e) env) Q E s:=by
 refine dk_any (kpd_note _ _) (Q':=fun _ s2=>∃ h',s2={ s with heap:=h' }∧Heap.HeldW B (env :: outer) e cls (.ref t) L h'∧s.heap.UpToSlots h') (wpAny_looks_onW hfr hf hfl.1 fun h' a b=>⟨h',rfl,a,b⟩) ?_
 rintro _ s2 ⟨h',rfl,a,b⟩ dk
 exact hQ h' a (dk.dict hfl.2) b
theorem landsD (hh:Heap.HeldW B l e cls (.ref t) L s.heap) (hd:∃ o,s.heap.get? e=some o∧o.dict=od) (hQ:∀ h',FlyD B l e cls t od h'->s.heap.UpToSlots h'->Q () { s with heap:=h' }):wpAny M A (setFlight (.ref e) none) Q E s:=by
 refine dk_any (kpd_flight _ _) (Q':=fun _ s2=>∃ h',s2={ s with heap:=h' }∧Heap.FlyingW B l e cls (.ref t) h'∧s.heap.UpToSlots h') (wpAny_landsW hh fun h' a b=>⟨h',rfl,a,b⟩) ?_
 rintro _ s2 ⟨h',rfl,a,b⟩ dk
 exact hQ h' ⟨a,dk.dict hd⟩ b
theorem lands_againD (hh:FlyD B l e cls t od s.heap) (hQ:∀ h',FlyD B l e cls t od h'->s.heap.UpToSlots h'->Q () { s with heap:=h' }):wpAny M A (setFlight (.ref e) none) Q E s:=by
 refine dk_any (kpd_flight _ _) (Q':=fun _ s2=>∃ h',s2={ s with heap:=h' }∧Heap.FlyingW B l e cls (.ref t) h'∧s.heap.UpToSlots h') (lands_againW hh.1 fun h' a b=>⟨h',rfl,a,b⟩) ?_
 rintro _ s2 ⟨h',rfl,a,b⟩ dk
 exact hQ h' ⟨a,dk.dict hh.2⟩ b
end
def tTry (K:PySem.W.Frag) (C:Addr) (i:Nat) (tb:TXS) (th:Addr->TS):TS:=fun D σ H=>tb D σ H fun cls od H'=>PySem.W.exmOne K cls (.ref C)=some true∧∀ a,H' a=none →
 th a { nx:=fun σ2 H2=>D.nx (σ2.set i none) H2,rt:=D.rt,bk:=fun σ2 H2=>D.bk (σ2.set i none) H2,ct:=fun σ2 H2=>D.ct (σ2.set i none) H2 } (σ.set i (some (.ref a))) (upd H' a (excO a cls od))
theorem ps_try {X:Cx} {body:List Stmt} {y n:Str} {C:Addr} {i:Nat} {b0:Stmt} {suite:List Stmt} {tb:TXS} {th:Addr->TS} {np hpos pos:Pos} (hN:X.N.Nodup) (hi:X.N[i]?=some n) (hx:X.env.scope.names.lookup n=some .local) (hg:Gl X y) (hm:X.mg y=some (.ref C))
  (hst:X.stack=X.env :: X.outer) (hfr:X.env.frame=some X.env.locals)
  (hb:PXS X body tb) (hs:∀ a,PSs (marked X a).nox (b0 :: suite) (th a)) (hdb:(y == ("__debug__":Str))=false:=by decide) :
  PS X (.Try body [.ExceptHandler (some (.Name y np)) (some n) (b0 :: suite) hpos] [] [] pos) (tTry X.K C i tb th):=by
 intro pins s σ H D I h
 refine wpAny_Try_except (wpAny_mono (hb pins s σ H D _ _ I h ?_) (fun f s1 q=>?_) fun _ _ z=>z)
 rotate_left
 ·cases f with
  | next=>exact wpAny_execs_nil q
  | ret v=>exact q
  | brk=>exact q
  | cont=>exact q
 intro a cls od H' s' ⟨B,t,fl,nH,inv⟩ ⟨hq,rd⟩
 rw [hst] at fl inv
 refine looks_onD (hst ▸ I.ok.frames) hfr fl fun h4 held4 dk4 up4=>?_
 refine landsD held4 dk4 fun h5 fl5 up5=>?_
 have up45:=up4.trans up5
 have I5:=(inv h5 fl5 up45).1
 refine wpAny_handleBy_cons (codeAny_handlers_test ?_) (by intro z; cases z)
 refine ld_glob (inv_marked I5 a) hg hm ?_ hdb
 obtain ⟨ob,hob,hoc,_⟩:=fl5.there
 have LT:PySem.W.Looks (model X.prog X.w) h5 (typeOf (.ref a)) cls:=hoc ▸ (PySem.W.Looks.ld hob).andThen .now
 refine (PySem.W.exm_one (I5.kIn) LT hq).at (codeAny_handlers_suite_as ?_)
 refine lands_againD fl5 fun h6 fl6 up6=>?_
 have I6:=(inv h6 fl6 (up45.trans up6)).2
 refine store_ok (X:=(marked X a).nox) (v:=.ref a) (Inv.wish (inv_marked I6 a) (fun _ _=>False)) hN hi (.inl hx) rfl (fun s7 I7=>?_) (.inr hx)
 refine wpAny_mono (hs a pins s7 _ _ _ I7 (rd a nH)) (fun f s8 q8=>?_) fun _ _ z=>False.elim z
 cases f with
 | next =>
  obtain ⟨σ8,H8,I8,d8⟩:=q8
  exact goes_ok (inv_back I.ok (Inv.unwish I8)) hN hi hx fun s9 I9=>⟨_,H8,I9,d8⟩
 | brk =>
  obtain ⟨σ8,H8,I8,d8⟩:=q8
  exact goes_ok (inv_back I.ok (Inv.unwish I8)) hN hi hx fun s9 I9=>⟨_,H8,I9,d8⟩
 | cont =>
  obtain ⟨σ8,H8,I8,d8⟩:=q8
  exact goes_ok (inv_back I.ok (Inv.unwish I8)) hN hi hx fun s9 I9=>⟨_,H8,I9,d8⟩
 | ret u =>
  obtain ⟨v,σ8,H8,I8,rv,d8⟩:=q8
  exact goes_ok (inv_back I.ok (Inv.unwish I8)) hN hi hx fun s9 I9=>⟨v,_,H8,I9,rv,d8⟩
end L2
namespace L2
open PySem PySem.Spec PyProof.Rows
def cxComp (X:Cx) (scope:Scope) (cl:List (Str×Addr)) (C:Addr) (Nc:List Str) (ex:List Addr) (pins:List (Addr×Obj)) (s₀:Shared) (H₀:Hp):Cx where
 prog:=X.prog
 w:=X.w
 K:=X.K
 mg:=X.mg
 base:=X.base
 A:=X.A
 N:=Nc
 s₀:=s₀
 H₀:=H₀
 env:=compEnvC scope cl C X.env
 outer:=X.stack
 stack:=X.stack
 ex:=ex
 fn:=fun y=>scope.names.lookup y == some .local
 calm:=true
 pn:=X.pn++pins
 xe:=fun _ _=>False
structure CompScope (X:Cx) (scope:Scope) (cl:List (Str×Addr)) (Nc:List Str) (cap:List (Nat×Nat)):Prop where
 clos:closureFor scope X.env=pure cl
 kind:scope.kind=.function
 names:∀ y∈scope.names,y.2=.local->scope.names.lookup y.1=some .local
 nocell:∀ y∈scope.names,y.2≠.cell
 sub:∀ x c,cl.lookup x=some c->X.env.cells.lookup x=some c∧scope.names.lookup x≠some .local
 has:∀ x,((relabel scope X.env).names.lookup x=some .cell∨(relabel scope X.env).names.lookup x=some .free)->∃ c,cl.lookup x=some c
 caps:∀ j i,(j,i)∈cap->∃ x c,Nc[j]?=some x∧X.N[i]?=some x∧cl.lookup x=some c∧X.env.scope.names.lookup x=some .cell∧(relabel scope X.env).names.lookup x=some .cell
theorem comp_mk {X:Cx} {scope:Scope} {cl:List (Str×Addr)} {Nc:List Str} {cap:List (Nat×Nat)} (clos:closureFor scope X.env=pure cl) (kind:scope.kind=.function) (names:∀ y∈scope.names,y.2=.local->scope.names.lookup y.1=some .local) (nocell:∀ y∈scope.names,y.2≠.cell)
  (subs:∀ p∈cl,X.env.cells.lookup p.1=some p.2∧scope.names.lookup p.1=some .free) (hass:((relabel scope X.env).names.all fun p=>(p.2 != .cell && p.2 != .free) || (cl.lookup p.1).isSome)=true)
  (caps:∀ p∈cap,∃ x c,Nc[p.1]?=some x∧X.N[p.2]?=some x∧cl.lookup x=some c∧X.env.scope.names.lookup x=some .cell∧(relabel scope X.env).names.lookup x=some .cell):CompScope X scope cl Nc cap :=
 ⟨clos,kind,names,nocell,fun x c e=>⟨(subs (x,c) (PySem.mem_of_lookup e)).1,fun z=>by
  have:=(subs (x,c) (PySem.mem_of_lookup e)).2
  rw [z] at this
  cases this⟩,fun x e=>by
  have key:∀ k,(relabel scope X.env).names.lookup x=some k->(k=.cell∨k=.free)->∃ c,cl.lookup x=some c:=fun k e hk=>by
   have:=List.all_eq_true.mp hass (x,k) (PySem.mem_of_lookup e)
   rcases hk with rfl | rfl
   ·exact Option.isSome_iff_exists.mp (by simpa using this)
   ·exact Option.isSome_iff_exists.mp (by simpa using this)
  rcases e with e | e
  ·exact key _ e (.inl rfl)
  ·exact key _ e (.inr rfl),fun j i m=>caps (j,i) m⟩
def capSt (n:Nat) (cap:List (Nat×Nat)) (σ:St):St:=(List.range n).map fun j=>((cap.find? fun p=>p.1 == j).bind fun p=>σ[p.2]?).bind id
theorem capSt_get {n:Nat} {cap:List (Nat×Nat)} {σ:St} {j:Nat} {v:V} (h:(capSt n cap σ)[j]?=some (some v)):∃ i,(j,i)∈cap∧σ[i]?=some (some v):=by
 unfold capSt at h
 rw [List.getElem?_map] at h
 cases e:(List.range n)[j]? with
 | none=>rw [e] at h; cases h
 | some k =>
  rw [e] at h
  have hk:k=j:=by
   obtain ⟨hl,q⟩:=List.getElem?_eq_some_iff.mp e
   rw [List.getElem_range] at q
   exact q.symm
  subst hk
  simp only [Option.map_some,Option.some.injEq] at h
  cases f:cap.find? fun p=>p.1 == k with
  | none=>rw [f] at h; cases h
  | some p =>
   rw [f] at h
   have h1:=List.mem_of_find?_eq_some f
   have h2:p.1=k:=by
    have:=List.find?_some f
    exact eq_of_beq this
   refine ⟨p.2,?_,?_⟩
   ·rw [←h2]; exact h1
   ·simp only [Option.bind_some] at h
    cases g:σ[p.2]? with
    | none=>rw [g] at h; cases h
    | some o=>rw [g] at h; simpa using h
section
variable {X:Cx} {pins:List (Addr×Obj)} {σ:St} {H:Hp} {s:Shared} {scope:Scope} {cl:List (Str×Addr)} {Nc:List Str} {cap:List (Nat×Nat)} {fp:List Addr}
theorem inv_comp (I:Inv X pins σ H s) (hcalm:X.calm=true) (S:CompScope X scope cl Nc cap) (hfp:∀ b∈fp,FpOk X pins H b) (hob:∀ b∈fp,∃ o,s.heap.get? b=some o) {C:Addr} {h1:Heap} {m:Str->Option Value} {tk:Nat} (hC:s.heap.objs.size≤C)
  (hn:h1.Ns C m) (keep:∀ b o,s.heap.get? b=some o->h1.get? b=some o):Inv (cxComp X scope cl C Nc fp pins s H) [] (capSt Nc.length cap σ) H { s with heap:=h1,toks:=tk }:=by
 have neC:∀ b o,s.heap.get? b=some o->b≠C:=fun b o e=>Nat.ne_of_lt (Nat.lt_of_lt_of_le (Heap.lt_size e) hC)
 refine ⟨⟨I.ok.mod,S.kind,I.ok.glob,I.ok.blt,hC,fun x y c e1 e2=>?_,fun x hx=>S.has x hx,fun x c e1 e2=>?_,fun _=>I.ok.hd hcalm,I.ok.frames,.inl rfl,fun b hb=>⟨?_,fun x c e=>?_⟩,I.bs,Nat.le_trans I.ok.bsz I.sz,fun b o e hb=>?_,fun b hb z=>?_,I.stack,I.stkFree⟩,
  rfl,I.bare,Un.kept keep,⟨m,hn,fun j x v e1 e2 e3=>?_⟩,fun x c e=>?_,I.hok.fresh hC,fun x c e=>?_,fun p hp=>?_,I.hok.kept keep,?_⟩
 ·exact I.ok.inj x y c (S.sub x c e1).1 (S.sub y c e2).1
 ·exact absurd (beq_iff_eq.mp e1) (S.sub x c e2).2
 ·obtain ⟨o,e⟩:=hob b hb
  exact neC b o e
 ·exact (hfp b hb).2.2.2.2.1 x c (S.sub x c e).1
 ·rcases (hfp b hb).2.2.2.1 with z | z
  ·exact I.ok.noex b o e z
  ·exact absurd (Nat.lt_of_lt_of_le (Heap.lt_size e) (Nat.le_trans I.ok.bsz z)) (Nat.lt_irrefl _)
 ·rcases List.mem_cons.mp (I.stkSub b z) with z | z
  ·exact (hfp b hb).2.1 z
  ·exact (hfp b hb).2.2.1 z
 ·obtain ⟨i,hm,hv⟩:=capSt_get e2
  obtain ⟨x',c,q1,q2,q3,q4,q5⟩:=S.caps j i hm
  have e1':Nc[j]?=some x:=e1
  rw [q1] at e1'
  cases e1'
  obtain ⟨mo,_,hl⟩:=I.loc
  obtain ⟨u,r,l⟩:=hl i x v q2 hv (.inr (.inl q4))
  refine ⟨u,r,?_⟩
  rcases l with ⟨k,_⟩ | ⟨_,c',e',z⟩
  ·have k':X.env.scope.names.lookup x=some .local:=k
   rw [q4] at k'
   cases k'
  ·have:c'=c:=Option.some.inj (e'.symm.trans (S.sub x c q3).1)
   subst this
   obtain ⟨o,ho,hd⟩:=z
   exact .inr ⟨.inl q5,c',q3,⟨o,keep _ _ ho,hd⟩⟩
 ·obtain ⟨v,o,ho,hd⟩:=I.cell x c (S.sub x c e).1
  exact ⟨v,o,keep _ _ ho,hd⟩
 ·exact I.freeC x c (S.sub x c e).1
 ·have hp':p∈X.pn++pins:=by
   have z:p∈(X.pn++pins)++[]:=hp
   rw [List.append_nil] at z
   exact z
  obtain ⟨e,n,ne,nf,d⟩:=I.pin p hp'
  refine ⟨keep _ _ e,n,neC _ _ e,fun z=>?_,d⟩
  rcases List.mem_cons.mp (I.stkSub p.1 z) with z | z
  ·exact ne z
  ·exact nf z
 ·show (capSt Nc.length cap σ).length=Nc.length
  unfold capSt
  rw [List.length_map,List.length_range]
theorem comp_back (I:Inv X pins σ H s) (hfp:∀ b∈fp,FpOk X pins H b) {C:Addr} {σc:St} {H':Hp} {s':Shared} {h':Heap} (J:Inv (cxComp X scope cl C Nc fp pins s H) [] σc H' s') (hs:Heap.SameBut C s'.heap h'):Inv X pins σ H' { s' with heap:=h' }:=by
 have hC:s.heap.objs.size≤C:=J.ok.above
 have neC:∀ b o,s.heap.get? b=some o->b≠C:=fun b o e=>Nat.ne_of_lt (Nat.lt_of_lt_of_le (Heap.lt_size e) hC)
 have u:=J.base
 refine I.call' (s':={ s' with heap:=h' }) (ch:=fp) J.os ⟨fun b o e n hb hx=>?_,fun b o e n hb hx=>?_,u.free,fun b o e hx=>?_,u.tups,u.frzs,u.tbls⟩ (fun b o e=>?_) J.bare fun b hb=>⟨(hfp b hb).2.2.2.1,(hfp b hb).2.1,(hfp b hb).2.2.2.2.1,(hfp b hb).2.2.2.2.2⟩
 ·exact (hs.2 b (neC b o e)).trans (u.keep b o e n hb hx)
 ·obtain ⟨sl,q⟩:=u.slot b o e n hb hx
  exact ⟨sl,(hs.2 b (neC b o e)).trans q⟩
 ·obtain ⟨o',q⟩:=u.there b o e hx
  exact ⟨o',(hs.2 b (neC b o e)).trans q⟩
 ·refine (J.hok b o e).stay (fun c v hc q=>(hs.2 c ?_).trans q) (fun _ q=>q) fun _ _ q=>q
  intro z
  subst z
  have fr:H' c=none:=J.free
  rcases hc with hc | hc
  ·rw [hc] at fr; rw [fr] at e; cases e
  ·rw [fr] at hc; cases hc
end
def tComp (n:Nat) (cap:List (Nat×Nat)) (wi:TI) (g:TG) (te:TE):TE:=fun σ H Q=>wi σ H fun J H1=>∀ acc,H1 acc=none →
 ∃ W:Nat->Nat->List V->St->Hp->Prop,(∃ m,W 0 m [] (capSt n cap σ) (upd H1 acc (.lst [])))∧∀ i m ys σc H2,W i m ys σc H2 →
  (J.stop i H2∧Q (.ref acc) H2)∨(J.go i H2∧∀ x H3,J.yld i H2 x H3->g x σc H3 fun σ4 H4=>te σ4 H4 fun v H5=>H5 acc=some (.lst ys)∧ys.length<sizeLine∧∃ m',m' < m∧W (i+1) m' (ys++[v]) σ4 (upd H5 acc (.lst (ys++[v]))))
def tCompF (n:Nat) (cap:List (Nat×Nat)) (wi:TI) (g:TG) (tt:TT) (te:TE):TE:=fun σ H Q=>wi σ H fun J H1=>∀ acc,H1 acc=none →
 ∃ W:Nat->Nat->List V->St->Hp->Prop,(∃ m,W 0 m [] (capSt n cap σ) (upd H1 acc (.lst [])))∧∀ i m ys σc H2,W i m ys σc H2 →
  (J.stop i H2∧Q (.ref acc) H2)∨(J.go i H2∧∀ x H3,J.yld i H2 x H3->g x σc H3 fun σ4 H4=>tt σ4 H4 fun ok H5=>if ok=true then (te σ4 H5 fun v H6=>H6 acc=some (.lst ys)∧ys.length<sizeLine∧∃ m',m' < m∧W (i+1) m' (ys++[v]) σ4 (upd H6 acc (.lst (ys++[v])))) else ∃ m',m' < m∧W (i+1) m' ys σ4 H5)
def PTs (X:Cx) (ifs:List PySem.Expr) (tt:TT):Prop:=∀ (pins:List (Addr×Obj)) (s:Shared) (σ:St) (H:Hp) (Q:Bool->Hp->Prop),Inv X pins σ H s->tt σ H Q →
 wpAny (model X.prog X.w) X.A (forIn ifs true fun c r=>if r=true then do let ok ←isTrue c X.env (eval c X.env); pure (ForInStep.yield ok) else pure (ForInStep.yield r)) (fun ok s'=>∃ H',Inv X pins σ H' s'∧Q ok H') X.xe s
theorem pts_nil {X:Cx}:PTs X [] (fun _ H Q=>Q true H):=fun _ _ _ H _ I q=>wpAny_tests_nil ⟨H,I,q⟩
section
variable {prog:Program} {w:World} {A:Around} {s:Shared}
theorem compLoop_any {elt iter tg:PySem.Expr} {ifs:List PySem.Expr} {scope:Scope} {pos:Pos} {it acc:Value} {env:Env} {R:Result->Shared->Prop} (I:Nat->Shared->Prop)
  (turn:∀ n s,I n s->wpAny (model prog w) A (pyNext it) (fun r s₁=>match r with
   | none=>R (.ok .next) s₁
   | some v=>wpAny (model prog w) A (letOwnedTupleGo tg it v) (fun _ s₁'=>wpAny (model prog w) A (assign tg env v) (fun _ s₂ =>
     wpAny (model prog w) A (forIn ifs true fun c r=>if r=true then do let ok ←isTrue c env (eval c env); pure (ForInStep.yield ok) else pure (ForInStep.yield r)) (fun ok s₃=>if ok=true then
      wpAny (model prog w) A (eval elt env) (fun x s₄ =>
       wpAny (model prog w) A (call (.builtin "list.append") [acc,x]) (fun _ s₅=>∃ m,m<n∧I m s₅) (fun _ _=>False) s₄) (fun _ _=>False) s₃
      else ∃ m,m<n∧I m s₃) (fun _ _=>False) s₂)
     (fun _ _=>False) s₁') (fun _ _=>False) s₁) (notedBy (model prog w) A env fun e s'=>R (.error e) s') s)
  (n:Nat) (h:I n s):codeAny (model prog w) A (.compLoop (.ListComp elt [⟨tg,iter,ifs,0⟩] scope pos) 0 it acc env) R s:=by
 refine codeAny_loop rfl I (fun n s hI=>?_) n h
 show wpAny _ A ((compTurn (.ListComp elt [⟨tg,iter,ifs,0⟩] scope pos) 0 it acc env).onRaise (fun x=>do noteFrame x env; theTreesLotGoes x)) _ _ s
 refine wpAny_noted ?_
 rw [compTurn_list]
 refine wpAny_bind (wpAny_standAt (wpAny_bind (wpAny_mono (turn n s hI) (fun r s₁ h₁=>?_) fun _ _ h'=>h')))
 cases r with
 | none=>exact wpAny_pure h₁
 | some v =>
  refine wpAny_bind (wpAny_mono h₁ (fun _ s₁' h₁'=>?_) fun _ _ h'=>False.elim h')
  refine wpAny_bind (wpAny_mono h₁' (fun _ s₂ h₂=>wpAny_bind (wpAny_mono h₂ (fun ok s₃ h₃=>?_) fun _ _ h'=>False.elim h')) fun _ _ h'=>False.elim h')
  cases ok with
  | false=>exact wpAny_pure ⟨rfl,h₃⟩
  | true =>
   exact wpAny_bind (wpAny_bind (wpAny_mono h₃ (fun x s₄ h₄=>wpAny_bind (wpAny_mono h₄ (fun _ s₅ h₅=>wpAny_pure (wpAny_pure ⟨rfl,h₅⟩)) fun _ _ h'=>False.elim h')) fun _ _ h'=>False.elim h'))
end
section
variable {X:Cx} {elt iter tg:PySem.Expr} {ifs:List PySem.Expr} {pos:Pos} {scope:Scope} {cl:List (Str×Addr)} {Nc:List Str} {cap:List (Nat×Nat)} {wi:TI} {g:TG} {tt:TT} {te:TE}
theorem comp_core {pins:List (Addr×Obj)} {s:Shared} {σ:St} {H:Hp} {Q:V->Hp->Prop} {pos':Pos} {use:Option (Value->Sem Unit)} {P:Value->Shared->Prop} (hc:X.calm=true) (hi:PI X tg iter wi) (S:CompScope X scope cl Nc cap)
  (hg:∀ C fp pins s H,PG (cxComp X scope cl C Nc fp pins s H) tg g) (ht:∀ C fp pins s H,PTs (cxComp X scope cl C Nc fp pins s H) ifs tt) (he:∀ C fp pins s H,PE (cxComp X scope cl C Nc fp pins s H) elt te)
  (hs:∀ y,foldedSetIterable iter X.env y=pure y) (I:Inv X pins σ H s) (h:tCompF Nc.length cap wi g tt te σ H Q)
  (fin:∀ (acc C:Addr) (H5:Hp) (s6:Shared) (m6:Str->Option Value),Inv X pins σ H5 s6->FpOk X pins H5 C->s6.heap.Ns C m6->Q (.ref acc) H5->compPost (model X.prog X.w) X.A X.xe use P (.ref acc) C (.ok .next) s6) :
  wpAny (model X.prog X.w) X.A (comprehension (.ListComp elt [⟨tg,iter,ifs,0⟩] scope pos) scope X.env pos' (newList []) false (eval iter X.env) use) P X.xe s:=by
 refine wpAny_comprehension_free (use:=use) (cl:=cl) rfl hs S.clos S.kind S.names ?_
 refine thn (hi pins s σ H _ I h) fun v s1 h1=>thn h1 fun itv s2 h2=>?_
 obtain ⟨it,fp,tn,J,H2,e,I2,T,st2,f2,rd⟩:=h2
 subst e
 refine wpAny_newObj_type ?_
 have hacc:H2 s2.heap.objs.size=none:=I2.hok.fresh (Nat.le_refl _)
 obtain ⟨W,⟨m0,w0⟩,turn⟩:=rd s2.heap.objs.size hacc
 have I3:Inv X pins σ (upd H2 s2.heap.objs.size (.lst [])) { s2 with heap:=s2.heap.push { cls:=.type "list",dict:=none,data:=.seq ([]:List Value).toArray } } :=
  I2.laid (t':=s2.toks) (fun b u e=>Heap.get?_push_of_some _ e) (Nat.le_refl _) ⟨Nat.zero_le _,[],0,.nil,Heap.get?_push_size _ rfl⟩
 have st3:tn 0 (s2.heap.push { cls:=.type "list",dict:=none,data:=.seq ([]:List Value).toArray }):=T.keep _ _ _ st2 fun b _ o e=>Heap.get?_push_of_some _ e
 have f3:∀ b∈fp,FpOk X pins (upd H2 s2.heap.objs.size (.lst [])) b:=fun b hb=>by
  obtain ⟨o,e,_⟩:=T.obj _ _ st2 b hb
  refine ⟨?_,(f2 b hb).2⟩
  rw [upd_ne (Nat.ne_of_lt (Heap.lt_size e))]
  exact (f2 b hb).1
 generalize hh3:s2.heap.push { cls:=.type "list",dict:=none,data:=.seq ([]:List Value).toArray }=h3 at I3 st3 ⊢
 generalize hH3:upd H2 s2.heap.objs.size (.lst [])=H3 at I3 f3 w0
 generalize s2.heap.objs.size=acc at *
 refine wpAny_newFunctionEnv S.nocell (by intro y hy; simp at hy) (fun h4 hns hsb=>?_) S.kind
 dsimp only at hns hsb ⊢
 have keep:∀ b o,h3.get? b=some o->h4.get? b=some o:=fun b o e=>hsb.extBut b o (Nat.ne_of_lt (Heap.lt_size e)) (Heap.get?_push_of_some _ e)
 have f0:∀ b∈fp,∃ o,h3.get? b=some o:=fun b hb=>by
  obtain ⟨o,e,_⟩:=T.obj _ _ st3 b hb
  exact ⟨o,e⟩
 have I4:=inv_comp (tk:=s2.toks+([]:List (Str×Value)).length) I3 hc S f3 f0 (C:=h3.objs.size) (Nat.le_refl _) hns keep
 have st4:tn 0 h4:=T.keep _ _ _ st3 fun b _ o e=>keep b o e
 have stat:∀ {H':Hp},(∀ b∈fp,H' b=none)->∀ b∈fp,FpOk (cxComp X scope cl h3.objs.size Nc fp pins { s2 with heap:=h3 } H3) [] H' b:=fun hn b hb=>by
  obtain ⟨o,e⟩:=f0 b hb
  refine ⟨hn b hb,Nat.ne_of_lt (Heap.lt_size e),I4.ok.exfs b hb,.inl hb,fun x c q=>(f3 b hb).2.2.2.2.1 x c (S.sub x c q).1,fun p hp=>?_⟩
  have z:p∈(X.pn++pins)++[]:=hp
  rw [List.append_nil] at z
  exact (f3 b hb).2.2.2.2.2 p z
 have loop:codeAny (model X.prog X.w) X.A (.compLoop (.ListComp elt [⟨tg,iter,ifs,0⟩] scope pos) 0 (.ref it) (.ref acc) (compEnvC scope cl h3.objs.size X.env)) (compPost (model X.prog X.w) X.A X.xe use P (.ref acc) h3.objs.size)
   { s2 with heap:=h4,toks:=s2.toks+([]:List (Str×Value)).length }:=by
  refine compLoop_any (fun n s'=>∃ i ys σ' H',Inv (cxComp X scope cl h3.objs.size Nc fp pins { s2 with heap:=h3 } H3) [] σ' H' s'∧tn i s'.heap∧(∀ b∈fp,H' b=none)∧W i n ys σ' H') ?_ m0 ⟨0,[],_,H3,I4,st4,fun b hb=>(f3 b hb).1,w0⟩
  rintro n s5 ⟨i,ys,σ5,H5,I5,st5,fr5,w5⟩
  rcases turn i n ys σ5 H5 w5 with ⟨stop,qn⟩ | ⟨go,step⟩
  ·refine thn (T.done (cxComp X scope cl h3.objs.size Nc fp pins { s2 with heap:=h3 } H3) rfl rfl rfl rfl i [] s5 σ5 H5 _ I5 (stat fr5) st5 stop) fun r s6 ⟨hr,I6⟩=>?_
   subst hr
   obtain ⟨m6,hn6,_⟩:=id I6.loc
   exact fin acc _ H5 s6 m6 (comp_back (h':=s6.heap) I3 f3 I6 ⟨rfl,fun _ _=>rfl⟩) (I3.fpOk (Nat.le_refl _) I6.free) hn6 qn
  ·refine wpAny_mono (T.item (cxComp X scope cl h3.objs.size Nc fp pins { s2 with heap:=h3 } H3) rfl rfl rfl rfl i [] s5 σ5 H5 (fun _ _=>False) I5 (stat fr5) st5 go) (fun r s6 ⟨u,hr,h6⟩=>?_) fun _ _ z=>False.elim z
   subst hr
   refine thn h6 fun _ s7 ⟨y,H7,I7,r7,y7,st7,fr7⟩=>?_
   have I7':=I7.pinned (stat fr7) (T.obj _ _ st7)
   have kp:∀ {σ8:St} {H8:Hp} {s8:Shared},Inv (cxComp X scope cl h3.objs.size Nc fp pins { s2 with heap:=h3 } H3) ([]++pinsAt fp s7.heap) σ8 H8 s8->tn (i+1) s8.heap∧∀ b∈fp,H8 b=none:=fun {σ8 H8 s8} I8 =>
    ⟨T.keep _ _ _ st7 fun b hb o e=>(I8.pin (b,o) (List.mem_append_right _ (List.mem_append_right _ (mem_pinsAt hb e)))).1,fun b hb=>by
     obtain ⟨o,e,d⟩:=T.obj _ _ st7 b hb
     exact (I8.pin (b,o) (List.mem_append_right _ (List.mem_append_right _ (mem_pinsAt hb e)))).2.1⟩
   refine thn (hg _ _ _ _ _ _ s7 σ5 H7 y u _ I7' r7 (step y H7 y7)) fun _ s8 ⟨σ8,H8,I8,q8⟩=>?_
   refine thn (ht _ _ _ _ _ _ s8 σ8 H8 _ I8 q8) fun ok s9 ⟨H9,I9,q9⟩=>?_
   cases ok with
   | false =>
    rw [if_neg Bool.false_ne_true] at q9 ⊢
    obtain ⟨m',hm,w'⟩:=q9
    obtain ⟨st9,fr9⟩:=kp I9
    exact ⟨m',hm,i+1,ys,σ8,H9,I9.unpinned,st9,fr9,w'⟩
   | true =>
    rw [if_pos rfl] at q9 ⊢
    refine thn (he _ _ _ _ _ _ s9 σ8 H9 _ I9 q9) fun w10 s10 ⟨v10,H10,I10,r10,e10,l10,m',hm,q10⟩=>?_
    refine thn (mt_append _ s10 σ8 H10 (.ref acc) [v10] (.ref acc) [w10] (fun _ H11=>W (i+1) m' (ys++[v10]) σ8 H11) I10 rfl (.cons r10 .nil) ⟨acc,ys,v10,rfl,rfl,e10,l10,q10⟩) fun _ s11 ⟨_,H11,I11,_,q11⟩=>?_
    obtain ⟨st11,fr11⟩:=kp I11
    exact ⟨m',hm,i+1,ys++[v10],σ8,H11,I11.unpinned,st11,fr11,q11⟩
 exact codeAny_compStart_list loop (T.self _ 0 _ _ _ st4 loop)
theorem pe_compG (hc:X.calm=true) (hi:PI X tg iter wi) (S:CompScope X scope cl Nc cap)
  (hg:∀ C fp pins s H,PG (cxComp X scope cl C Nc fp pins s H) tg g) (ht:∀ C fp pins s H,PTs (cxComp X scope cl C Nc fp pins s H) ifs tt) (he:∀ C fp pins s H,PE (cxComp X scope cl C Nc fp pins s H) elt te)
  (hs:∀ y,foldedSetIterable iter X.env y=pure y:=by intro _; rfl):PE X (.ListComp elt [⟨tg,iter,ifs,0⟩] scope pos) (tCompF Nc.length cap wi g tt te):=by
 intro pins s σ H Q I h
 rw [eval_ListComp]
 exact comp_core (use:=none) hc hi S hg ht he hs I h fun acc C H5 s6 m6 back fpC hn qn=>⟨m6,hn,fun h7 hs7=>⟨.ref acc,H5,back.turned (t':=s6.toks) (fun b o hb q=>(hs7.2 b hb).trans q) fpC.1 fpC.2.1 fpC.2.2.2.1 fpC.2.2.2.2.1 fpC.2.2.2.2.2,rfl,qn⟩⟩
theorem tCompF_nil {n:Nat}:tCompF n cap wi g (fun _ H Q=>Q true H) te=tComp n cap wi g te:=by
 unfold tCompF tComp
 simp only [if_true]
theorem pe_comp (hc:X.calm=true) (hi:PI X tg iter wi) (S:CompScope X scope cl Nc cap)
  (hg:∀ C fp pins s H,PG (cxComp X scope cl C Nc fp pins s H) tg g) (he:∀ C fp pins s H,PE (cxComp X scope cl C Nc fp pins s H) elt te)
  (hs:∀ y,foldedSetIterable iter X.env y=pure y:=by intro _; rfl):PE X (.ListComp elt [⟨tg,iter,[],0⟩] scope pos) (tComp Nc.length cap wi g te) :=
 tCompF_nil ▸ pe_compG (ifs:=[]) (pos:=pos) hc hi S hg (fun _ _ _ _ _=>pts_nil) he hs
theorem ps_setCompG {i:Nat} {y:Str} {py spos:Pos} (hN:X.N.Nodup) (hiN:X.N[i]?=some y) (hy:Loc X.env.scope y)
  (hc:X.calm=true) (hi:PI X tg iter wi) (S:CompScope X scope cl Nc cap)
  (hg:∀ C fp pins s H,PG (cxComp X scope cl C Nc fp pins s H) tg g) (ht:∀ C fp pins s H,PTs (cxComp X scope cl C Nc fp pins s H) ifs tt) (he:∀ C fp pins s H,PE (cxComp X scope cl C Nc fp pins s H) elt te)
  (hsw:swapsWith (.ListComp elt [⟨tg,iter,ifs,0⟩] scope pos) (some (.Name y py)) spos.line X.env=pure true:=by rfl) (hs:∀ z,foldedSetIterable iter X.env z=pure z:=by intro _; rfl)
  (hf:X.fn y=true∨X.env.scope.names.lookup y=some .local:=by first | exact .inl rfl | exact .inr rfl | assumption) :
  PS X (.Assign [.Name y py] (.ListComp elt [⟨tg,iter,ifs,0⟩] scope pos) spos) (tAsg (tCompF Nc.length cap wi g tt te) (gName i)):=by
 intro pins s σ H D I h
 rw [exec_Assign_Name_used _ _ _ _ hsw]
 refine wpAny_bind (wpAny_standAt (wpAny_bind ?_))
 show wpAny _ X.A (do let _ ←comprehension (.ListComp elt [⟨tg,iter,ifs,0⟩] scope pos) scope X.env _ (newList []) false (eval iter X.env) (some (assign (.Name y py) X.env))) _ _ s
 refine wpAny_bind (wpAny_mono (comp_core (use:=some (assign (.Name y py) X.env)) (P:=fun _ s'=>SP X pins D .next s') hc hi S hg ht he hs I h fun acc C H5 s6 m6 back fpC hn6 qn=>?_) (fun _ s' hq=>wpAny_pure (wpAny_pure hq)) fun _ _ e=>e)
 show wpAny (model X.prog X.w) X.A (assign (.Name y py) X.env (.ref acc)) _ X.xe s6
 refine wpAny_assign_Name (store_ok2 (v:=.ref acc) back hN hiN hy rfl (fun s7 I7 ⟨a7,sb7,e7⟩=>?_) hf)
 have nC:C≠a7:=by
  rcases e7 with e7 | e7
  ·rw [e7]; exact fpC.2.1
  ·exact Ne.symm (fpC.2.2.2.2.1 _ _ e7)
 refine ⟨m6,hn6.sameBut sb7 nC,fun h8 hs8=>⟨_,H5,?_,qn⟩⟩
 exact I7.turned (t':=s7.toks) (fun b o hb q=>(hs8.2 b hb).trans q) fpC.1 fpC.2.1 fpC.2.2.2.1 fpC.2.2.2.2.1 fpC.2.2.2.2.2
theorem ps_setComp {i:Nat} {y:Str} {py spos:Pos} (hN:X.N.Nodup) (hiN:X.N[i]?=some y) (hy:Loc X.env.scope y)
  (hc:X.calm=true) (hi:PI X tg iter wi) (S:CompScope X scope cl Nc cap)
  (hg:∀ C fp pins s H,PG (cxComp X scope cl C Nc fp pins s H) tg g) (he:∀ C fp pins s H,PE (cxComp X scope cl C Nc fp pins s H) elt te)
  (hsw:swapsWith (.ListComp elt [⟨tg,iter,[],0⟩] scope pos) (some (.Name y py)) spos.line X.env=pure true:=by rfl) (hs:∀ z,foldedSetIterable iter X.env z=pure z:=by intro _; rfl)
  (hf:X.fn y=true∨X.env.scope.names.lookup y=some .local:=by first | exact .inl rfl | exact .inr rfl | assumption) :
  PS X (.Assign [.Name y py] (.ListComp elt [⟨tg,iter,[],0⟩] scope pos) spos) (tAsg (tComp Nc.length cap wi g te) (gName i)) :=
 tCompF_nil ▸ ps_setCompG (ifs:=[]) hN hiN hy hc hi S hg (fun _ _ _ _ _=>pts_nil) he hsw hs hf
end
end L2
namespace L2
open PySem PySem.Spec PyProof.Rows
section
variable {X:Cx}
def Big (i:Int):Prop:=i.natAbs<2 ^ 8000
theorem big_log {i:Int} (h:Big i):i.natAbs.log2<8000:=by
 by_cases z:i.natAbs=0
 ·rw [z]; decide
 ·exact (Nat.log2_lt z).mpr h
def CDivB (_ j:Int):Prop:=j≠0∧Big j
theorem op_fdivB:OpR X (binaryOp .FloorDiv) (rI CDivB fun i j=>.int (i.fdiv j)):=opI fun _ _ _ _ _ _ _ hc q=>floordiv_int hc.1 q (.inl (PyProof.noPylong_of_log2 (by have:=big_log hc.2; omega)))
end
end L2
namespace L2
open PySem PySem.Spec PyProof.Rows
theorem bt_isinstance:bootBuiltins "isinstance" = some (.builtin "isinstance"):=by decide +kernel
theorem bt_int:bootBuiltins "int" = some (.type "int"):=by decide +kernel
theorem bt_tuple:bootBuiltins "tuple" = some (.type "tuple"):=by decide +kernel
theorem bt_len:bootBuiltins "len" = some (.builtin "len"):=by decide +kernel
theorem bt_abs:bootBuiltins "abs" = some (.builtin "abs"):=by decide +kernel
theorem bt_max:bootBuiltins "max" = some (.builtin "max"):=by decide +kernel
theorem bt_min:bootBuiltins "min" = some (.builtin "min"):=by decide +kernel
section
variable {X:Cx}
end
end L2
namespace L2
open PySem PySem.Spec PyProof.Rows PySem.W
abbrev excD (C t:Addr) (od:Option Addr):Obj:={ cls:=.ref C,dict:=od,data:=.fields #[.ref t,.none,.none,.none,.bool false,.none] }
section
variable {M:Model} {A:Around} {E:Value->Shared->Prop} {env:Env} {nm qn:Str} {C N:Addr} {bs tl:List Value} {hdct:Bool} {sn:List Str} {sub:List Value} {ab:Bool} {col:Option Bool} {dd:Option Addr} {k0 k1 k2 k3 k5:Option Value} {newId:String}
abbrev ClsE (nm qn:Str) (C N:Addr) (bs tl:List Value) (hdct:Bool) (sn:List Str) (sub:List Value) (ab:Bool) (col:Option Bool) (dd:Option Addr) (k0 k1 k2 k3 k5:Option Value) (newId:String):Obj:=excClassObj nm qn C N bs tl hdct sn sub ab col dd k0 k1 k2 k3 k5 newId
theorem raise_stmtD {s:Shared} {x:Sem Value} {Q:Flow->Shared->Prop} (hb:tl.contains (.type "BaseException")=true) (hh:A.handled=none)
  (h:wpAny M A x (fun v s1=>∃ e t od,v=.ref e∧s1.heap.get? C=some (ClsE nm qn C N bs tl hdct sn sub ab col dd k0 k1 k2 k3 k5 newId)∧s1.heap.get? e=some (excD C t od)∧E (.ref e) s1) E s) :
  wpAny M A (raiseStmt env (some x) none) Q E s:=by
 have hcB:(Value.ref C :: tl).contains (.type "BaseException")=true:=by rw [List.contains_cons,hb]; exact Bool.or_true _
 unfold raiseStmt
 refine wpAny_bind (wpAny_mono h (fun v s1 hv=>?_) fun _ _ z=>z)
 obtain ⟨e,t,od,rfl,hC,he,hE⟩:=hv
 obtain ⟨hp,g,d,tk,os⟩:=s1
 repeat (first | with_reducible refine wpAny_loadPart_at he ?_ | with_reducible refine wpAny_loadPart_at hC ?_ | (with_reducible refine wpAny_isSubtype_exc hC ?_; rw [hcB]) | wp_step)
 exact wpAny_raiseNew_none hh hE
end
section
variable {prog:Program} {w:World} {A:Around} {E:Value->Shared->Prop} {s:Shared} {env:Env} {nm qn:Str} {C N:Addr} {bs tl bmB:List Value} {hdct:Bool} {sn:List Str} {sub:List Value} {ab:Bool} {col:Option Bool} {dd:Option Addr} {k0 k1 k2 k3 k5:Option Value} {B newId initId:String}
theorem type_callI (F:ExcBaseFacts B newId initId bmB) (T:OwnTail s.heap bmB tl) {mN:Str->Option Value} {rest:List Value} {fI:Addr} {oI:Obj} {Q:Fin->Shared->Prop}
  (hC:s.heap.get? C=some (ClsE nm qn C N bs tl hdct sn sub ab col dd k0 k1 k2 k3 k5 newId)) (hn:s.heap.Ns N mN) (hi:mN "__init__" = some (.ref fI)) (hfI:s.heap.get? fI=some oI) (hfc:oI.cls=.type "function")
  (hq:∀ h' e t,Heap.MadeExcOf s.heap h' e (.ref C) rest->h'.get? e=some (excD C t none) →
   wpAny (model prog w) A (call (.ref fI) (.ref e :: rest)) (fun r s'=>r=.none∧Q (.done (.ret (.ref e))) s') E { s with heap:=h' }) (hrest:rest.length≤sizeLine) :
  wpAny (model prog w) A (Builtin.«type.__call__» ⟨.ref C :: rest,[]⟩) Q E s:=by
 obtain ⟨h,g,d,t,os⟩:=s
 dsimp only at T hC hn hfI hq
 repeat (first | with_reducible refine wpAny_loadPart_at hC ?_ | with_reducible refine wpAny_madeBy_exc hC ?_ | wp_step)
 refine codeAny_call_builtin_code (Code.quiet_builtin _ F.quiet) (wpAny_check_new_subT F T hC (codeAny_exc_new_subT F T hC ?_ hrest))
 obtain ⟨h2,eh2⟩:∃ h2,h2=(h.push { cls:=.type "tuple",data:=.seq rest.toArray }).push (excD C h.objs.size none):=⟨_,rfl⟩
 have kp:∀ b o,h.get? b=some o->h2.get? b=some o:=fun b o e=>by rw [eh2]; exact Heap.get?_push_of_some _ (Heap.get?_push_of_some _ e)
 have hget:h2.get? (h.objs.size+1)=some (excD C h.objs.size none):=by rw [eh2]; heap_get
 have htup:h2.get? h.objs.size=some { cls:=.type "tuple",data:=.seq rest.toArray }:=by rw [eh2]; exact Heap.get?_push_of_some _ (Heap.get?_push_at rfl rfl)
 show wpAny _ _ _ _ _ ⟨(h.push { cls:=.type "tuple",data:=.seq rest.toArray }).push (excD C h.objs.size none),g,d,t,os⟩
 rw [←eh2]
 clear eh2
 have hC2:=kp _ _ hC
 have hn2:=hn.keeps kp
 have hcC:(Value.ref C :: tl).contains (.ref C)=true:=by simp
 unfold isInstance
 repeat (first | with_reducible refine wpAny_loadPart_at hget ?_ | (with_reducible refine wpAny_isSubtype_exc hC2 ?_; rw [hcC]) | wp_step)
 show wpAny _ _ (typeLookup (.ref C) _) _ _ _
 refine wpAny_typeLookup_tail hC2 hn2 (T.keeps kp) F.mroIs F.init.lookup ?_
 rw [hi]
 refine wpAny_holding (wpAny_bind ?_)
 unfold bindSpecial
 refine wpAny_bind (wpAny_typeOf (T:="function") ⟨_,kp _ _ hfI,hfc⟩ ?_)
 rw [if_pos (by decide)]
 refine wpAny_pure (wpAny_bind (wpAny_mono (hq h2 (h.objs.size+1) h.objs.size ⟨kp,Heap.get?_none_of_le (Nat.le_succ _),h.objs.size,hget,Heap.get?_none_of_le (Nat.le_refl _),htup⟩ hget) (fun r s' hr=>?_) fun _ _ x=>x))
 obtain ⟨rfl,hQ⟩:=hr
 wp_walk
 exact hQ
theorem call_excI (F:ExcBaseFacts B newId initId bmB) (T:OwnTail s.heap bmB tl) {mN:Str->Option Value} {rest:List Value} {fI:Addr} {oI:Obj} {Q:Value->Shared->Prop}
  (hC:s.heap.get? C=some (ClsE nm qn C N bs tl hdct sn sub ab col dd k0 k1 k2 k3 k5 newId)) (hn:s.heap.Ns N mN) (hi:mN "__init__" = some (.ref fI)) (hfI:s.heap.get? fI=some oI) (hfc:oI.cls=.type "function")
  (hq:∀ h' e t,Heap.MadeExcOf s.heap h' e (.ref C) rest->h'.get? e=some (excD C t none) →
   wpAny (model prog w) (A.under (.builtin "type.__call__" ⟨.ref C :: rest,[]⟩)) (call (.ref fI) (.ref e :: rest)) (fun r s'=>r=.none∧Q (.ref e) s') E { s with heap:=h' }) (hrest:rest.length≤sizeLine) :
  wpAny (model prog w) A (call (.ref C) rest) Q E s:=by
 obtain ⟨h,g,d,t,os⟩:=s
 dsimp only at T hC hn hfI hq
 have f1:=tc_lookup
 have f2:=tc_bind (.ref C)
 have hT:(⟨h,g,d,t,os⟩:Shared).TypeIs (.ref C) "type":=⟨_,hC,rfl⟩
 refine wpAny_call (codeAny_of_tree ?_)
 show wpAny _ _ (callAny (.ref C) _) _ _ _
 repeat (any_goals (first | assumption | with_reducible refine wpAny_loadPart_at hC ?_ | wp_step))
 refine ⟨rfl,codeAny_call_builtin_at (Code.quiet_builtin _ (by decide +kernel)) entry_typeCall (wpAny_check_type_call_sub hC (type_callI F T hC hn hi hfI hfc (fun h' e t' hm ht=>?_) hrest))⟩
 exact hq h' e t' hm ht
theorem raise_callI (F:ExcBaseFacts B newId initId bmB) {mN:Str->Option Value} {x:Str} {np cpos pos:Pos} {args:List PySem.Expr} {fI:Addr} {oI:Obj} {Q:Flow->Shared->Prop} (hb:tl.contains (.type "BaseException")=true) (hh:A.handled=none)
  (hpl:(backTo cpos (starEach args env)).any (·.1)=false) (hi:mN "__init__" = some (.ref fI)) (hfc:oI.cls=.type "function")
  (h:wpAny (model prog w) A (eval (.Name x np) env) (fun f s1=>f=.ref C∧wpAny (model prog w) A (evalArgs (.ref C) true (backTo cpos (starEach args env)) [])
   (fun a s2=>a.kw=[]∧a.pos.length≤sizeLine∧s2.heap.get? C=some (ClsE nm qn C N bs tl hdct sn sub ab col dd k0 k1 k2 k3 k5 newId)∧s2.heap.Ns N mN∧OwnTail s2.heap bmB tl∧s2.heap.get? fI=some oI ∧
    ∀ h' e t,Heap.MadeExcOf s2.heap h' e (.ref C) a.pos->h'.get? e=some (excD C t none) →
     wpAny (model prog w) (A.under (.builtin "type.__call__" ⟨.ref C :: a.pos,[]⟩)) (call (.ref fI) (.ref e :: a.pos)) (fun r s'=>r=.none∧(∃ od,s'.heap.get? e=some (excD C t od))∧s'.heap.get? C=some (ClsE nm qn C N bs tl hdct sn sub ab col dd k0 k1 k2 k3 k5 newId)∧E (.ref e) s') E { s2 with heap:=h' }) E s1) E s) :
  wpAny (model prog w) A (exec (.Raise (some (.Call (.Name x np) args [] cpos)) none pos) env) Q E s:=by
 rw [arm_exec_Raise]
 refine wpAny_bind (wpAny_standAt (raise_stmtD (C:=C) (nm:=nm) (qn:=qn) (N:=N) (bs:=bs) (tl:=tl) (hdct:=hdct) (sn:=sn) (sub:=sub) (ab:=ab) (col:=col) (dd:=dd) (k0:=k0) (k1:=k1) (k2:=k2) (k3:=k3) (k5:=k5) (newId:=newId) hb hh ?_))
 refine wpAny_bind (wpAny_mono (wpAny_Call_ofName (wpAny_mono h (fun f s1 h1=>?_) fun _ _ x=>x)) (fun v s3 h3=>wpAny_bind (wpAny_standAt (wpAny_pure h3))) fun _ _ x=>x)
 obtain ⟨rfl,h1⟩:=h1
 unfold callWith
 refine wpAny_bind (wpAny_holding (wpAny_mono h1 (fun a s2 h2=>wpAny_bind (wpAny_standAt ?_)) fun _ _ x=>x))
 obtain ⟨apos,akw⟩:=a
 obtain ⟨hkw,hlen,hC,hn,T,hfI,h2⟩:=h2
 obtain rfl:akw=[]:=hkw
 simp only [hpl]
 obtain ⟨hp,g,d,tk,os⟩:=s2
 refine wpAny_bind (wpAny_keeperOf_exc hC ?_)
 refine wpAny_bind (call_excI (s:=⟨hp,g,d,tk,os⟩) F T hC hn hi hfI hfc (fun h' e t hm ht=>wpAny_mono (h2 h' e t hm ht) (fun r s' hr=>⟨hr.1,wpAny_bind (wpAny_holding (wpAny_point (wpAny_pure ?_)))⟩) fun _ _ z=>z) hlen)
 obtain ⟨_,⟨od,h4⟩,h5,h6⟩:=hr
 exact ⟨e,t,od,rfl,h5,h4,h6⟩
end
end L2
namespace L2
open PySem PySem.Spec PyProof.Rows PySem.W
def exMro:List Value->Bool
 | [.type a,.type b,.type c,.type d]=>a == "ValueError" && b == "Exception" && c == "BaseException" && d == "object"
 | .ref _ :: r=>exMro r
 | _=>false
def exIn (K:Frag) (C:Addr):Bool:=(clsIn K C).any fun cd=>cd.hasDict && exMro cd.mro
theorem exMro_spec:∀ {l:List Value},exMro l=true->(∀ self,refuseLoop self "__setattr__" l=pure ())∧l.contains (.type "object")=true∧l.isEmpty=false
 | [.type a,.type b,.type c,.type d],e=>by
  have e':(a == "ValueError" && b == "Exception" && c == "BaseException" && d == "object")=true:=e
  simp only [Bool.and_eq_true,beq_iff_eq] at e'
  obtain ⟨⟨⟨rfl,rfl⟩,rfl⟩,rfl⟩:=e'
  exact ⟨PySem.F.store_ValueError.passes,by decide,rfl⟩
 | .ref c :: r,e=>by
  have e':exMro r=true:=by
   unfold exMro at e
   exact e
  obtain ⟨h1,h2,_⟩:=exMro_spec (l:=r) e'
  exact ⟨fun self=>by rw [refuseLoop_ref]; exact h1 self,by rw [List.contains_cons,h2,Bool.or_true],rfl⟩
section
variable {prog:Program} {w:World} {A:Around} {E:Value->Shared->Prop} {s:Shared} {K:Frag} {x C:Addr} {ox:Obj} {name:Str} {v:Value}
theorem xset {Q:Unit->Shared->Prop} (X:K.In s.heap) (hx:s.heap.get? x=some ox) (hcl:ox.cls=.ref C) (hdn:ox.dict=none) (hno:notCls ox=true)
  (hs:findIn K (.ref C) "__setattr__" = some (some (.builtin "object.__setattr__"))) (hm:exIn K C=true) (hn:findIn K (.ref C) name=some none)
  (h:∀ h' d tk,s.heap.get? d=none->h'.get? x=some { ox with dict:=some d }->h'.Ns1 d (fun y=>if y=name then some v else none)->(∀ b o,b≠x->s.heap.get? b=some o->h'.get? b=some o)->Q () { s with heap:=h',toks:=tk }) :
  wpAny (model prog w) A (setAttr (.ref x) name v) Q E s:=by
 have I:InstAt s.heap x ox C none:=⟨hx,hcl,hno,by rw [hdn]; trivial⟩
 obtain ⟨cd,hc,hcd⟩:=any_some hm
 rw [Bool.and_eq_true] at hcd
 obtain ⟨hhd,hmro⟩:=hcd
 obtain ⟨m1,m2,m3⟩:=exMro_spec hmro
 have SF:=PySem.F.store_object
 refine set_plain X I hs ?_
 obtain ⟨hp,g,d,tk,os⟩:=s
 dsimp only at X hx I h ⊢
 have sub:Looks (model prog w) hp (isInstance (.ref x) (.type "object")) true:=I.type.andThen (looks_mroIn X (by unfold mroIn; rw [hc,Option.bind_some,if_neg (by rw [m3]; decide),m2]))
 refine codeAny_call_builtin SF.slot.plain SF.entry (@check_slot (model prog w) _ _ ⟨hp,g,d,tk+1,os⟩ "object.__setattr__" "object" "__setattr__" (.ref x) [.str name tk,v] [] _ SF.kind SF.split sub (SF.args (.ref x) (.str name tk) v) ?_)
 have hmo:Looks (model prog w) hp (mroOf (.ref C)) cd.mro:=(looks_clsIn X hc).andThen .now
 rw [osa_eq,refuse_eq]
 refine wpAny_bind (wpAny_bind (I.type.at (wpAny_bind (hmo.at ?_))))
 rw [m1]
 refine wpAny_pure (wpAny_bind (I.type.at (wpAny_bind ((looks_findIn X hn).at (wpAny_bind (Looks.now.at ?_))))))
 show wpAny _ _ (Builtin.ObjectAttr.storeInOwnDict (.ref x) (.ref C) (.str name tk) name v false) _ _ _
 obtain ⟨oc,od,oda,osl⟩:=ox
 dsimp only at hcl hdn
 subst hcl
 subst hdn
 refine wpAny_bind (wpAny_pure (wpAny_bind (wpAny_bind (wpAny_loadPart hx (wpAny_bind ((looks_clsIn X hc).at ?_))))))
 rw [hhd]
 have hx1:(hp.push { cls:=.type "dict",data:=.dict #[] }).get? x=some ⟨.ref C,none,oda,osl⟩:=Heap.get?_push_of_some _ hx
 have hxs:x≠hp.objs.size:=Nat.ne_of_lt (Heap.lt_size hx)
 have hfr:=(Heap.get?_some_iff.mp hx).2
 have hx2:((hp.push { cls:=.type "dict",data:=.dict #[] }).update x fun o=>{ o with dict:=some hp.objs.size }).get? x=some ⟨.ref C,some hp.objs.size,oda,osl⟩:=Heap.get?_update_self _ hx1 (by cases oda <;> first | rfl | exact hfr)
 have hgd:((hp.push { cls:=.type "dict",data:=.dict #[] }).update x fun o=>{ o with dict:=some hp.objs.size }).get? hp.objs.size=some { cls:=.type "dict",data:=.dict #[] }:=(Heap.get?_update_ne _ _ _ _ hxs.symm).trans (Heap.get?_push_at rfl rfl)
 have hko:∀ b o,b≠x->hp.get? b=some o->((hp.push { cls:=.type "dict",data:=.dict #[] }).update x fun o=>{ o with dict:=some hp.objs.size }).get? b=some o:=fun b o n e=>(Heap.get?_update_ne _ _ _ _ n).trans (Heap.get?_push_of_some _ e)
 have fin:wpAny (model prog w) A.in1 (Builtin.ObjectAttr.storeInDict hp.objs.size (.str name tk) name v) (fun fin s'=>match fin with
   | .done f=>(match (Except.ok f:Result) with | .ok (.ret _)=>Q () s' | .ok _=>False | .error e=>E e s')
   | .again c'=>c'.quiet=true∧codeAny (model prog w) A c' (fun r s'=>match r with | .ok (.ret _)=>Q () s' | .ok _=>False | .error e=>E e s') s') (fun e s'=>E e s')
   ⟨(hp.push { cls:=.type "dict",data:=.dict #[] }).update x fun o=>{ o with dict:=some hp.objs.size },g,d,tk+1,os⟩:=by
  have hnd:((hp.push { cls:=.type "dict",data:=.dict #[] }).update x fun o=>{ o with dict:=some hp.objs.size }).Ns hp.objs.size (fun _=>none):=⟨_,#[],_,hgd,rfl,fun e he=>absurd he (by simp),fun _=>rfl⟩
  unfold Builtin.ObjectAttr.storeInDict Builtin.ObjectAttr.newKeyGuard
  refine wpAny_bind (wpAny_pure (wpAny_bind (wpAny_nsSet1 (Heap.Ns1.of_empty hnd) fun h' hn' hs=>?_)))
  obtain ⟨oD,esD,epD,hoD,hdD,hcD⟩:=hn'.count (Within.cons name v Within.nil)
  refine wpAny_bind (wpAny_lookBehind hoD (by rw [hdD]; exact pastItsLine_dict (Nat.le_trans hcD (by rw [List.length_cons,List.length_nil,sizeLine_eq]; omega))) ?_)
  refine wpAny_pure ?_
  exact h h' hp.objs.size _ (Heap.get?_none_of_le (Nat.le_refl _)) ((hs.2 x hxs).trans hx2) hn' fun b o n e=>(hs.2 b (Nat.ne_of_lt (Heap.lt_size e))).trans (hko b o n e)
 cases oda with
 | cls c=>cases hno
 | _ =>
  refine wpAny_bind (wpAny_alloc' ?_)
  refine wpAny_bind (wpAny_update' hx1 ?_)
  exact wpAny_pure fin
end
end L2
namespace L2
open PySem PySem.Spec PyProof.Rows
section
variable {X:Cx}
end
end L2
namespace L2
open PySem PySem.Spec PyProof.Rows
section
variable {prog:Program} {w:World} {A:Around} {E:Value->Shared->Prop} {s:Shared}
theorem nextT_item {c t:Addr} {k:Nat} {vs:Array Value} {y:Value} {Q:Value->Shared->Prop} (hc:s.heap.IsTupleIter c t k) (ht:s.heap.IsTuple t vs) (hy:vs[k]?=some y)
  (hQ:∀ h',h'.IsTupleIter c t (k+1)->Heap.SameBut c s.heap h'->Q y { s with heap:=h' }):wpAny (model prog w) A (Builtin.SmallTypes.nextOf (.ref c)) Q E s:=by
 obtain ⟨ob,e1,e2,e3⟩:=id hc
 obtain ⟨ot,f1,_,nt,f2⟩:=ht
 unfold Builtin.SmallTypes.nextOf
 refine wpAny_bind (wpAny_callSpecial?_slot (name:=Str.ofString "__next__") hc.typeIs PySem.F.slot_tuple_iterator_next (wpAny_call_entry PySem.F.slot_tuple_iterator_next hc.typeIs PySem.F.entry_tuple_iterator_next ?_ (PySem.F.args_tuple_iterator_next_1 _)))
 show wpAny _ _ (field (.ref c) 0 >>= _) _ _ s
 refine wpAny_bind (wpAny_field e1 e3 (x:=.ref t) rfl ?_)
 show wpAny _ _ (if (Value.ref t == Value.none)=true then _ else _) _ _ _
 rw [if_neg (show ¬ ((Value.ref t == Value.none)=true) by exact Bool.false_ne_true)]
 show wpAny _ _ (field (.ref c) 1 >>= _) _ _ s
 refine wpAny_bind (wpAny_field e1 e3 (x:=.int k 0) rfl ?_)
 show wpAny _ _ (seqItems? (.ref t) >>= _) _ _ _
 refine wpAny_bind (wpAny_seqItems f1 f2 ?_)
 simp only [Int.toNat_natCast,hy]
 refine wpAny_bind (wpAny_setField e1 e3 (by simp) (wpAny_pure ⟨y,rfl,wpAny_pure (hQ _ ?_ (Heap.SameBut.update ..))⟩))
 exact ⟨_,Heap.get?_update_self _ e1 (Obj.isFreed_of_fields (Obj.data_mapFields e3 _)),(Obj.cls_mapFields ..).trans e2,by rw [Obj.data_mapFields e3]; simp [rawInt]⟩
theorem nextT_end {c t:Addr} {k:Nat} {vs:Array Value} {Q:Value->Shared->Prop} (hh:A.handled=none) (hc:s.heap.IsTupleIter c t k) (ht:s.heap.IsTuple t vs) (hy:vs[k]?=none)
  (hE:∀ h' x,Heap.ExtBut c s.heap h'->(∃ o,h'.get? x=some o∧o.cls=.type "StopIteration")->E (.ref x) { s with heap:=h' }):wpAny (model prog w) A (Builtin.SmallTypes.nextOf (.ref c)) Q E s:=by
 obtain ⟨ob,e1,e2,e3⟩:=id hc
 obtain ⟨ot,f1,_,nt,f2⟩:=ht
 unfold Builtin.SmallTypes.nextOf
 refine wpAny_bind (wpAny_callSpecial?_slot (name:=Str.ofString "__next__") hc.typeIs PySem.F.slot_tuple_iterator_next (wpAny_call_entry PySem.F.slot_tuple_iterator_next hc.typeIs PySem.F.entry_tuple_iterator_next ?_ (PySem.F.args_tuple_iterator_next_1 _)))
 show wpAny _ _ (field (.ref c) 0 >>= _) _ _ s
 refine wpAny_bind (wpAny_field e1 e3 (x:=.ref t) rfl ?_)
 show wpAny _ _ (if (Value.ref t == Value.none)=true then _ else _) _ _ _
 rw [if_neg (show ¬ ((Value.ref t == Value.none)=true) by exact Bool.false_ne_true)]
 show wpAny _ _ (field (.ref c) 1 >>= _) _ _ s
 refine wpAny_bind (wpAny_field e1 e3 (x:=.int k 0) rfl ?_)
 show wpAny _ _ (seqItems? (.ref t) >>= _) _ _ _
 refine wpAny_bind (wpAny_seqItems f1 f2 ?_)
 simp only [Int.toNat_natCast,hy]
 refine wpAny_bind (wpAny_rule (wpAny_bind (wpAny_setField e1 e3 (by simp) ?_)))
 show wpAny _ _ (newExc (.type "StopIteration") [] >>= _) _ _ (_:Shared)
 refine wpAny_bind ?_
 simp only [newExc,newTuple]
 refine wpAny_bind (wpAny_newObj_type ?_ (by size_fits)); refine wpAny_bind (m:=firstArgMember _ _) (wpAny_of_eq (a:=Value.none) (by first | rfl | (simp only [firstArgMember]; rfl)) ?_)
 refine wpAny_newObj_type ?_ (by size_fits); simp only [raiseNew]
 refine wpAny_bind (wpAny_handled ?_); first | rw [show A.in1.handled=none from hh] | rw [hh]
 refine wpAny_bind (wpAny_pure (wpAny_throw (hE _ _ (((Heap.SameBut.update ..).extBut.push _).push _) ⟨_,Heap.get?_push_size _ rfl,rfl⟩)))
theorem drawsT (hh:A.handled=none) (c t:Addr) (hne:t≠c) (vs:Array Value) :
  Draws prog w A c [c,t] vs.size (fun i v=>vs[i]?=some v) (fun i h=>h.IsTupleIter c t i∧h.IsTuple t vs) where
 live:=fun _ _ st=>let ⟨o,ho,_⟩:=st.1; ⟨o,ho⟩
 frame:=fun _ _ _ st hk=>⟨let ⟨o,ho,r⟩:=st.1; ⟨o,hk c (by simp) o ho,r⟩,let ⟨o,ho,r⟩:=st.2; ⟨o,hk t (by simp) o ho,r⟩⟩
 item:=fun i s' Q' E' hi st hQ=>nextT_item st.1 st.2 (y:=vs[i]) (by simp [hi]) fun h' k1 k2=>hQ _ h' s'.toks (by simp [hi]) ⟨k1,st.2.extBut k2.extBut hne⟩ k2
 done:=fun s' Q' E' st hE=>nextT_end hh st.1 st.2 (by simp) hE
set_option maxHeartbeats 1000000 in
theorem meets_enumT (t:Addr) (vs:Array Value) (n:Nat) (dct:Option Addr) (sl:Array (Option Value)) :
  Meets (Builtin.«enumerate.__new__» ⟨[.type "enumerate",.ref t],[]⟩) (fun _ R s=>s.heap.get? t=some { cls:=.type "tuple",dict:=dct,data:=.seq vs n,slots:=sl } ∧
   R (.ok (.ret (.ref (s.heap.push { cls:=.type "tuple_iterator",data:=.fields #[.ref t,.int 0 0] }).objs.size)))
    { s with heap:=(s.heap.push { cls:=.type "tuple_iterator",data:=.fields #[.ref t,.int 0 0] }).push { cls:=.type "enumerate",data:=.fields #[.none,.bool false,.ref s.heap.objs.size,rawInt 0,.none,.none] } }) :=
 .of_wp fun prog w A R s h=>by
  obtain ⟨hp,g,d,tk,os⟩:=s; obtain ⟨ht,h⟩:=h
  have hsub:=sub_enumerate
  have hT:Heap.IsTuple (Shared.heap ⟨hp,g,d,tk,os⟩) t vs:=⟨_,ht,rfl,n,rfl⟩
  wp_walk using AutoSeq1.wpAny_loadPart' ht
  refine wpAny_stack_any fun st=>wpAny_pure ?_
  split
  ·rename_i c _ _ _ _ _
   cases (c == Value.type "enumerate") <;> (wp_walk using AutoSeq1.wpAny_loadPart' ht,wpAny_pyIter_tuple hT; exact ⟨_,rfl,h⟩)
  ·wp_walk using AutoSeq1.wpAny_loadPart' ht,wpAny_pyIter_tuple hT; exact ⟨_,rfl,h⟩
theorem call_enumT {t:Addr} {vs:Array Value} {Q:Value->Shared->Prop} (hT:s.heap.IsTuple t vs)
  (h:∀ h',IsEnum h' (s.heap.objs.size+1) s.heap.objs.size 0 .none->h'.IsTupleIter s.heap.objs.size t 0->(∀ b o,s.heap.get? b=some o->h'.get? b=some o)->Q (.ref (s.heap.objs.size+1)) { s with heap:=h' }) :
  wpAny (model prog w) A (call (.type "enumerate") [.ref t]) Q E s:=by
 obtain ⟨⟨c,dct,dt,sl⟩,ht,hc,n,hd⟩:=hT
 obtain rfl:c=.type "tuple":=hc
 obtain rfl:dt=.seq vs n:=hd
 refine callType_new PySem.F.called_enumerate (by decide) (PySem.F.typeCall_enumerate_1 _) (PySem.F.newCall_enumerate_1 _) (fun obj=>PySem.F.args_object_init_2 obj _) PySem.F.entry_enumerate_new (meets_enumT t vs n dct sl) ⟨ht,?_⟩
 have z:(s.heap.push { cls:=.type "tuple_iterator",data:=.fields #[.ref t,.int 0 0] }).objs.size=s.heap.objs.size+1:=Heap.size_push ..
 show _∧_
 rw [z]
 have he:IsEnum ((s.heap.push { cls:=.type "tuple_iterator",data:=.fields #[.ref t,.int 0 0] }).push { cls:=.type "enumerate",data:=.fields #[.none,.bool false,.ref s.heap.objs.size,rawInt 0,.none,.none] }) (s.heap.objs.size+1) s.heap.objs.size 0 .none:=by
  have q:=Heap.get?_push_size (s.heap.push { cls:=.type "tuple_iterator",data:=.fields #[.ref t,.int 0 0] }) (o:={ cls:=.type "enumerate",data:=.fields #[.none,.bool false,.ref s.heap.objs.size,rawInt 0,.none,.none] }) rfl
  rw [z] at q
  exact q
 exact ⟨⟨_,he,rfl⟩,h _ he ⟨_,Heap.get?_push_of_some _ (Heap.get?_push_size _ rfl),rfl,rfl⟩ fun b o q=>Heap.get?_push_of_some _ (Heap.get?_push_of_some _ q)⟩
end
section
variable {X:Cx}
def Ite (a : Addr) : It :=
  ⟨fun i H => ∃ xs x, H a = some (.tup xs) ∧ xs[i]? = some x,
   fun i H v H' => ∃ p x, v = .ref p ∧ H p = none ∧ H' = upd H p (.tup [.int i, x]) ∧ ∀ xs, H a = some (.tup xs) → xs[i]? = some x,
   fun i H => ∃ xs, H a = some (.tup xs) ∧ xs.length = i⟩
theorem turn_enum {P:Program} {w:World} {K:PySem.W.Frag} {es:List PySem.Expr} {kk:Nat} {pos:Pos} {a e it:Addr} (hei:e≠it) :
  Turn P w K (.Tuple es kk pos) (Ite a) [e,it] e (fun i h=>(∃ old,IsEnum h e it ((i:Nat):Int) old)∧h.IsTupleIter it a i) where
 mem:=by simp
 obj:=fun i h st c hc=>by
  obtain ⟨⟨old,h1⟩,o2,h2,_,d2⟩:=st
  simp only [List.mem_cons,List.not_mem_nil,or_false] at hc
  rcases hc with rfl | rfl
  ·exact ⟨_,h1,fun v z=>by have z':Data.fields _=Data.cell v:=z; cases z'⟩
  ·exact ⟨_,h2,fun v z=>by rw [d2] at z; cases z⟩
 keep:=fun i h h' st k=>by
  obtain ⟨⟨old,h1⟩,o2,h2,r⟩:=st
  exact ⟨⟨old,k e (by simp) _ h1⟩,o2,k it (by simp) _ h2,r⟩
 item:=by
  intro X hP hw hK hc i pins s σ H E I hf st hg
  subst hP hw hK
  obtain ⟨xs,x,qa,hx⟩:=hg
  obtain ⟨its,rv,pa,_⟩:=I.tuple (SqT.of (K:=X.K) qa)
  obtain ⟨ux,hux,rx⟩:=rv.get hx
  obtain ⟨⟨old,h1⟩,h2⟩:=st
  have nea:e≠a:=fun z=>by
   have:=(hf e (by simp)).1
   rw [z,qa] at this
   cases this
  have nia:a≠it:=fun z=>by
   have:=(hf it (by simp)).1
   rw [←z,qa] at this
   cases this
  have hlt:i<its.toArray.size:=by
   rw [List.size_toArray]
   exact (List.getElem?_eq_some_iff.mp hux).1
  have D:Draws X.prog X.w X.A.in1 it [it,a] its.toArray.size (fun i v=>its.toArray[i]?=some v) (fun i h=>h.IsTupleIter it a i∧h.IsTuple a its.toArray):=drawsT (show X.A.in1.handled=none from I.ok.hd hc) it a nia its.toArray
  refine wpAny_pyNext_enum_itemD D h1 ⟨h2,pa⟩ hlt hei (by simp [hei,nea]) fun y h' tk hy a1 a2 a3 a4 k=>?_
  have hyx:y=ux:=by
   have q1:its.toArray[i]?=some y:=hy
   rw [List.getElem?_toArray,hux] at q1
   exact (Option.some.inj q1).symm
  subst hyx
  refine ⟨_,rfl,wpAny_letOwnedTupleGo_enum a1 fun h'' b1 sb=>?_⟩
  have sb:Heap.SameBut e h' h'':=sb
  have hse:s.heap.objs.size≠e:=Nat.ne_of_gt (Heap.lt_size h1)
  have hsi:s.heap.objs.size≠it:=by
   obtain ⟨o,g,_⟩:=id h2
   exact Nat.ne_of_gt (Heap.lt_size g)
  have hn:H s.heap.objs.size=none:=I.hok.fresh (Nat.le_refl _)
  have kk':∀ c o,c∉[e,it]->s.heap.get? c=some o->h''.get? c=some o:=fun c o hc q =>
   (sb.2 c fun z=>hc (by simp [z])).trans (k c o (fun z=>hc (by simp [z])) (fun z=>hc (by simp [z])) q)
  have tO:h''.get? s.heap.objs.size=some { cls:=.type "tuple",data:=.seq #[.int i tk,y] }:=(sb.2 _ hse).trans a3
  have nt:∀ c u,H c=some u->c∉[e,it]:=fun c u q hc=>by
   have:=(hf c hc).1
   rw [q] at this
   cases this
  have tupOk:ObjOk X.prog X.w (upd H s.heap.objs.size (.tup [.int i,x])) h'' s.heap.objs.size (.tup [.int i,x]) :=
   ⟨by show 2≤sizeLine; decide,[.int i tk,y],.cons ⟨tk,rfl⟩ (.cons rx .nil),⟨_,tO,rfl,_,rfl⟩,_,tO,rfl⟩
  have I1:Inv X pins σ (upd H s.heap.objs.size (.tup [.int i,x])) { s with heap:=h'',toks:=tk+1 }:=by
   refine I.step (g':=s.gens) (d':=s.drawn) (t':=tk+1) (ch:=[e,it]) (fun c hc=>⟨(hf c hc).2.2.2.1,(hf c hc).2.1,(hf c hc).2.2.2.2.1,(hf c hc).2.2.2.2.2⟩) (fun c o _ _ hc q _=>kk' c o hc q) (fun c o _ _ hc q _=>⟨o.slots,kk' c o hc q⟩)
    (fun c o _ q n=>by rw [upd_ne (Nat.ne_of_lt (Heap.lt_size q))]; exact n) (fun c o hc q=>⟨o,kk' c o hc q⟩) (fun c vs q=>by rw [upd_ne (ne_of_none q hn)]; exact q) (fun c o vs q=>by rw [upd_ne (ne_of_none q hn)]; exact q)
    (fun c ps q=>⟨#[],by rw [upd_ne (ne_of_none q hn),q]; simp⟩) (fun m hm=>?_) (fun c o q=>?_) I.bare
   ·obtain ⟨o,es',ep,ho,r⟩:=hm
    exact ⟨o,es',ep,kk' _ o (fun q=>(hf _ q).2.1 rfl) ho,r⟩
   ·by_cases hcs:c=s.heap.objs.size
    ·subst hcs
     rw [upd_same] at q
     cases q
     exact tupOk
    ·rw [upd_ne hcs] at q
     refine (I.hok c o q).stay (fun d v hd z=>kk' d v ?_ z) (fun d z=>by rw [upd_ne (ne_of_none z hn)]; exact z) fun d vs z=>by rw [upd_ne (ne_of_none z hn)]; exact z
     rcases hd with hd | hd
     ·rw [hd]; exact nt c o q
     ·exact nt d _ hd
  have g2:h''.IsTupleIter it a (i+1):=by
   obtain ⟨⟨o,g,r⟩,_⟩:=a2
   exact ⟨o,(sb.2 _ (Ne.symm hei)).trans g,r⟩
  have g1:IsEnum h'' e it (((i+1:Nat)):Int) y:=by
   have:((i+1:Nat):Int)=(i:Int)+1:=by omega
   rw [this]
   exact b1
  exact ⟨.ref s.heap.objs.size,_,I1,rfl,⟨_,x,rfl,hn,rfl,fun xs' q=>by rw [qa] at q; cases q; exact hx⟩,⟨⟨_,g1⟩,g2⟩,fun c hc=>by
   have:c≠s.heap.objs.size:=by
    simp only [List.mem_cons,List.not_mem_nil,or_false] at hc
    rcases hc with rfl | rfl
    ·exact Ne.symm hse
    ·exact Ne.symm hsi
   rw [upd_ne this]
   exact (hf c hc).1⟩
 done:=by
  intro X hP hw hK hc i pins s σ H E I hf st hg
  subst hP hw hK
  obtain ⟨xs,qa,hl⟩:=hg
  obtain ⟨its,rv,pa,_⟩:=I.tuple (SqT.of (K:=X.K) qa)
  obtain ⟨⟨old,h1⟩,h2⟩:=st
  have nia:a≠it:=fun z=>by
   have:=(hf it (by simp)).1
   rw [←z,qa] at this
   cases this
  have D:Draws X.prog X.w X.A.in1 it [it,a] its.toArray.size (fun i v=>its.toArray[i]?=some v) (fun i h=>h.IsTupleIter it a i∧h.IsTuple a its.toArray):=drawsT (show X.A.in1.handled=none from I.ok.hd hc) it a nia its.toArray
  have hi:its.toArray.size=i:=by
   rw [List.size_toArray,←rv.length]
   exact hl
  obtain ⟨f0,f1,f2,f3,f4,f5⟩:=hf it (by simp)
  refine wpAny_pyNext_enum_endD D h1 (by rw [hi]; exact ⟨h2,pa⟩) fun h' k=>⟨rfl,I.turned (t':=s.toks) (fun b o hb q=>k b o hb q) f0 f1 f3 f4 f5⟩
 self:=fun _ _ _ _ _ st h=>by
  obtain ⟨⟨old,h1⟩,_⟩:=st
  exact wpAny_pyIter_enum h1 h
def iEnum (ta:TA):TI:=fun σ H R=>ta σ H fun vs H1=>∃ a xs,vs=[.ref a]∧H1 a=some (.tup xs)∧R (Ite a) H1
theorem pi_enum {es:List PySem.Expr} {kk:Nat} {tpos:Pos} {a:PySem.Expr} {ta:TA} {p pos:Pos} (hg:Gl X "enumerate") (hm:X.mg "enumerate" = none) (ha:PA X [a] ta) (hs:starEach [a] X.env=[(false,eval a X.env)]:=by rfl) :
  PI X (.Tuple es kk tpos) (.Call (.Name "enumerate" p) [a] [] pos) (iEnum ta):=by
 intro pins s σ H R I h
 refine Call_ (ld_blt I hg hm PyProof.Rows.boot_enumerate (PyProof.Rows.callWith_type1 (thn (ha pos pins s σ H _ I h) fun us s1 ⟨vs,H1,I1,r1,q1⟩=>?_) hs rfl))
 obtain ⟨la,xs,e,qa,q⟩:=q1
 subst e
 obtain ⟨u1,rfl,ra⟩:=vals1 r1
 cases ra
 obtain ⟨its,rv,pa,_⟩:=I1.tuple (SqT.of (K:=X.K) qa)
 refine call_enumT pa fun h' z1 z2 zk=>wpAny_pyIter_enum z1 ?_
 have I2:Inv X pins σ H1 { s1 with heap:=h' }:=I1.kept (t':=s1.toks) zk
 refine ⟨s1.heap.objs.size+1,_,_,_,H1,rfl,I2,turn_enum (Nat.succ_ne_self _),⟨⟨_,z1⟩,z2⟩,fun c hc=>?_,q⟩
 have hge:s1.heap.objs.size≤c:=by
  simp only [List.mem_cons,List.not_mem_nil,or_false] at hc
  rcases hc with rfl | rfl <;> omega
 exact I1.fpOk (H':=H1) hge (I1.hok.fresh hge)
theorem for_enum {a:Addr} {xs:List V} {g:TG} {tb:TS} {D:Ends} {σ:St} {H:Hp} (Pv:Nat->St->Hp->Prop) (h0:Pv 0 σ H) (hl:∀ i σ H,i≤xs.length->Pv i σ H->H a=some (.tup xs))
  (hs:∀ i x σ H p,xs[i]?=some x->Pv i σ H->H p=none->g (.ref p) σ (upd H p (.tup [.int i,x])) fun σ2 H2=>tb { D with nx:=Pv (i+1),ct:=Pv (i+1),bk:=D.nx } σ2 H2) (hd:∀ σ H,Pv xs.length σ H->D.nx σ H) :
  ∃ W:Nat->Nat->St->Hp->Prop,(∃ m,W 0 m σ H)∧∀ i m σ H,W i m σ H →
   ((Ite a).stop i H∧D.nx σ H)∨((Ite a).go i H∧∃ N:St->Hp->Prop,(∀ σ' H',N σ' H'->∃ m',m' < m∧W (i+1) m' σ' H')∧∀ x H',(Ite a).yld i H x H'->g x σ H' fun σ2 H2=>tb { D with nx:=N,ct:=N,bk:=D.nx } σ2 H2):=by
 refine ⟨fun i m σ H=>m=xs.length-i∧i≤xs.length∧Pv i σ H,⟨xs.length,by simp,Nat.zero_le _,h0⟩,?_⟩
 rintro i m σ H ⟨rfl,hi,p⟩
 have qa:=hl i σ H hi p
 rcases Nat.lt_or_ge i xs.length with hlt | hge
 ·refine .inr ⟨⟨xs,xs[i],qa,by simp [hlt]⟩,Pv (i+1),fun σ' H' p'=>⟨xs.length-(i+1),by omega,rfl,hlt,p'⟩,fun v H' yl=>?_⟩
  obtain ⟨pa,x,rfl,hp,rfl,hx⟩:=yl
  exact hs i x σ H pa (hx xs qa) p hp
 ·obtain rfl:i=xs.length:=by omega
  exact .inl ⟨⟨xs,qa,rfl⟩,hd σ H p⟩
def rInsert:V->List V->Hp->VK->Prop:=fun x vs H Q=>∃ l xs k y,x=.ref l∧vs=[.int k,y]∧H l=some (.lst xs)∧0≤k∧k≤xs.length∧xs.length<1000000∧Q .non (upd H l (.lst (xs.take k.toNat++y :: xs.drop k.toNat)))
theorem mt_insert:MtM X "list.insert" rInsert:=by
 intro pins s σ H x vs v us Q I rx rv h
 obtain ⟨l,xs,k,y,rfl,rfl,hH,k0,k1,hz,q⟩:=h
 cases rx
 obtain ⟨u1,u2,rfl,r1,r2⟩:=vals2 rv
 obtain ⟨t,rfl⟩:=r1
 obtain ⟨z,its,n,r,hl,e⟩:=I.lstM hH
 have hzs:its.length≤sizeLine:=by rw [←hl]; exact z
 have hfit:¬ (!Builtin.List.listFitsIndex k)=true:=by
  unfold Builtin.List.listFitsIndex
  simp only [Bool.not_eq_true,Bool.not_eq_false',Bool.and_eq_true,decide_eq_true_eq]
  omega
 refine call_meets PySem.F.slot_list_insert ⟨_,e,rfl⟩ PySem.F.entry_list_insert (PySem.F.args_list_insert_3 _ _ _) (AutoSeq1.list_insert_list_int_val_1 l its.toArray n k t u2 hfit (by rw [List.size_toArray]; exact hzs)) ⟨e,?_⟩
 refine ⟨.non,_,I.lset (its':=its.take k.toNat++u2 :: its.drop k.toNat) hH e ?_ ((r.take _).append (.cons r2 (r.drop _))) ?_,rfl,q⟩
 ·have hk:¬ k<0:=by omega
  have hm:min k.toNat its.toArray.size=k.toNat:=by rw [List.size_toArray]; omega
  simp only [if_neg hk,hm]
  apply Array.toList_inj.mp
  simp
  exact List.take_of_length_le (by simp)
 ·rw [List.length_append,List.length_cons,List.length_take,List.length_drop]
  rw [sizeLine_eq] at *
  omega
theorem call_minT (hc:X.calm=true):CallR X (.builtin "min") (fun xs H Q=>∃ (p:Addr) (ns:List Int),xs=[.ref p]∧H p=some (.tup (ns.map V.int))∧0<ns.length∧∀ m,m∈ns->(∀ a∈ns,m≤a)->Q (.int m) H):=by
 intro pins s σ H xs us Q I r h
 obtain ⟨p,ns,rfl,hp,hne,q⟩:=h
 obtain ⟨u,rfl,r1⟩:=vals1 r
 cases r1
 obtain ⟨its,rv,pa,_⟩:=I.tuple (SqT.of (K:=X.K) hp)
 have hlen:its.length=ns.length:=by rw [←rv.length,List.length_map]
 have hlt:p<s.heap.objs.size:=by
  obtain ⟨o,ho,_⟩:=id pa
  exact Heap.lt_size ho
 have num:∀ i v,its.toArray[i]?=some v->∃ t,v=.int (ns.getD i 0) t∧i<ns.length:=fun i v hv=>by
  rw [List.getElem?_toArray] at hv
  have hi:i<its.length:=(List.getElem?_eq_some_iff.mp hv).1
  have hi2:i<ns.length:=by omega
  have hx:(ns.map V.int)[i]?=some (.int ns[i]):=by rw [List.getElem?_map,List.getElem?_eq_getElem hi2]; rfl
  obtain ⟨u,hu,ru⟩:=rv.get hx
  rw [hu] at hv
  obtain rfl:u=v:=Option.some.inj hv
  obtain ⟨t,rfl⟩:=ru
  exact ⟨t,by rw [List.getD_eq_getElem?_getD,List.getElem?_eq_getElem hi2]; rfl,hi2⟩
 refine call_min_walk (wpAny_pyIter_tuple pa ?_)
 refine ⟨s.heap.objs.size,_,_,_,_,_,fun i j=>decide (ns.getD i 0<ns.getD j 0),rfl,Walks.tuple (show X.A.in1.handled=none from I.ok.hd hc) _ p (Nat.ne_of_lt hlt) its.toArray,⟨⟨_,Heap.get?_push_size _ rfl,rfl,rfl⟩,pa.push _⟩,fun b hb=>?_,by rw [List.size_toArray]; omega,fun i j vi vj s' Q' E' hi hj hQ'=>?_,fun v h' tk hv k=>?_⟩
 ·simp only [List.mem_cons,List.not_mem_nil,or_false] at hb
  rw [Heap.size_push]
  rcases hb with rfl | rfl
  ·exact Nat.lt_succ_self _
  ·exact Nat.lt_succ_of_lt hlt
 ·obtain ⟨t1,rfl,_⟩:=num i vi hi
  obtain ⟨t2,rfl,_⟩:=num j vj hj
  exact lt_int hQ'
 ·obtain ⟨t,rfl,hb⟩:=num _ v hv
  obtain ⟨h1,h2⟩:=argBest_lt (fun i=>ns.getD i 0) (its.toArray.size-1)
  refine ⟨.int _,H,I.kept fun b o eb=>?_,⟨t,rfl⟩,q _ (getD_mem hb) fun a ha=>?_⟩
  ·exact k b o (fun z=>by
    have:b=s.heap.objs.size:=by simpa using z
    exact absurd (Heap.lt_size eb) (by rw [this]; exact Nat.lt_irrefl _)) (Heap.get?_push_of_some _ eb)
  ·obtain ⟨j,hj,rfl⟩:=mem_getD ha
   exact h2 j (by rw [List.size_toArray]; omega)
end
end L2
namespace L2
open PySem PySem.Spec PyProof.Rows
section
variable {X:Cx}
def ItEl (a : Addr) : It :=
  ⟨fun i H => ∃ xs x, H a = some (.lst xs) ∧ xs[i]? = some x,
   fun i H v H' => ∃ p x, v = .ref p ∧ H p = none ∧ H' = upd H p (.tup [.int i, x]) ∧ ∀ xs, H a = some (.lst xs) → xs[i]? = some x,
   fun i H => ∃ xs, H a = some (.lst xs) ∧ xs.length = i⟩
theorem turn_enumL {P:Program} {w:World} {K:PySem.W.Frag} {es:List PySem.Expr} {kk:Nat} {pos:Pos} {a e it:Addr} (hei:e≠it) :
  Turn P w K (.Tuple es kk pos) (ItEl a) [e,it] e (fun i h=>(∃ old,IsEnum h e it ((i:Nat):Int) old)∧h.IsListIter it a i) where
 mem:=by simp
 obj:=fun i h st c hc=>by
  obtain ⟨⟨old,h1⟩,o2,h2,_,d2⟩:=st
  simp only [List.mem_cons,List.not_mem_nil,or_false] at hc
  rcases hc with rfl | rfl
  ·exact ⟨_,h1,fun v z=>by have z':Data.fields _=Data.cell v:=z; cases z'⟩
  ·exact ⟨_,h2,fun v z=>by rw [d2] at z; cases z⟩
 keep:=fun i h h' st k=>by
  obtain ⟨⟨old,h1⟩,o2,h2,r⟩:=st
  exact ⟨⟨old,k e (by simp) _ h1⟩,o2,k it (by simp) _ h2,r⟩
 item:=by
  intro X hP hw hK hc i pins s σ H E I hf st hg
  subst hP hw hK
  obtain ⟨xs,x,qa,hx⟩:=hg
  obtain ⟨its,rv,pa,_⟩:=I.list (SqL.of (K:=X.K) qa)
  obtain ⟨ux,hux,rx⟩:=rv.get hx
  obtain ⟨⟨old,h1⟩,h2⟩:=st
  have nea:e≠a:=fun z=>by
   have:=(hf e (by simp)).1
   rw [z,qa] at this
   cases this
  have nia:a≠it:=fun z=>by
   have:=(hf it (by simp)).1
   rw [←z,qa] at this
   cases this
  have hlt:i<its.toArray.size:=by
   rw [List.size_toArray]
   exact (List.getElem?_eq_some_iff.mp hux).1
  have D:Draws X.prog X.w X.A.in1 it [it,a] its.toArray.size (fun i v=>its.toArray[i]?=some v) (fun i h=>h.IsListIter it a i∧h.IsList a its.toArray):=Draws.list (show X.A.in1.handled=none from I.ok.hd hc) it a nia its.toArray
  refine wpAny_pyNext_enum_itemD D h1 ⟨h2,pa.isList⟩ hlt hei (by simp [hei,nea]) fun y h' tk hy a1 a2 a3 a4 k=>?_
  have hyx:y=ux:=by
   have q1:its.toArray[i]?=some y:=hy
   rw [List.getElem?_toArray,hux] at q1
   exact (Option.some.inj q1).symm
  subst hyx
  refine ⟨_,rfl,wpAny_letOwnedTupleGo_enum a1 fun h'' b1 sb=>?_⟩
  have sb:Heap.SameBut e h' h'':=sb
  have hse:s.heap.objs.size≠e:=Nat.ne_of_gt (Heap.lt_size h1)
  have hsi:s.heap.objs.size≠it:=by
   obtain ⟨o,g,_⟩:=id h2
   exact Nat.ne_of_gt (Heap.lt_size g)
  have hn:H s.heap.objs.size=none:=I.hok.fresh (Nat.le_refl _)
  have kk':∀ c o,c∉[e,it]->s.heap.get? c=some o->h''.get? c=some o:=fun c o hc q =>
   (sb.2 c fun z=>hc (by simp [z])).trans (k c o (fun z=>hc (by simp [z])) (fun z=>hc (by simp [z])) q)
  have tO:h''.get? s.heap.objs.size=some { cls:=.type "tuple",data:=.seq #[.int i tk,y] }:=(sb.2 _ hse).trans a3
  have nt:∀ c u,H c=some u->c∉[e,it]:=fun c u q hc=>by
   have:=(hf c hc).1
   rw [q] at this
   cases this
  have tupOk:ObjOk X.prog X.w (upd H s.heap.objs.size (.tup [.int i,x])) h'' s.heap.objs.size (.tup [.int i,x]) :=
   ⟨by show 2≤sizeLine; decide,[.int i tk,y],.cons ⟨tk,rfl⟩ (.cons rx .nil),⟨_,tO,rfl,_,rfl⟩,_,tO,rfl⟩
  have I1:Inv X pins σ (upd H s.heap.objs.size (.tup [.int i,x])) { s with heap:=h'',toks:=tk+1 }:=by
   refine I.step (g':=s.gens) (d':=s.drawn) (t':=tk+1) (ch:=[e,it]) (fun c hc=>⟨(hf c hc).2.2.2.1,(hf c hc).2.1,(hf c hc).2.2.2.2.1,(hf c hc).2.2.2.2.2⟩) (fun c o _ _ hc q _=>kk' c o hc q) (fun c o _ _ hc q _=>⟨o.slots,kk' c o hc q⟩)
    (fun c o _ q n=>by rw [upd_ne (Nat.ne_of_lt (Heap.lt_size q))]; exact n) (fun c o hc q=>⟨o,kk' c o hc q⟩) (fun c vs q=>by rw [upd_ne (ne_of_none q hn)]; exact q) (fun c o vs q=>by rw [upd_ne (ne_of_none q hn)]; exact q)
    (fun c ps q=>⟨#[],by rw [upd_ne (ne_of_none q hn),q]; simp⟩) (fun m hm=>?_) (fun c o q=>?_) I.bare
   ·obtain ⟨o,es',ep,ho,r⟩:=hm
    exact ⟨o,es',ep,kk' _ o (fun q=>(hf _ q).2.1 rfl) ho,r⟩
   ·by_cases hcs:c=s.heap.objs.size
    ·subst hcs
     rw [upd_same] at q
     cases q
     exact tupOk
    ·rw [upd_ne hcs] at q
     refine (I.hok c o q).stay (fun d v hd z=>kk' d v ?_ z) (fun d z=>by rw [upd_ne (ne_of_none z hn)]; exact z) fun d vs z=>by rw [upd_ne (ne_of_none z hn)]; exact z
     rcases hd with hd | hd
     ·rw [hd]; exact nt c o q
     ·exact nt d _ hd
  have g2:h''.IsListIter it a (i+1):=by
   obtain ⟨⟨o,g,r⟩,_⟩:=a2
   exact ⟨o,(sb.2 _ (Ne.symm hei)).trans g,r⟩
  have g1:IsEnum h'' e it (((i+1:Nat)):Int) y:=by
   have:((i+1:Nat):Int)=(i:Int)+1:=by omega
   rw [this]
   exact b1
  exact ⟨.ref s.heap.objs.size,_,I1,rfl,⟨_,x,rfl,hn,rfl,fun xs' q=>by rw [qa] at q; cases q; exact hx⟩,⟨⟨_,g1⟩,g2⟩,fun c hc=>by
   have:c≠s.heap.objs.size:=by
    simp only [List.mem_cons,List.not_mem_nil,or_false] at hc
    rcases hc with rfl | rfl
    ·exact Ne.symm hse
    ·exact Ne.symm hsi
   rw [upd_ne this]
   exact (hf c hc).1⟩
 done:=by
  intro X hP hw hK hc i pins s σ H E I hf st hg
  subst hP hw hK
  obtain ⟨xs,qa,hl⟩:=hg
  obtain ⟨its,rv,pa,_⟩:=I.list (SqL.of (K:=X.K) qa)
  obtain ⟨⟨old,h1⟩,h2⟩:=st
  have nia:a≠it:=fun z=>by
   have:=(hf it (by simp)).1
   rw [←z,qa] at this
   cases this
  have D:Draws X.prog X.w X.A.in1 it [it,a] its.toArray.size (fun i v=>its.toArray[i]?=some v) (fun i h=>h.IsListIter it a i∧h.IsList a its.toArray):=Draws.list (show X.A.in1.handled=none from I.ok.hd hc) it a nia its.toArray
  have hi:its.toArray.size=i:=by
   rw [List.size_toArray,←rv.length]
   exact hl
  obtain ⟨f0,f1,f2,f3,f4,f5⟩:=hf it (by simp)
  refine wpAny_pyNext_enum_endD D h1 (by rw [hi]; exact ⟨h2,pa.isList⟩) fun h' k=>⟨rfl,I.turned (t':=s.toks) (fun b o hb q=>k b o hb q) f0 f1 f3 f4 f5⟩
 self:=fun _ _ _ _ _ st h=>by
  obtain ⟨⟨old,h1⟩,_⟩:=st
  exact wpAny_pyIter_enum h1 h
def iEnumL (ta:TA):TI:=fun σ H R=>ta σ H fun vs H1=>∃ a xs,vs=[.ref a]∧H1 a=some (.lst xs)∧R (ItEl a) H1
theorem pi_enumL {es:List PySem.Expr} {kk:Nat} {tpos:Pos} {a:PySem.Expr} {ta:TA} {p pos:Pos} (hg:Gl X "enumerate") (hm:X.mg "enumerate" = none) (ha:PA X [a] ta) (hs:starEach [a] X.env=[(false,eval a X.env)]:=by rfl) :
  PI X (.Tuple es kk tpos) (.Call (.Name "enumerate" p) [a] [] pos) (iEnumL ta):=by
 intro pins s σ H R I h
 refine Call_ (ld_blt I hg hm PyProof.Rows.boot_enumerate (PyProof.Rows.callWith_type1 (thn (ha pos pins s σ H _ I h) fun us s1 ⟨vs,H1,I1,r1,q1⟩=>?_) hs rfl))
 obtain ⟨la,xs,e,qa,q⟩:=q1
 subst e
 obtain ⟨u1,rfl,ra⟩:=vals1 r1
 cases ra
 obtain ⟨its,rv,pa,_⟩:=I1.list (SqL.of (K:=X.K) qa)
 refine call_enumerate_list pa.isList fun h' z1 z2 _ zk=>wpAny_pyIter_enum z1 ?_
 have I2:Inv X pins σ H1 { s1 with heap:=h' }:=I1.kept (t':=s1.toks) zk
 refine ⟨s1.heap.objs.size+1,_,_,_,H1,rfl,I2,turn_enumL (Nat.succ_ne_self _),⟨⟨_,z1⟩,z2⟩,fun c hc=>?_,q⟩
 have hge:s1.heap.objs.size≤c:=by
  simp only [List.mem_cons,List.not_mem_nil,or_false] at hc
  rcases hc with rfl | rfl <;> omega
 exact I1.fpOk (H':=H1) hge (I1.hok.fresh hge)
theorem for_enumL {a:Addr} {xs:List V} {g:TG} {tb:TS} {D:Ends} {σ:St} {H:Hp} (Pv:Nat->St->Hp->Prop) (h0:Pv 0 σ H) (hl:∀ i σ H,i≤xs.length->Pv i σ H->H a=some (.lst xs))
  (hs:∀ i x σ H p,xs[i]?=some x->Pv i σ H->H p=none->g (.ref p) σ (upd H p (.tup [.int i,x])) fun σ2 H2=>tb { D with nx:=Pv (i+1),ct:=Pv (i+1),bk:=D.nx } σ2 H2) (hd:∀ σ H,Pv xs.length σ H->D.nx σ H) :
  ∃ W:Nat->Nat->St->Hp->Prop,(∃ m,W 0 m σ H)∧∀ i m σ H,W i m σ H →
   ((ItEl a).stop i H∧D.nx σ H)∨((ItEl a).go i H∧∃ N:St->Hp->Prop,(∀ σ' H',N σ' H'->∃ m',m' < m∧W (i+1) m' σ' H')∧∀ x H',(ItEl a).yld i H x H'->g x σ H' fun σ2 H2=>tb { D with nx:=N,ct:=N,bk:=D.nx } σ2 H2):=by
 refine ⟨fun i m σ H=>m=xs.length-i∧i≤xs.length∧Pv i σ H,⟨xs.length,by simp,Nat.zero_le _,h0⟩,?_⟩
 rintro i m σ H ⟨rfl,hi,p⟩
 have qa:=hl i σ H hi p
 rcases Nat.lt_or_ge i xs.length with hlt | hge
 ·refine .inr ⟨⟨xs,xs[i],qa,by simp [hlt]⟩,Pv (i+1),fun σ' H' p'=>⟨xs.length-(i+1),by omega,rfl,hlt,p'⟩,fun v H' yl=>?_⟩
  obtain ⟨pa,x,rfl,hp,rfl,hx⟩:=yl
  exact hs i x σ H pa (hx xs qa) p hp
 ·obtain rfl:i=xs.length:=by omega
  exact .inl ⟨⟨xs,qa,rfl⟩,hd σ H p⟩
end
end L2
namespace L2
open PySem PySem.Spec PyProof.Rows
theorem name_goH {i:Nat} {v:V} {σ:L2.St} {H:Hp} {k:L2.St->Hp->Prop} (h:k (σ.set i (some v)) H):gName i v σ H k:=h
theorem seq_hide {t u:L2.TS} {D:Ends} {σ:L2.St} {H:Hp} (h:∀ U:L2.St->Hp->Prop,u D=U->t { D with nx:=U } σ H):tSeq t u D σ H:=h _ rfl
theorem nx_hide {t:L2.TS} {N c b:L2.St->Hp->Prop} {r:VK} {σ:L2.St} {H:Hp} (h:∀ U:L2.St->Hp->Prop,N=U->t { nx:=U,rt:=r,ct:=c,bk:=b } σ H):t { nx:=N,rt:=r,ct:=c,bk:=b } σ H:=h _ rfl
section
variable {a:Addr} {xs:List V} {g:TG} {tb:TS} {D:Ends} {σ:St} {H:Hp}
end
end L2
namespace L2
open PySem PySem.Spec PyProof.Rows
theorem pe_bmK {X:Cx} (K:PySem.W.Frag) {o e:PySem.Expr} {es:List PySem.Expr} {to:TE} {t:TA} {name:Str} {apos cpos:Pos} {T id:String} {r:V->List V->Hp->VK->Prop} (pa:PlainAttrs T) (slot:Slot T name id) (hty:typeOf (.builtin id)=pure (.type "method_descriptor")) (hm:MtR X id r) (ho:PE X o to) (ha:PA X (e :: es) t)
  (hbase:attributeBase o name X.env (eval o X.env)=eval o X.env:=by rfl)
  (hfew:((backTo cpos (starEach (e :: es) X.env)).all (fun x=>!x.1) && (backToKw cpos (keywordEach [] X.env)).all (fun x=>x.1.isSome) && decide ((e :: es).length+([]:List Keyword).length+(if ([]:List Keyword).isEmpty then 0 else 1)<30))=true:=by rfl)
  (hline:(apos.endLine == cpos.line)=true:=by rfl) (hs:starEach (e :: es) X.env=(false,eval e X.env) :: starEach es X.env:=by rfl) (hplain:(backTo cpos (starEach es X.env)).any (·.1)=false:=by rfl) (hK:X.K=K:=by rfl) :
  PE X (.Call (.Attribute o name apos) (e :: es) [] cpos) (tBM K T r to t):=by
 subst hK
 exact pe_bm pa slot hty hm ho ha hbase hfew hline hs hplain
end L2
namespace L2
open PySem PySem.Spec PyProof.Rows
section
variable {X:Cx}
end
end L2
namespace L2
open PySem PySem.Spec PyProof.Rows
def ItK (t:Bool) (h:Heap) (c a:Addr) (k:Nat):Prop:=if t then h.IsTupleIter c a k else h.IsListIter c a k
def SqK (t:Bool) (h:Heap) (a:Addr) (vs:Array Value):Prop:=if t then h.IsTuple a vs else h.IsList a vs
theorem ItK.ext {t:Bool} {h h':Heap} {c b a:Addr} {k:Nat} (x:ItK t h c a k) (hs:Heap.ExtBut b h h') (n:c≠b):ItK t h' c a k:=by
 cases t
 ·exact Heap.IsListIter.extBut x hs n
 ·exact Heap.IsTupleIter.extBut x hs n
theorem ItK.at {t:Bool} {h h':Heap} {c a:Addr} {k:Nat} (x:ItK t h c a k) (e:∀ o,h.get? c=some o->h'.get? c=some o):ItK t h' c a k:=by
 cases t
 ·exact Heap.IsListIter.at x e
 ·exact Heap.IsTupleIter.at x e
theorem ItK.obj {t:Bool} {h:Heap} {c a:Addr} {k:Nat} (x:ItK t h c a k):∃ o,h.get? c=some o∧∀ v,o.data≠.cell v:=by
 cases t
 ·obtain ⟨o,e,_,d⟩:=x
  exact ⟨o,e,fun v z=>by rw [d] at z; cases z⟩
 ·obtain ⟨o,e,_,d⟩:=x
  exact ⟨o,e,fun v z=>by rw [d] at z; cases z⟩
theorem SqK.ext {t:Bool} {h h':Heap} {b a:Addr} {vs:Array Value} (x:SqK t h a vs) (hs:Heap.ExtBut b h h') (n:a≠b):SqK t h' a vs:=by
 cases t
 ·exact Heap.IsList.extBut x hs n
 ·exact Heap.IsTuple.extBut x hs n
section
variable {prog:Program} {w:World} {A:Around} {E:Value->Shared->Prop} {s:Shared}
end
end L2
namespace L2
open PySem PySem.Spec PyProof.Rows
section
variable {X:Cx}
def SqS (t:Bool) (K:PySem.W.Frag) (H:Hp) (a:Addr) (xs:List V):Prop:=if t then SqT K H a xs else SqL K H a xs
theorem SqK.lt {t:Bool} {h:Heap} {a:Addr} {vs:Array Value} (x:SqK t h a vs):a<h.objs.size:=by
 cases t
 ·obtain ⟨o,e,_⟩:=x
  exact Heap.lt_size e
 ·obtain ⟨o,e,_⟩:=x
  exact Heap.lt_size e
theorem SqS.l {K:PySem.W.Frag} {H:Hp} {a:Addr} {xs:List V} (h:H a=some (.lst xs)):SqS false K H a xs:=SqL.of h
theorem SqS.t {K:PySem.W.Frag} {H:Hp} {a:Addr} {xs:List V} (h:H a=some (.tup xs)):SqS true K H a xs:=SqT.of h
end
end L2
namespace L2
open PySem PySem.Spec PyProof.Rows
section
variable {X:Cx}
end
end L2
namespace L2
open PySem PySem.Spec PyProof.Rows PySem.W
section
variable {prog:Program} {w:World} {A:Around} {E:Value->Shared->Prop} {K:Frag} {h:Heap} {g:Array GenState} {d:Drawn} {t:Nat} {os:OsState} {a C:Addr} {o:Obj}
structure XCls (K:Frag) (C:Addr):Prop where
 ga:findIn K (.ref C) "__getattribute__" = some (some (.builtin "BaseException.__getattribute__"))
 gt:findIn K (.ref C) "__getattr__" = some none
 cl:findIn K (.ref C) "__class__" = some (some (.builtin "object.__class__"))
 gg:specialIn K (.builtin "object.__class__") "__get__" = some (some (.builtin "getset_descriptor.__get__"))
 tk:takesIn K (.builtin "object.__class__")=some true
 mo:mroIn K C (.type "object")=some true
 mb:mroIn K C (.type "BaseException")=some true
 cd:(clsIn K C).isSome=true
theorem xc_get {R:Result->Shared->Prop} (T:XCls K C) (X:K.In h) (hx:h.get? a=some o) (hc:o.cls=.ref C) (hq:R (.ok (.ret (.ref C))) ⟨h,g,d,t,os⟩) :
  codeAny (model prog w) A (.call (.builtin "getset_descriptor.__get__") ⟨[.builtin "object.__class__",.ref a,.ref C],[]⟩) R ⟨h,g,d,t,os⟩:=by
 have L0:Looks (model prog w) h (typeOf (.ref a)) (.ref C):=hc ▸ (Looks.ld hx).andThen .now
 have L1:=looks_mroIn (M:=model prog w) X T.mo
 refine codeAny_call_builtin KF.slot_gs.plain KF.entry_gs (KF.slot_gs.check _ _ _ _ _ _ _ _ KF.type_class (KF.args_gs _ _ _) ?_)
 unfold Builtin.«getset_descriptor.__get__» Builtin.Getset_descriptor.descrGet; rw [dga_obj]
 refine wpAny_bind (wpAny_pure ?_); unfold Builtin.Getset_descriptor.descrGetter Builtin.Getset_descriptor.descrCheckInstance Builtin.Getset_descriptor.descrNameAndClass isInstance
 simp only [KF.owner_class]
 repeat lk
 refine ⟨Code.quiet_builtin _ (by decide +kernel),codeAny_builtin KF.entry_class ?_⟩
 unfold Builtin.«object.__class__» shownTypeOf; repeat lk
 exact hq
theorem xc_entry {tk:Tok} {Q:Fin->Shared->Prop} (T:XCls K C) (X:K.In h) (hx:h.get? a=some o) (hc:o.cls=.ref C) (hq:Q (.done (.ret (.ref C))) ⟨h,g,d,t,os⟩) :
  wpAny (model prog w) A (Builtin.«object.__getattribute__» ⟨[.ref a,.str "__class__" tk],[]⟩) Q E ⟨h,g,d,t,os⟩:=by
 have L1:=looks_findIn (M:=model prog w) X T.cl
 have L2:=looks_specialIn (M:=model prog w) X T.gg
 have L3:=looks_takesIn (M:=model prog w) X T.tk
 repeat (any_goals (first | assumption | (with_reducible refine wpAny_loadPart_at hx ?_; rw [hc]) | with_reducible refine L1.at ?_ | with_reducible refine L2.at ?_ | with_reducible refine L3.at ?_ | wp_step))
 refine xc_get T X hx hc ?_
 repeat (any_goals (first | assumption | wp_step))
theorem xc_check {nameV:Value} {Q:Unit->Shared->Prop} (T:XCls K C) (X:K.In h) (hx:h.get? a=some o) (hc:o.cls=.ref C) (hq:Q () ⟨h,g,d,t,os⟩):wpAny (model prog w) A (checkBuiltinCall "BaseException.__getattribute__" ⟨[.ref a,nameV],[]⟩) Q E ⟨h,g,d,t,os⟩:=by
 have kd:builtinKind "BaseException.__getattribute__" = some .slot:=by decide +kernel
 have sp:splitId "BaseException.__getattribute__" = some ("BaseException","__getattribute__"):=by decide +kernel
 have L1:=looks_mroIn (M:=model prog w) X T.mb
 have ar:=PySem.F.args_bexc_ga (.ref a) nameV
 simp only [checkBuiltinCall,kd,sp]
 refine wpAny_bind ?_; unfold isInstance
 repeat (first | (with_reducible refine wpAny_loadPart_at hx ?_; rw [hc]) | with_reducible refine L1.at ?_ | wp_step)
 exact hq
theorem xc_call {tk:Tok} {R:Result->Shared->Prop} (T:XCls K C) (X:K.In h) (hx:h.get? a=some o) (hc:o.cls=.ref C) (hq:R (.ok (.ret (.ref C))) ⟨h,g,d,t,os⟩) :
  codeAny (model prog w) A (.call (.builtin "BaseException.__getattribute__") ⟨[.ref a,.str "__class__" tk],[]⟩) R ⟨h,g,d,t,os⟩ :=
 codeAny_call_builtin PySem.F.excAttr_ValueError.ga.plain PySem.F.entry_bexc_ga (xc_check T X hx hc (xc_entry T X hx hc hq))
theorem xc_by {tk:Tok} {fill expr:Bool} {Q:Value->Shared->Prop} (T:XCls K C) (X:K.In h) (hx:h.get? a=some o) (hc:o.cls=.ref C) (hq:Q (.ref C) ⟨h,g,d,t,os⟩) :
  wpAny (model prog w) A (getAttrBy (.ref a) (.str "__class__" tk) fill expr) Q E ⟨h,g,d,t,os⟩:=by
 have f3:=PySem.F.excAttr_ValueError.ga.bind (.ref a)
 have y0:(expr && onTheHeap (Value.builtin "BaseException.__getattribute__"))=false:=by cases expr <;> rfl
 have y2:(Value.builtin "BaseException.__getattribute__" == Value.builtin "object.__getattribute__")=false:=by decide +kernel
 have y1:(onTheHeap (Value.ref C) && Value.builtin "BaseException.__getattribute__" == Value.builtin "object.__getattribute__")=false:=by rw [y2]; rfl
 have L1:=looks_findIn (M:=model prog w) X T.ga
 have L2:=looks_findIn (M:=model prog w) X T.gt
 repeat (any_goals (first | assumption | (with_reducible refine wpAny_loadPart_at hx ?_; rw [hc]) | with_reducible refine L1.at ?_ | with_reducible refine L2.at ?_ | wp_step))
 refine xc_call T X hx hc ?_
 repeat (any_goals (first | assumption | wp_step))
theorem xc_attr {Q:Option Value->Shared->Prop} (T:XCls K C) (X:K.In h) (hx:h.get? a=some o) (hc:o.cls=.ref C) (hq:Q (some (.ref C)) ⟨h,g,d,t+1,os⟩) :
  wpAny (model prog w) A (getAttr? (.ref a) "__class__") Q E ⟨h,g,d,t,os⟩:=by
 unfold getAttr? getAttrBy?
 refine wpAny_bind (wpAny_mkText (wpAny_bind (wpAny_attempt (xc_by T X hx hc (wpAny_pure hq)))))
theorem kitx_exc (T:XCls K C):KitX K (.ref a) (.ref C) (fun h=>∃ o,h.get? a=some o∧o.cls=.ref C) where
 ty:=fun M h _ ⟨o,h1,h2⟩=>h2 ▸ (Looks.ld h1).andThen .now
 it:=fun _ _ X _=>by
  obtain ⟨cdD,hcD⟩:=Option.isSome_iff_exists.mp T.cd
  unfold clsIn at hcD
  split at hcD
  ·rename_i c' d' cd' sl' ho
   intro A' Q' E' s' k q
   unfold isType loadHead
   exact wpAny_bind (wpAny_loadPart (k _ _ (X _ _ ho)) (wpAny_pure q))
  ·cases hcD
 ne:=fun h tp dd its n sl X htp=>by
  obtain ⟨cdD,hcD⟩:=Option.isSome_iff_exists.mp T.cd
  refine Bool.eq_false_iff.mpr fun q=>?_
  obtain rfl:C=tp:=Value.ref.inj (beq_iff_eq.mp q)
  unfold clsIn at hcD
  split at hcD
  ·rename_i c' d' cd' sl' ho
   cases (X _ _ ho).symm.trans htp
  ·cases hcD
 ca:=fun {_ _ _ _ _ s} X p k=>by
  obtain ⟨hh,g,d,t,os⟩:=s
  obtain ⟨o,h1,h2⟩:=p
  exact xc_attr T X h1 h2 k
end
section
variable {X:Cx}
def rIsiE (K:PySem.W.Frag) (c:V) (cv:Value):List V->Hp->VK->Prop:=fun xs H Q=>∃ (a C:Addr) (od:Option Addr) (b:Bool),xs=[.ref a,c]∧H a=some (excO a (.ref C) od)∧XCls K C∧PySem.W.kitOne K (.ref C) cv=some b∧Q (.bl b) H
theorem call_isiE {c:V} {cv:Value} (hc:∀ u,RelV c u->u=cv):CallR X (.builtin "isinstance") (rIsiE X.K c cv):=by
 intro pins s σ H xs us Q I r h
 obtain ⟨a,C,od,b,rfl,ha,T,e,q⟩:=h
 obtain ⟨u,w',rfl,r1,r2⟩:=vals2 r
 cases hc w' r2
 cases r1
 obtain ⟨⟨o,ho,hcl,_⟩,_,_⟩:=I.hok a _ ha
 exact PySem.W.kia_one (kitx_exc T) I.kIn ⟨o,ho,hcl⟩ e (fun z=>nomatch z) fun tk=>⟨.bl b,H,I.tok _,rfl,q⟩
end
end L2
namespace L2
open PySem PySem.Spec PyProof.Rows PySem.W
section
variable {prog:Program} {w:World} {A:Around} {E:Value->Shared->Prop} {K:Frag} {h:Heap} {g:Array GenState} {d:Drawn} {t:Nat} {os:OsState} {a C dx:Addr} {o:Obj} {f:Str} {v:Value} {vs:Array Value} {m:Str->Option Value}
structure XGet (K:Frag) (C:Addr) (f:Str):Prop where
 c:XCls K C
 no:findIn K (.ref C) f=some none
 di:((clsIn K C).any fun cd=>cd.hasDict)=true
theorem xf_find {Q:Builtin.ObjectAttr.Found->Shared->Prop} (T:XGet K C f) (X:K.In h) (hx:h.get? a=some o) (hc:o.cls=.ref C) (hf:o.data=.fields vs) (hd:o.dict=some dx) (hN:h.Ns dx m) (hm:m f=some v) (hq:Q (.value v) ⟨h,g,d,t,os⟩) :
  wpAny (model prog w) A (Builtin.ObjectAttr.find (.ref a) (.ref C) f) Q E ⟨h,g,d,t,os⟩:=by
 obtain ⟨cd,hcd,hhd⟩:=any_some T.di
 unfold Builtin.ObjectAttr.find
 refine wpAny_bind ((looks_findIn X T.no).at (wpAny_bind (wpAny_pure (wpAny_bind (wpAny_pure ?_)))))
 unfold Builtin.ObjectAttr.ownThenClass Builtin.ObjectAttr.inOwnDict Builtin.ObjectAttr.ownDict Builtin.ObjectAttr.inDict
 refine wpAny_bind (wpAny_bind (wpAny_bind ?_))
 unfold loadHead
 refine wpAny_loadPart hx ?_
 rw [hf]
 dsimp only
 unfold instanceDict
 refine wpAny_bind (wpAny_loadPart hx ?_)
 rw [hc,hd]
 dsimp only
 refine wpAny_bind ((looks_clsIn X hcd).at ?_)
 rw [hhd]
 simp only [Bool.not_true,Bool.false_eq_true,if_false]
 refine wpAny_bind (wpAny_pure (wpAny_pure ?_))
 dsimp only
 refine wpAny_nsGet hN ?_
 rw [hm]
 exact wpAny_bind (wpAny_rule (wpAny_pure hq))
theorem xf_entry {tk:Tok} {Q:Fin->Shared->Prop} (T:XGet K C f) (X:K.In h) (hx:h.get? a=some o) (hc:o.cls=.ref C) (hf:o.data=.fields vs) (hd:o.dict=some dx) (hN:h.Ns dx m) (hm:m f=some v) (hq:Q (.done (.ret v)) ⟨h,g,d,t,os⟩) :
  wpAny (model prog w) A (Builtin.«object.__getattribute__» ⟨[.ref a,.str f tk],[]⟩) Q E ⟨h,g,d,t,os⟩:=by
 have L0:Looks (model prog w) h (typeOf (.ref a)) (.ref C):=hc ▸ (Looks.ld hx).andThen .now
 unfold Builtin.«object.__getattribute__»
 refine wpAny_bind (wpAny_pure ?_)
 dsimp only
 refine wpAny_bind (wpAny_pure (wpAny_bind (L0.at (wpAny_bind (xf_find T X hx hc hf hd hN hm ?_)))))
 exact wpAny_pure hq
theorem xf_call {tk:Tok} {R:Result->Shared->Prop} (T:XGet K C f) (X:K.In h) (hx:h.get? a=some o) (hc:o.cls=.ref C) (hf:o.data=.fields vs) (hd:o.dict=some dx) (hN:h.Ns dx m) (hm:m f=some v) (hq:R (.ok (.ret v)) ⟨h,g,d,t,os⟩) :
  codeAny (model prog w) A (.call (.builtin "BaseException.__getattribute__") ⟨[.ref a,.str f tk],[]⟩) R ⟨h,g,d,t,os⟩ :=
 codeAny_call_builtin PySem.F.excAttr_ValueError.ga.plain PySem.F.entry_bexc_ga (xc_check T.c X hx hc (xf_entry T X hx hc hf hd hN hm hq))
theorem xf_by {tk:Tok} {fill expr:Bool} {Q:Value->Shared->Prop} (T:XGet K C f) (X:K.In h) (hx:h.get? a=some o) (hc:o.cls=.ref C) (hf:o.data=.fields vs) (hd:o.dict=some dx) (hN:h.Ns dx m) (hm:m f=some v) (hh:handedIn v=true) (hq:Q v ⟨h,g,d,t,os⟩) :
  wpAny (model prog w) A (getAttrBy (.ref a) (.str f tk) fill expr) Q E ⟨h,g,d,t,os⟩:=by
 have f3:=PySem.F.excAttr_ValueError.ga.bind (.ref a)
 have y0:(expr && onTheHeap (Value.builtin "BaseException.__getattribute__"))=false:=by cases expr <;> rfl
 have y2:(Value.builtin "BaseException.__getattribute__" == Value.builtin "object.__getattribute__")=false:=by decide +kernel
 have y1:(onTheHeap (Value.ref C) && Value.builtin "BaseException.__getattribute__" == Value.builtin "object.__getattribute__")=false:=by rw [y2]; rfl
 have L1:=looks_findIn (M:=model prog w) X T.c.ga
 have L2:=looks_findIn (M:=model prog w) X T.c.gt
 repeat (any_goals (first | assumption | (with_reducible refine wpAny_loadPart_at hx ?_; rw [hc]) | with_reducible refine L1.at ?_ | with_reducible refine L2.at ?_ | wp_step))
 refine xf_call T X hx hc hf hd hN hm ?_
 repeat (any_goals (first | assumption | wp_step))
 have e:=handedOut_of hh
 unfold handedOut at e
 rw [e]
 exact wpAny_pure hq
end
section
variable {X:Cx} {e:PySem.Expr} {f:Str} {pos:Pos} {ta:TE}
def tFldX (K:PySem.W.Frag) (ta:TE) (f:Str):TE:=fun σ H Q=>ta σ H fun x H1=>∃ a C dx fs v,x=.ref a∧H1 a=some (excO a (.ref C) (some dx))∧H1 dx=some (.xd fs)∧XGet K C f∧fs.lookup f=some v∧Q v H1
theorem pe_fldX (he:PE X e ta) (hb:attributeBase e f X.env (eval e X.env)=eval e X.env):PE X (.Attribute e f pos) (tFldX X.K ta f):=by
 intro pins s σ H Q I h
 refine attr_of hb (thn (he pins s σ H _ I h) fun u s1 ⟨x,H1,I1,rx,a,C,dx,fs,v,ex,ea,ed,T,l,q⟩=>?_)
 subst ex
 obtain rfl:u=Value.ref a:=rx
 obtain ⟨⟨o,ho,hcl,hd,vs,hf⟩,_,_⟩:=I1.hok a _ ea
 obtain ⟨m,hN,hm⟩:=I1.hok dx _ ed
 obtain ⟨u',hu,ru⟩:=RelO.some_of (v:=v) (o:=m f) (by rw [←l]; exact hm f)
 obtain ⟨hp,g,d,tk,os⟩:=s1
 unfold getAttr
 refine wpAny_bind (wpAny_mkText ?_)
 exact xf_by T I1.kIn ho hcl hf hd hN.ns hu (handed_of ru) ⟨v,H1,I1.tok _,ru,q⟩
end
end L2
namespace My
open PySem L2
def del (H:Hp) (a:Addr):Hp:=fun b=>if b=a then none else H b
theorem del_self (H:Hp) (a:Addr):del H a a=none:=if_pos rfl
theorem del_ne {H:Hp} {a b:Addr} (h:b≠a):del H a b=H b:=if_neg h
theorem del_sub (H:Hp) (a:Addr):Same (del H a) H:=fun b o e=>by
 by_cases h:b=a
 ·subst h; rw [del_self] at e; cases e
 ·rw [del_ne h] at e; exact e
theorem del_mono {H H':Hp} (a:Addr) (s:Same H H'):Same (del H a) (del H' a):=fun b o e=>by
 by_cases h:b=a
 ·subst h; rw [del_self] at e; cases e
 ·rw [del_ne h] at e ⊢; exact s _ _ e
theorem del_upd (H:Hp) (a:Addr) (o:HO):del (upd H a o) a=del H a:=by
 funext b
 by_cases h:b=a
 ·subst h; rw [del_self,del_self]
 ·rw [del_ne h,del_ne h,upd_ne h]
theorem del_new {H:Hp} {a:Addr} (h:H a=none):del H a=H:=by
 funext b
 by_cases z:b=a
 ·subst z; rw [del_self,h]
 ·exact del_ne z
theorem del_at {H:Hp} {a b:Addr} {o:HO} (e:H b=some o) (h:b≠a):del H a b=some o:=by rw [del_ne h]; exact e
section
variable {α:Type} {R:Hp->Addr->α->Prop}
def At (R:Hp->Addr->α->Prop) (H:Hp) (bs:List Addr) (xs:List α):Prop:=bs.length=xs.length∧∀ (i:Nat) (b:Addr) (x:α),bs[i]?=some b->xs[i]?=some x->R H b x
def Mo (R:Hp->Addr->α->Prop):Prop:=∀ {H H':Hp} {b:Addr} {x:α},Same H H'->R H b x->R H' b x
theorem At.nil {H:Hp}:At R H [] []:=⟨rfl,fun i b x e=>by simp at e⟩
theorem At.keep {H H':Hp} {bs:List Addr} {xs:List α} (h:At R H bs xs) (m:Mo R) (s:Same H H'):At R H' bs xs:=⟨h.1,fun i b x e1 e2=>m s (h.2 i b x e1 e2)⟩
theorem At.snoc {H:Hp} {bs:List Addr} {xs:List α} {b:Addr} {x:α} (h:At R H bs xs) (r:R H b x):At R H (bs++[b]) (xs++[x]):=by
 refine ⟨by simp [h.1],fun i c y e1 e2=>?_⟩
 have hl:=h.1
 rcases Nat.lt_or_ge i bs.length with z | z
 ·rw [List.getElem?_append_left z] at e1
  rw [List.getElem?_append_left (by omega)] at e2
  exact h.2 i c y e1 e2
 ·rw [List.getElem?_append_right z] at e1
  rw [List.getElem?_append_right (by omega)] at e2
  rw [hl] at e1
  cases hi:i-xs.length with
  | zero=>rw [hi] at e1 e2; cases e1; cases e2; exact r
  | succ k=>rw [hi] at e1; simp at e1
theorem At.app {H:Hp} {bs cs:List Addr} {xs ys:List α} (h:At R H bs xs) (g:At R H cs ys):At R H (bs++cs) (xs++ys):=by
 refine ⟨by simp [h.1,g.1],fun i c y e1 e2=>?_⟩
 have hl:=h.1
 rcases Nat.lt_or_ge i bs.length with z | z
 ·rw [List.getElem?_append_left z] at e1
  rw [List.getElem?_append_left (by omega)] at e2
  exact h.2 i c y e1 e2
 ·rw [List.getElem?_append_right z] at e1
  rw [List.getElem?_append_right (by omega)] at e2
  rw [hl] at e1
  exact g.2 _ c y e1 e2
theorem At.take {H:Hp} {bs:List Addr} {xs:List α} (h:At R H bs xs) (k:Nat):At R H (bs.take k) (xs.take k):=by
 refine ⟨by simp [h.1],fun i c y e1 e2=>?_⟩
 rw [List.getElem?_take] at e1 e2
 split at e1
 ·rename_i hk; rw [if_pos hk] at e2; exact h.2 i c y e1 e2
 ·cases e1
theorem At.drop {H:Hp} {bs:List Addr} {xs:List α} (h:At R H bs xs) (k:Nat):At R H (bs.drop k) (xs.drop k):=by
 refine ⟨by simp [h.1],fun i c y e1 e2=>?_⟩
 rw [List.getElem?_drop] at e1 e2
 exact h.2 _ c y e1 e2
theorem At.set {H:Hp} {bs:List Addr} {xs:List α} {b:Addr} {x:α} (h:At R H bs xs) (k:Nat) (r:R H b x):At R H (bs.set k b) (xs.set k x):=by
 refine ⟨by simp [h.1],fun i c y e1 e2=>?_⟩
 rw [List.getElem?_set] at e1 e2
 by_cases hk:k=i
 ·subst hk
  have hl:=h.1
  by_cases hb:k<bs.length
  ·rw [if_pos rfl,if_pos hb] at e1
   rw [if_pos rfl,if_pos (by omega)] at e2
   cases e1; cases e2; exact r
  ·rw [if_pos rfl,if_neg hb] at e1; cases e1
 ·rw [if_neg hk] at e1 e2
  exact h.2 _ c y e1 e2
theorem At.get {H:Hp} {bs:List Addr} {xs:List α} {i:Nat} {x:α} (h:At R H bs xs) (e:xs[i]?=some x):∃ b,bs[i]?=some b∧R H b x:=by
 have hi:i<bs.length:=by rw [h.1]; exact (List.getElem?_eq_some_iff.mp e).1
 exact ⟨bs[i],List.getElem?_eq_getElem hi,h.2 i _ x (List.getElem?_eq_getElem hi) e⟩
theorem At.ref {H:Hp} {bs:List Addr} {xs:List α} {i:Nat} {v:V} (h:At R H bs xs) (e:(bs.map V.ref)[i]?=some v):∃ b x,v=.ref b∧bs[i]?=some b∧xs[i]?=some x∧R H b x:=by
 rw [List.getElem?_map] at e
 cases q:bs[i]? with
 | none=>rw [q] at e; cases e
 | some b =>
  rw [q] at e
  have hi:i<xs.length:=by rw [←h.1]; exact (List.getElem?_eq_some_iff.mp q).1
  exact ⟨b,xs[i],(Option.some.inj e).symm,rfl,List.getElem?_eq_getElem hi,h.2 i b _ q (List.getElem?_eq_getElem hi)⟩
theorem ref_at {bs:List Addr} {i:Nat} {b:Addr} (h:bs[i]?=some b):(bs.map V.ref)[i]?=some (.ref b):=by rw [List.getElem?_map,h]; rfl
def TupR (R:Hp->Addr->α->Prop) (H:Hp) (b:Addr) (xs:List α):Prop:=∃ bs:List Addr,H b=some (.tup (bs.map V.ref))∧At R H bs xs
theorem mo_tup (m:Mo R):Mo (TupR R):=fun s ⟨bs,e,h⟩=>⟨bs,s _ _ e,h.keep m s⟩
end
def FrR (H:Hp) (b:Addr) (q:Rat):Prop:=H b=some (.tup [.int q.num,.int q.den])
def IntsL (H:Hp) (b:Addr) (ns:List Int):Prop:=H b=some (.lst (ns.map V.int))
theorem mo_fr:Mo FrR:=fun s h=>s _ _ h
theorem mo_ints:Mo IntsL:=fun s h=>s _ _ h
theorem FrR.del {H:Hp} {a b:Addr} {q:Rat} {ys:List V} (h:FrR H b q) (e:H a=some (.lst ys)):FrR (del H a) b q:=del_at h fun z=>by rw [z] at h; unfold FrR at h; rw [e] at h; cases h
structure Run (J:It) (H1:Hp) (n:Nat) (f:Nat->Hp->V->Hp->Prop):Prop where
 go:∀ i H2,i<n->Same H1 H2->J.go i H2
 yl:∀ i H2 x H3,i<n->Same H1 H2->J.yld i H2 x H3->f i H2 x H3
 st:∀ H2,Same H1 H2->J.stop n H2
section
variable {K:PySem.W.Frag}
theorem run_tup {H:Hp} {a:Addr} {xs:List V} (h:H a=some (.tup xs)):Run (Itt K a) H xs.length (fun i H2 x H3=>H3=H2∧xs[i]?=some x) :=
 ⟨fun i H2 hi s=>⟨xs,xs[i],SqT.of (s _ _ h),List.getElem?_eq_getElem hi⟩,fun i H2 x H3 _ s y=>⟨y.1,y.2 _ (SqT.of (s _ _ h))⟩,fun H2 s=>⟨xs,SqT.of (s _ _ h),Nat.le_refl _⟩⟩
theorem run_list {H:Hp} {a:Addr} {xs:List V} (h:H a=some (.lst xs)):Run (Itl K a) H xs.length (fun i H2 x H3=>H3=H2∧xs[i]?=some x) :=
 ⟨fun i H2 hi s=>⟨xs,xs[i],SqL.of (s _ _ h),List.getElem?_eq_getElem hi⟩,fun i H2 x H3 _ s y=>⟨y.1,y.2 _ (SqL.of (s _ _ h))⟩,fun H2 s=>⟨xs,SqL.of (s _ _ h),Nat.le_refl _⟩⟩
theorem run_range {H:Hp} {lo:Int} {n:Nat}:Run (Itr lo n) H n (fun i H2 x H3=>H3=H2∧x=.int (lo+i)):=⟨fun _ _ hi _=>hi,fun _ _ _ _ _ _ y=>y,fun _ _=>Nat.le_refl _⟩
theorem comp_run {J:It} {n:Nat} {H1:Hp} {f:Nat->Hp->V->Hp->Prop} {acc:Addr} {σ0:St} {g:TG} {te:TE} {G:Hp->Prop} (r:Run J H1 n f) (hn:n≤1000) (hacc:H1 acc=none) (Iv:Nat->List V->St->Hp->Prop) (h0:Iv 0 [] σ0 H1)
  (hs:∀ (i:Nat) (ys:List V) (σ:St) (H2:Hp) (x:V) (H3:Hp),i<n->Same H1 H2->H2 acc=some (.lst ys)->Iv i ys σ (del H2 acc)->f i H2 x H3->∀ C:St->VK,(∀ (σ4:St) (v:V) (H5:Hp),Same H2 H5->Iv (i+1) (ys++[v]) σ4 (del H5 acc)->C σ4 v H5) →
   g x σ H3 fun σ4 H4=>te σ4 H4 (C σ4))
  (fin:∀ (ys:List V) (σ:St) (H2:Hp),Same H1 H2->H2 acc=some (.lst ys)->ys.length=n->Iv n ys σ (del H2 acc)->G H2) :
  ∃ W:Nat->Nat->List V->St->Hp->Prop,(∃ m,W 0 m [] σ0 (upd H1 acc (.lst [])))∧∀ i m ys σc H2,W i m ys σc H2 →
   (J.stop i H2∧G H2)∨(J.go i H2∧∀ x H3,J.yld i H2 x H3->g x σc H3 fun σ4 H4=>te σ4 H4 fun v H5=>H5 acc=some (.lst ys)∧ys.length<sizeLine∧∃ m',m' < m∧W (i+1) m' (ys++[v]) σ4 (upd H5 acc (.lst (ys++[v])))):=by
 refine ⟨fun i m ys σ H2=>m=n-i∧i≤n∧Same H1 H2∧H2 acc=some (.lst ys)∧ys.length=i∧Iv i ys σ (del H2 acc),⟨n,rfl,Nat.zero_le _,?_,upd_same,rfl,?_⟩,?_⟩
 ·intro b o e; rw [upd_ne (ne_of_none e hacc)]; exact e
 ·rw [del_upd,del_new hacc]; exact h0
 ·rintro i m ys σc H2 ⟨rfl,hi,sm,ha,hl,iv⟩
  rcases Nat.lt_or_ge i n with hlt | hge
  ·refine .inr ⟨r.go i H2 hlt sm,fun x H3 yl=>?_⟩
   refine hs i ys σc H2 x H3 hlt sm ha iv (r.yl i H2 x H3 hlt sm yl) (fun σ4 v H5=>H5 acc=some (.lst ys)∧ys.length<sizeLine∧∃ m',m' < n-i∧(m'=n-(i+1)∧i+1≤n∧Same H1 (upd H5 acc (.lst (ys++[v])))∧(upd H5 acc (.lst (ys++[v]))) acc=some (.lst (ys++[v]))∧(ys++[v]).length=i+1∧Iv (i+1) (ys++[v]) σ4 (del (upd H5 acc (.lst (ys++[v]))) acc))) ?_
   intro σ4 v H5 s5 iv5
   refine ⟨s5 _ _ ha,by rw [sizeLine_eq]; omega,n-(i+1),by omega,rfl,hlt,?_,upd_same,by simp [hl],?_⟩
   ·intro b o e; rw [upd_ne (ne_of_none e hacc)]; exact s5 _ _ (sm _ _ e)
   ·rw [del_upd]; exact iv5
  ·obtain rfl:i=n:=by omega
   exact .inl ⟨r.st H2 sm,fin ys σc H2 sm ha hl iv⟩
end
end My
namespace L2
open PySem PySem.Spec PyProof.Rows PySem.W
section
variable {X:Cx} {pins:List (Addr×Obj)} {σ:St} {H:Hp} {s:Shared} {h':Heap}
theorem Inv.put {a:Addr} {o:HO} {t':Nat} (I:Inv X pins σ H s) (k:∀ b u,s.heap.get? b=some u->h'.get? b=some u) (hn:s.heap.get? a=none) (new:ObjOk X.prog X.w (upd H a o) h' a o):Inv X pins σ (upd H a o) { s with heap:=h',toks:=t' }:=by
 have na:H a=none:=free_of_none I.hok hn
 have ne:∀ {b:Addr} {u:Obj},s.heap.get? b=some u->b≠a:=fun e z=>by rw [z,hn] at e; cases e
 refine I.un ⟨fun b u q _ _ _=>k b u q,fun b u q _ _ _=>⟨u.slots,k b u q⟩,fun b u q n _=>by rw [upd_ne (ne q)]; exact n,fun b u q _=>⟨u,k b u q⟩,fun b xs q=>by rw [upd_ne (ne_of_none q na)]; exact q,fun b u xs q=>by rw [upd_ne (ne_of_none q na)]; exact q,fun b ps q=>⟨#[],by rw [upd_ne (ne_of_none q na),q]; simp⟩⟩ fun b u e=>?_
 by_cases hb:b=a
 ·subst hb; rw [upd_same] at e; cases e; exact new
 ·rw [upd_ne hb] at e
  exact (I.hok b u e).stay (fun c v _ q=>k c v q) (fun c q=>by rw [upd_ne (ne_of_none q na)]; exact q) fun c xs q=>by rw [upd_ne (ne_of_none q na)]; exact q
theorem Inv.put2 {a d:Addr} {φ:Heap->Prop} {o1 o2:HO} {t':Nat} (I:Inv X pins σ H s) (ha:H a=some (.ext φ)) (k:∀ b u,b≠a->s.heap.get? b=some u->h'.get? b=some u) (hex:∃ u,h'.get? a=some u) (hn:s.heap.get? d=none)
  (new1:ObjOk X.prog X.w (upd (upd H a o1) d o2) h' a o1) (new2:ObjOk X.prog X.w (upd (upd H a o1) d o2) h' d o2):Inv X pins σ (upd (upd H a o1) d o2) { s with heap:=h',toks:=t' }:=by
 have nd:H d=none:=free_of_none I.hok hn
 have ad:a≠d:=ne_of_none ha nd
 have ne:∀ {b:Addr} {u:Obj},s.heap.get? b=some u->b≠d:=fun e z=>by rw [z,hn] at e; cases e
 have nh:∀ {b:Addr},H b=none->b≠a:=fun e z=>by rw [z,ha] at e; cases e
 have old:∀ {b:Addr} {o:HO},b≠a->H b=some o->upd (upd H a o1) d o2 b=some o:=fun n e=>by rw [upd_ne (ne_of_none e nd),upd_ne n]; exact e
 have na:∀ {b:Addr} {o:HO},H b=some o->(∀ ψ,o≠.ext ψ)->b≠a:=fun e n z=>by rw [z,ha] at e; exact n φ (Option.some.inj e).symm
 refine I.un ⟨fun b u q n _ _=>k b u (nh n) q,fun b u q n _ _=>⟨u.slots,k b u (nh n) q⟩,fun b u q n _=>by rw [upd_ne (ne q),upd_ne (nh n)]; exact n,fun b u q _=>?_,fun b xs q=>old (na q fun _ z=>by cases z) q,fun b u xs q=>old (na q fun _ z=>by cases z) q,fun b ps q=>⟨#[],by rw [old (na q fun _ z=>by cases z) q]; simp⟩⟩ fun b u e=>?_
 ·by_cases z:b=a
  ·rw [z]; exact hex
  ·exact ⟨u,k b u z q⟩
 ·by_cases z1:b=d
  ·subst z1; rw [upd_same] at e; cases e; exact new2
  rw [upd_ne z1] at e
  by_cases z2:b=a
  ·subst z2; rw [upd_same] at e; cases e; exact new1
  rw [upd_ne z2] at e
  refine (I.hok b u e).stay (fun c v hc q=>k c v ?_ q) (fun c q=>old (na q fun _ z=>by cases z) q) fun c xs q=>old (na q fun _ z=>by cases z) q
  rcases hc with rfl | hc
  ·exact z2
  ·exact na hc fun _ z=>by cases z
end
def excN (a C t:Addr):HO:=.ext fun h=>h.get? a=some (excD C t none)
def excF (a C t d:Addr):HO:=.ext fun h=>h.get? a=some (excD C t (some d))
section
variable {P:Program} {w:World} {H:Hp} {h:Heap} {a C t d:Addr}
theorem excN_ok (e:h.get? a=some (excD C t none)):ObjOk P w H h a (excN a C t):=⟨e,⟨_,e⟩,fun _ _ p k=>k _ p⟩
theorem excF_ok (e:h.get? a=some (excD C t (some d))):ObjOk P w H h a (excF a C t d):=⟨e,⟨_,e⟩,fun _ _ p k=>k _ p⟩
theorem excN_get (ok:HOk P w H h) (e:H a=some (excN a C t)):h.get? a=some (excD C t none):=(show ObjOk P w H h a (excN a C t) from ok _ _ e).1
theorem excF_get (ok:HOk P w H h) (e:H a=some (excF a C t d)):h.get? a=some (excD C t (some d)):=(show ObjOk P w H h a (excF a C t d) from ok _ _ e).1
theorem xd_ok {f:Str} {y:V} {u:Value} (r:RelV y u) (n:h.Ns1 d (fun z=>if z=f then some u else none)):ObjOk P w H h d (.xd [(f,y)]):=by
 refine ⟨_,n,fun g=>?_⟩
 by_cases z:g=f
 ·subst z
  simp only [List.lookup_cons,beq_self_eq_true,if_true]
  exact r
 ·have zb:(g == f)=false:=by simp [z]
  simp only [List.lookup_cons,zb,List.lookup_nil,if_neg z]
  first | exact trivial | rfl
end
def XStore (K:Frag) (C:Addr) (f:Str):Prop:=findIn K (.ref C) "__setattr__" = some (some (.builtin "object.__setattr__"))∧exIn K C=true∧findIn K (.ref C) f=some none
def sFldX (K:Frag) (ta tv:TE) (f:Str):TS:=fun D σ H=>tv σ H fun y H1=>ta σ H1 fun x H2=>∃ a C t,x=.ref a∧H2 a=some (excN a C t)∧XStore K C f∧∀ d,H2 d=none->D.nx σ (upd (upd H2 a (excF a C t d)) d (.xd [(f,y)]))
theorem ps_fldX {X:Cx} {o value:PySem.Expr} {f:Str} {pos pos':Pos} {ta tv:TE} (ha:PE X o ta) (hv:PE X value tv) (hs:swapsWith value (some (.Attribute o f pos')) pos.line X.env=pure false):PS X (.Assign [.Attribute o f pos'] value pos) (sFldX X.K ta tv f):=by
 intro pins s σ H D I h
 refine plainObj_wpAny_Assign_Attribute (thn (hv pins s σ H _ I h) fun u s1 ⟨y,H1,I1,ry,q⟩=>thn (ha pins s1 σ H1 _ I1 q) fun ov s2 ⟨x,H2,I2,rx,a,C,t,ex,ea,⟨x1,x2,x3⟩,q2⟩=>?_) hs
 subst ex
 obtain rfl:ov=Value.ref a:=rx
 have ga:=excN_get I2.hok ea
 refine xset I2.kIn ga rfl rfl rfl x1 x2 x3 fun h' d tk hd hx hn hk=>⟨σ,_,?_,q2 d (free_of_none I2.hok hd)⟩
 exact I2.put2 (t':=tk) ea hk ⟨_,hx⟩ hd (excF_ok hx) (xd_ok ry hn)
end L2
namespace L2
open PySem PySem.Spec PyProof.Rows PySem.W
section
variable {P:Program} {w:World} {K:PySem.W.Frag} {mg:Str->Option Value} {base:Heap} {N:List Str} {qual:Str} {scope:Scope} {f:Addr} {cd:Value} {A:Around} {outer:List Env} {s₀:Shared} {H₀:Hp} {E:XK}
def RaiseOutI (X:Cx) (E:XK):Prop:=∀ (pins:List (Addr×Obj)) (σ:St) (H:Hp) (s:Shared) (e C t d:Addr),Inv X pins σ H s->H e=some (excF e C t d)->X.s₀.heap.get? e=none->E (.ref C) (some d) (My.del H e)->X.xe (.ref e) s
theorem raise_outI:RaiseOutI (cxOf (CXr P w) P w K mg base N qual scope f cd A outer s₀ H₀ E) E:=by
 intro pins σ H s e C t d I hH n0 hE
 have ge:=excF_get I.hok hH
 have nex:∀ b:Addr,b∉([]:List Addr):=fun b z=>by simp at z
 have n0':s₀.heap.get? e=none:=n0
 have ne0:∀ {b:Addr} {o:Obj},s₀.heap.get? b=some o->b≠e:=fun q z=>by rw [z,n0'] at q; cases q
 have nfr:∀ b o,H b=some o->b∉frs (envOfC qual scope s₀.heap.objs.size f cd :: outer):=fun b o q z=>by
  have:=I.stkFree b z
  rw [q] at this
  cases this
 have noL:∀ b o,s₀.heap.get? b=some o->b∉frs outer->b∉frs (envOfC qual scope s₀.heap.objs.size f cd :: outer):=fun b o q hb z=>by
  rcases List.mem_cons.mp (I.stkSub b z) with z | z
  ·exact absurd (Heap.lt_size q) (by rw [z]; exact Nat.lt_irrefl _)
  ·exact hb z
 obtain ⟨Bh,eB⟩:∃ Bh,Bh=PySem.W.hideAll s.heap (e :: frs (envOfC qual scope s₀.heap.objs.size f cd :: outer)):=⟨_,rfl⟩
 have gB:∀ b o,s.heap.get? b=some o->b≠e->b∉frs (envOfC qual scope s₀.heap.objs.size f cd :: outer)->Bh.get? b=some o:=fun b o q n1 n2=>by
  rw [eB]
  exact PySem.W.hideAll_get _ q fun z=>(List.mem_cons.mp z).elim n1 n2
 have eN:Bh.get? e=none:=by rw [eB]; exact PySem.W.hideAll_none _ (.head _)
 have stB:Bh.StaysIn s.heap:=fun b o q=>by rw [eB] at q; exact PySem.W.of_hideAll _ q
 have flB:s.heap.FunFrames Bh (envOfC qual scope s₀.heap.objs.size f cd :: outer):=by
  rw [eB]
  exact PySem.W.funFrames_hide I.stack fun env he b hb=>List.mem_cons_of_mem _ (List.mem_filterMap.mpr ⟨env,he,hb⟩)
 clear eB
 have nx:∀ {b:Addr} {o:HO},H b=some o->(∀ ψ,o≠.ext ψ)->b≠e:=fun q n z=>by rw [z,hH] at q; exact n _ (Option.some.inj q).symm
 have hokB:HOk P w (My.del H e) Bh:=fun b o q=>by
  have nb:b≠e:=fun z=>by rw [z,My.del_self] at q; cases q
  rw [My.del_ne nb] at q
  refine (I.hok b o q).stay (fun c v hc z=>gB c v z ?_ ?_) (fun c z=>My.del_at z (nx z fun _ y=>by cases y)) fun c xs z=>My.del_at z (nx z fun _ y=>by cases y)
  ·rcases hc with hc | hc
   ·rw [hc]; exact nb
   ·exact nx hc fun _ y=>by cases y
  ·rcases hc with hc | hc
   ·rw [hc]; exact nfr b o q
   ·exact nfr c _ hc
 have kB:∀ b o,s₀.heap.get? b=some o->H₀ b=none->b∉frs outer->Bh.get? b=some o:=fun b o q n hb=>gB b o (I.base.keep b o q n hb (nex b)) (ne0 q) (noL b o q hb)
 have tB:∀ b o,s₀.heap.get? b=some o->b∉frs outer->∃ o',Bh.get? b=some o':=fun b o q hb=>by
  obtain ⟨o1,q1⟩:=I.base.there b o q (nex b)
  exact ⟨o1,gB b o1 q1 (ne0 q) (noL b o q hb)⟩
 refine dk_any (kpd_leaving _ _) (Q':=fun _ s2=>∃ h'',s2={ s with heap:=h'' }∧Heap.LeftW Bh (envOfC qual scope s₀.heap.objs.size f cd :: outer) e (.ref C) (.ref t) s.heap h'') (wpAny_leaving_firstW (a0:=.ref t) I.ok.frames flB rfl ge stB eN rfl rfl rfl fun h'' hL=>⟨h'',rfl,hL⟩) ?_
 rintro _ s2 ⟨h'',rfl,hL⟩ dk
 obtain ⟨j1,⟨_,_,j2⟩,j3,j4⟩:=hL
 have fl:Heap.FlyingW Bh outer e (.ref C) (.ref t) h'':=⟨j1,eN,j2,j3⟩
 refine ⟨e,t,.ref C,some d,Bh,My.del H e,rfl,I.os,I.bare,?_,kB,tB,hokB,⟨fl,dk.dict ⟨_,ge,rfl⟩⟩,n0',My.del_self _ _,hE⟩
 have slot':∀ b o,s₀.heap.get? b=some o->H₀ b=none->b∈frs outer->∃ sl,h''.get? b=some { o with slots:=sl }:=fun b o q n hb=>by
  obtain ⟨sl,q1⟩:=I.base.slot b o q n hb (nex b)
  obtain ⟨_,o2,q3,nf⟩:=I.funs.mem hb
  rw [q1] at q3
  cases q3
  obtain ⟨sl2,q4⟩:=j4 b _ q1 nf
  exact ⟨sl2,q4⟩
 refine ⟨fun b o q n hb _=>fl.1 b o (kB b o q n hb),fun b o q n hb _=>slot' b o q n hb,fun b o q n _=>by rw [My.del_ne (ne0 q)]; exact I.base.free b o q n (nex b),fun b o q _=>?_,fun b xs q=>?_,fun b o u q=>?_,fun b ps q=>?_⟩
 ·by_cases hb:b∈frs outer
  ·obtain ⟨sl,q1⟩:=slot' b o q (I.ok.frf b hb) hb
   exact ⟨_,q1⟩
  ·obtain ⟨o1,q1⟩:=tB b o q hb
   exact ⟨o1,fl.1 b o1 q1⟩
 ·have:=I.base.tups b xs q
  exact My.del_at this (nx this fun _ y=>by cases y)
 ·have:=I.base.frzs b o u q
  exact My.del_at this (nx this fun _ y=>by cases y)
 ·obtain ⟨more,this⟩:=I.base.tbls b ps q
  exact ⟨more,My.del_at this (nx this fun _ y=>by cases y)⟩
end
end L2
namespace L2
open PySem PySem.Spec PyProof.Rows PySem.W
def excI (K:Frag) (C:Addr) (bmB:List Value) (newId:String) (fI:Addr):Bool:=match K.lookup C with
 | some ⟨.type "type",_,.cls cd,sl⟩=>(match cd.mro,sl.toList with
  | .ref D :: tl,[_,_,_,_,some (.builtin n),_]=>D == C && n == newId && !cd.hasDel && tailIn K bmB tl && nsOkIn K cd.ns && nsIn K cd.ns "__init__" == some (some (.ref fI))
  | _,_=>false)
 | _=>false
theorem ns_some_of {K:Frag} {h:Heap} {N:Addr} {m:Str->Option Value} {n:Str} {v:Value} (X:K.In h) (G:h.Ns N m) (e:nsIn K N n=some (some v)):m n=some v:=by
 obtain ⟨o,es,ep,ho,hd,_,hf⟩:=G
 unfold nsIn at e
 split at e
 ·rename_i _ _ _ _ _ q
  have hq:=X _ _ q
  rw [ho] at hq
  cases hq
  cases hd
  split at e
  ·rename_i _ he
   cases e
   rw [←hf]
   show (nsFind _ _)=_
   unfold nsFind findBy
   rw [←Array.find?_toList,he] <;> rfl
  ·split at e <;> cases e
 ·cases e
theorem exc_clsI {K:Frag} {h:Heap} {C fI:Addr} {bm:List Value} {newId:String} (X:K.In h) (q:excI K C bm newId fI=true) :
  ∃ tl N nm qn bs hdct sn sub ab col dd k0 k1 k2 k3 k5 mN,h.get? C=some (ClsE nm qn C N bs tl hdct sn sub ab col dd k0 k1 k2 k3 k5 newId)∧h.Ns N mN∧mN "__init__" = some (.ref fI)∧OwnTail h bm tl:=by
 unfold excI at q
 split at q
 case h_2=>cases q
 case h_1 dd cd sl ho =>
  split at q
  case h_2=>cases q
  case h_1 D tl k0 k1 k2 k3 n k5 hm hs =>
   simp only [Bool.and_eq_true,beq_iff_eq,Bool.not_eq_true'] at q
   obtain ⟨⟨⟨⟨⟨e1,e2⟩,hdel⟩,ht⟩,hok⟩,hni⟩:=q
   subst e1
   subst e2
   obtain ⟨nm,bs,mro,ns,qn,hd,sn,sub,ab,col,del⟩:=cd
   obtain ⟨sl⟩:=sl
   dsimp only at hm hdel hok hni hs
   subst hm
   subst hdel
   subst hs
   have hN:=Heap.Ns.of_isNs (PySem.W.isNs_of_in X hok)
   exact ⟨tl,ns,nm,qn,bs,hd,sn,sub,ab,col,dd,k0,k1,k2,k3,k5,_,X _ _ ho,hN,ns_some_of X hN hni,PySem.W.tail_of_in X ht⟩
def tRaiseI (C:Addr) (sp:Sp) (E:XK) (ta:TA):TS:=fun _ σ H=>ta σ H fun vs H1=>vs.length≤sizeLine∧∀ e t,H1 e=none->sp (.ref e :: vs) (upd H1 e (excN e C t)) (fun v H2=>v=.non∧∃ d,H2 e=some (excF e C t d)∧E (.ref C) (some d) (My.del H2 e)) E0
theorem ps_raiseI {X:Cx} {x:Str} {C fI:Addr} {fd:FuncData} {ps:List Str} {sp:Sp} {k:Nat} {e0:PySem.Expr} {rest:List PySem.Expr} {ta:TA} {B newId initId:String} {bm:List Value} {E:XK} {np cpos pos:Pos} (hg:Gl X x) (hm:X.mg x=some (.ref C)) (q:excI X.K C bm newId fI=true)
  (FB:ExcBaseFacts B newId initId bm) (hc:X.calm=true) (ho:RaiseOutI X E) (F:FnOk X.prog X.w X.K X.mg X.base CX0 k fI fd ps sp) (hr:Room (k+1) X.A) (hb:Binds X.K fd ps []) (hfn:isFn X.K (.ref fI)=true) (ha:PA X (e0 :: rest) ta) (hdb:(x == ("__debug__":Str))=false:=by decide)
  (he:starEach (e0 :: rest) X.env=(false,eval e0 X.env) :: starEach rest X.env:=by rfl) (hpl:(backTo cpos (starEach rest X.env)).any (·.1)=false:=by rfl) (hex:X.ex=[]:=by rfl) :
  PS X (.Raise (some (.Call (.Name x np) (e0 :: rest) [] cpos)) none pos) (tRaiseI C sp E ta):=by
 intro pins s σ H D I h
 obtain ⟨tl,N,nm,qn,bs,hdct,sn,sub,ab,col,dd,k0,k1,k2,k3,k5,mN,hC,hN,hni,TL⟩:=exc_clsI I.ok.mod.kin q
 obtain ⟨oI,hoI,hcI⟩:∃ oI,X.base.get? fI=some oI∧oI.cls=.type "function":=by
  obtain ⟨o,ho,hc⟩:=Option.map_eq_some_iff.mp (show (X.K.lookup fI).map (·.cls)=some (.type "function") from beq_iff_eq.mp hfn)
  exact ⟨o,I.ok.mod.kin _ _ ho,hc⟩
 refine raise_callI (C:=C) (nm:=nm) (qn:=qn) (N:=N) (bs:=bs) (tl:=tl) (hdct:=hdct) (sn:=sn) (sub:=sub) (ab:=ab) (col:=col) (dd:=dd) (k0:=k0) (k1:=k1) (k2:=k2) (k3:=k3) (k5:=k5) (oI:=oI)
  FB (mN:=mN) (TL.hasType FB.hasBase) (I.ok.hd hc) ?_ hni hcI (ld_glob I hg hm ⟨rfl,?_⟩ hdb)
 ·rw [he]
  show (false || (backTo cpos (starEach rest X.env)).any (·.1))=false
  rw [hpl]
  rfl
 ·have hargs:=ha cpos pins s σ H _ I h
  rw [he] at hargs ⊢
  refine Calls.evalArgs_plain (thn hargs fun us s1 ⟨vs,H1,I1,r,z,q1⟩=>⟨rfl,?_,I1.bk _ _ hC,hN.keeps I1.bk,TL.keeps I1.bk,I1.bk _ _ hoI,fun h' e t hx ht=>?_⟩)
  ·rw [←r.length]
   exact z
  have n1:H1 e=none:=free_of_none I1.hok hx.new
  have I2:Inv X pins σ (upd H1 e (excN e C t)) { s1 with heap:=h' }:=I1.put (t':=s1.toks) hx.keeps hx.new (excN_ok ht)
  have n0:X.s₀.heap.get? e=none:=by
   cases y:X.s₀.heap.get? e with
   | none=>rfl
   | some o =>
    obtain ⟨o1,y1⟩:=I1.base.there e o y (by rw [hex]; simp)
    rw [hx.new] at y1
    cases y1
  have q2:=q1 e t n1
  have rv:Vals (.ref e :: vs) (.ref e :: us):=.cons rfl r
  have hl:(Value.ref e :: us).length=ps.length:=by rw [←rv.length]; exact F.len _ _ _ _ q2
  refine wpAny_call (codeAny_mono (F.run _ X.stack _ _ ⟨.ref e :: us,[]⟩ (.ref e :: us) (.ref e :: vs) _ E0 (hr.make C us []) (I2.env0.make C us []) (by have:=hb { s1 with heap:=h' } (.ref e :: us) I2.kIn (by simpa using hl); simpa using this) rv q2) fun r' s' hq=>?_)
  cases r' with
  | error e=>exact False.elim hq
  | ok fl =>
   cases fl with
   | next=>exact False.elim hq
   | brk=>exact False.elim hq
   | cont=>exact False.elim hq
   | ret u =>
    obtain ⟨v,H3,I3,rv3,e3,d,hd3,hE3⟩:=I2.after hq
    subst e3
    obtain rfl:u=Value.none:=rv3
    exact ⟨rfl,⟨some d,excF_get I3.hok hd3⟩,I3.bk _ _ hC,ho pins σ H3 s' e C t d I3 hd3 n0 hE3⟩
end L2
namespace L2
open PySem PySem.Spec PyProof.Rows PySem.W
section
variable {prog:Program} {w:World} {A:Around} {E:Value->Shared->Prop} {s:Shared} {K:Frag} {x C d:Addr} {ox:Obj} {name:Str} {v:Value} {m:Str->Option Value} {ns:List Str}
theorem xset2 {Q:Unit->Shared->Prop} (X:K.In s.heap) (hx:s.heap.get? x=some ox) (hcl:ox.cls=.ref C) (hdn:ox.dict=some d) (hno:notCls ox=true) (hN:s.heap.Ns1 d m) (hw:Within m ns) (hz:ns.length≤100)
  (hs:findIn K (.ref C) "__setattr__" = some (some (.builtin "object.__setattr__"))) (hm:exIn K C=true) (hn:findIn K (.ref C) name=some none)
  (h:∀ h' tk,h'.Ns1 d (fun y=>if y=name then some v else m y)->(∀ b o,b≠d->s.heap.get? b=some o->h'.get? b=some o)->Q () { s with heap:=h',toks:=tk }) :
  wpAny (model prog w) A (setAttr (.ref x) name v) Q E s:=by
 obtain ⟨od,es,ep,ho,hdd,_⟩:=id hN
 have I:InstAt s.heap x ox C (some od):=⟨hx,hcl,hno,by rw [hdn]; exact ho⟩
 obtain ⟨cd,hc,hcd⟩:=any_some hm
 rw [Bool.and_eq_true] at hcd
 obtain ⟨hhd,hmro⟩:=hcd
 obtain ⟨m1,m2,m3⟩:=exMro_spec hmro
 have SF:=PySem.F.store_object
 refine set_plain X I hs ?_
 obtain ⟨hp,g,dr,tk,os⟩:=s
 dsimp only at X hx I h hN ho ⊢
 have sub:Looks (model prog w) hp (isInstance (.ref x) (.type "object")) true:=I.type.andThen (looks_mroIn X (by unfold mroIn; rw [hc,Option.bind_some,if_neg (by rw [m3]; decide),m2]))
 refine codeAny_call_builtin SF.slot.plain SF.entry (@check_slot (model prog w) _ _ ⟨hp,g,dr,tk+1,os⟩ "object.__setattr__" "object" "__setattr__" (.ref x) [.str name tk,v] [] _ SF.kind SF.split sub (SF.args (.ref x) (.str name tk) v) ?_)
 have hmo:Looks (model prog w) hp (mroOf (.ref C)) cd.mro:=(looks_clsIn X hc).andThen .now
 rw [osa_eq,refuse_eq]
 refine wpAny_bind (wpAny_bind (I.type.at (wpAny_bind (hmo.at ?_))))
 rw [m1]
 refine wpAny_pure (wpAny_bind (I.type.at (wpAny_bind ((looks_findIn X hn).at (wpAny_bind (Looks.now.at ?_))))))
 show wpAny _ _ (Builtin.ObjectAttr.storeInOwnDict (.ref x) (.ref C) (.str name tk) name v false) _ _ _
 obtain ⟨oc,odi,oda,osl⟩:=ox
 dsimp only at hcl hdn
 subst hcl
 subst hdn
 refine wpAny_bind (wpAny_pure (wpAny_bind (wpAny_bind (wpAny_loadPart hx (wpAny_bind ((looks_clsIn X hc).at ?_))))))
 rw [hhd]
 refine wpAny_pure ?_
 show wpAny _ _ (Builtin.ObjectAttr.storeInDict d (.str name tk) name v) _ _ _
 unfold Builtin.ObjectAttr.storeInDict Builtin.ObjectAttr.newKeyGuard
 refine wpAny_bind (wpAny_pure (wpAny_bind (wpAny_nsSet1 hN fun h' hn' hs=>?_)))
 obtain ⟨oD,esD,epD,hoD,hdD,hcD⟩:=hn'.count (Within.cons name v hw)
 refine wpAny_bind (wpAny_lookBehind hoD (by rw [hdD]; exact pastItsLine_dict (Nat.le_trans hcD (by rw [List.length_cons,sizeLine_eq]; omega))) ?_)
 refine wpAny_pure ?_
 exact h h' _ hn' fun b o n e=>(hs.2 b n).trans e
end
section
variable {X:Cx} {pins:List (Addr×Obj)} {σ:St} {H:Hp} {s:Shared} {h':Heap}
theorem Inv.putX {d:Addr} {fs gs:List (Str×V)} {t':Nat} (I:Inv X pins σ H s) (ha:H d=some (.xd fs)) (k:∀ b u,b≠d->s.heap.get? b=some u->h'.get? b=some u) (hex:∃ u,h'.get? d=some u) (new:ObjOk X.prog X.w (upd H d (.xd gs)) h' d (.xd gs)):Inv X pins σ (upd H d (.xd gs)) { s with heap:=h',toks:=t' }:=by
 have nh:∀ {b:Addr},H b=none->b≠d:=fun e z=>by rw [z,ha] at e; cases e
 have old:∀ {b:Addr} {o:HO},b≠d->H b=some o->upd H d (.xd gs) b=some o:=fun n e=>by rw [upd_ne n]; exact e
 have na:∀ {b:Addr} {o:HO},H b=some o->(∀ ys,o≠.xd ys)->b≠d:=fun e n z=>by rw [z,ha] at e; exact n fs (Option.some.inj e).symm
 refine I.un ⟨fun b u q n _ _=>k b u (nh n) q,fun b u q n _ _=>⟨u.slots,k b u (nh n) q⟩,fun b u q n _=>by rw [upd_ne (nh n)]; exact n,fun b u q _=>?_,fun b xs q=>old (na q fun _ z=>by cases z) q,fun b u xs q=>old (na q fun _ z=>by cases z) q,fun b ps q=>⟨#[],by rw [old (na q fun _ z=>by cases z) q]; simp⟩⟩ fun b u e=>?_
 ·by_cases z:b=d
  ·rw [z]; exact hex
  ·exact ⟨u,k b u z q⟩
 ·by_cases z1:b=d
  ·subst z1; rw [upd_same] at e; cases e; exact new
  rw [upd_ne z1] at e
  refine (I.hok b u e).stay (fun c v hc q=>k c v ?_ q) (fun c q=>old (na q fun _ z=>by cases z) q) fun c xs q=>old (na q fun _ z=>by cases z) q
  rcases hc with rfl | hc
  ·exact z1
  ·exact na hc fun _ z=>by cases z
end
def sFldX2 (K:Frag) (ta tv:TE) (f g:Str):TS:=fun D σ H=>tv σ H fun y H1=>ta σ H1 fun x H2=>∃ a C t d z,x=.ref a∧H2 a=some (excF a C t d)∧H2 d=some (.xd [(g,z)])∧XStore K C f∧D.nx σ (upd H2 d (.xd [(f,y),(g,z)]))
theorem ps_fldX2 {X:Cx} {o value:PySem.Expr} {f g:Str} {pos pos':Pos} {ta tv:TE} (ha:PE X o ta) (hv:PE X value tv) (hs:swapsWith value (some (.Attribute o f pos')) pos.line X.env=pure false):PS X (.Assign [.Attribute o f pos'] value pos) (sFldX2 X.K ta tv f g):=by
 intro pins s σ H D I h
 refine plainObj_wpAny_Assign_Attribute (thn (hv pins s σ H _ I h) fun u s1 ⟨y,H1,I1,ry,q⟩=>thn (ha pins s1 σ H1 _ I1 q) fun ov s2 ⟨x,H2,I2,rx,a,C,t,d,z,ex,ea,ed,⟨x1,x2,x3⟩,q2⟩=>?_) hs
 subst ex
 obtain rfl:ov=Value.ref a:=rx
 have ga:=excF_get I2.hok ea
 obtain ⟨m,hN,hm⟩:=I2.hok d _ ed
 have hw:Within m [g]:=fun y hy=>by
  by_cases e:y=g
  ·exact List.mem_singleton.mpr e
  ·have:=hm y
   rw [List.lookup_cons,show (y == g)=false by simp [e],List.lookup_nil] at this
   cases q:m y with
   | none=>exact absurd q hy
   | some v=>rw [q] at this; exact absurd this id
 refine xset2 I2.kIn ga rfl rfl rfl hN hw (by show 1≤100; decide) x1 x2 x3 fun h' tk hn hk=>⟨σ,_,?_,q2⟩
 obtain ⟨o,es,ep,e1,_⟩:=id hn
 refine I2.putX (t':=tk) ed hk ⟨_,e1⟩ ⟨_,hn,fun y=>?_⟩
 rw [List.lookup_cons]
 by_cases e:y=f
 ·subst e
  rw [beq_self_eq_true]
  simp only [if_true]
  exact ry
 ·rw [show (y == f)=false by simp [e],if_neg e]
  exact hm y
end L2
namespace My
open PySem L2 PySem.Spec PyProof.Rows
section
variable {X:Cx} {pins:List (Addr×Obj)} {σ:L2.St} {H:Hp} {s:Shared}
end
end My
namespace L2
open PySem PySem.Spec PyProof.Rows
section
variable {X:Cx}
def rIndex:V->List V->Hp->VK->Prop:=fun x vs H Q=>∃ (l:Addr) (ns:List Int) (k:Int),x=.ref l∧vs=[.int k]∧H l=some (.lst (ns.map V.int))∧k∈ns∧ns.length≤1000000∧Q (.int ((ns.idxOf k:Nat):Int)) H
theorem mt_index:MtM X "list.index" rIndex:=by
 intro pins s σ H x vs v us Q I rx rv h
 obtain ⟨l,ns,k,rfl,rfl,hH,hk,hz,q⟩:=h
 cases rx
 obtain ⟨u,rfl,ru⟩:=rv.one
 obtain ⟨t,rfl⟩:=ru
 obtain ⟨z,its,n,r,hl,e⟩:=I.lstM hH
 have hi:=intsAre_of r
 have hlen:=hi.length
 have hj:ns.idxOf k<ns.length:=List.idxOf_lt_length_iff.mpr hk
 refine call_meets PySem.F.slot_list_index ⟨_,e,rfl⟩ PySem.F.entry_list_index (PySem.F.args_list_index_2 _ _)
  (MeetsSeq.list_index l its.toArray n (.int k t) (isInt k) (fun y hy=>eq_isInt k t hi y (by simpa using hy)) (ns.idxOf k) (by simpa [hlen] using hj) (by omega) ?_ ?_) ⟨e,⟨.int ((ns.idxOf k:Nat):Int),H,I.tok _,⟨_,rfl⟩,q⟩⟩
 ·show isInt k its[ns.idxOf k]=true
  rw [isInt_at k hi _ (by omega) hj]
  simpa using List.getElem_idxOf hj
 ·intro j hjs hlt
  show isInt k its[j]=false
  rw [isInt_at k hi j (by simpa using hjs) (by omega)]
  exact ne_of_lt_idxOf hlt _
theorem flat_ints (ns:List Int):(ns.map V.int).all flatV=true:=by
 induction ns with
 | nil=>rfl
 | cons n ns ih=>rw [List.map_cons,List.all_cons,ih]; rfl
theorem inV_ints (k:Int) (ns:List Int):inV (.int k) (ns.map V.int)=decide (k∈ns):=by
 unfold inV
 induction ns with
 | nil=>rfl
 | cons n ns ih =>
  rw [List.map_cons,List.any_cons,ih]
  have e:eqV (.int n) (.int k)=decide (k=n):=by
   show decide (n=k)=decide (k=n)
   by_cases h:n=k
   ·rw [decide_eq_true h,decide_eq_true h.symm]
   ·rw [decide_eq_false h,decide_eq_false (fun z=>h z.symm)]
  rw [e]
  by_cases h:k=n
  ·simp [h]
  ·simp [h]
end
end L2
namespace L2
open PySem PySem.Spec PyProof.Rows
section
variable {X:Cx} {K:PySem.W.Frag}
theorem ixT (h:X.K=K:=by rfl):IxR X (rIxT K):=h ▸ ix_tup
theorem ixL (h:X.K=K:=by rfl):IxR X (rIxL K):=h ▸ ix_list
theorem slT (h:X.K=K:=by rfl):SlR X (rSlT K):=h ▸ sl_tup
theorem callLen (h:X.K=K:=by rfl):CallR X (.builtin "len") (LenR K):=h ▸ call_len_seq
theorem callTup (h:X.K=K:=by rfl):CallR X (.type "tuple") (fun xs H Q=>∃ p ys,xs=[.ref p]∧((SqL K H p ys∧∀ l,H l=none->Q (.ref l) (upd H l (.tup ys)))∨(SqT K H p ys∧Q (.ref p) H))):=h ▸ call_tuple_of
theorem callLst (h:X.K=K:=by rfl):CallR X (.type "list") (fun xs H Q=>∃ p ys,xs=[.ref p]∧(SqL K H p ys∨SqT K H p ys)∧∀ l,H l=none->Q (.ref l) (upd H l (.lst ys))):=h ▸ call_list_of
theorem pgTup {es:List PySem.Expr} {k:Nat} {t:TGs} {n:Nat} {pos:Pos} (hc:X.calm=true) (g:PGs X es t) (h:X.K=K:=by rfl)
  (hn:(assignEach es X.env).length=n:=by rfl) (hst:(assignEach es X.env).findIdx? (·.1)=none:=by rfl):PG X (.Tuple es k pos) (gTup K n t):=h ▸ pg_tup hc g hn hst
theorem piTup {tg l:PySem.Expr} {tl:TE} (hl:PE X l tl) (h:X.K=K:=by rfl):PI X tg l (iTup K tl):=h ▸ pi_tup hl
theorem piLst {tg l:PySem.Expr} {tl:TE} (hl:PE X l tl) (h:X.K=K:=by rfl):PI X tg l (iList K tl):=h ▸ pi_list hl
end
end L2
namespace L2
open PySem PySem.Spec PyProof.Rows
section
variable {prog:Program} {w:World} {A:Around} {E:Value->Shared->Prop} {s:Shared}
theorem collect_tup {t:Addr} {vs:List Value} {Q:List Value->Shared->Prop} (ht:s.heap.IsTuple t vs.toArray) (hsz:vs.length≤sizeLine)
  (h:Q vs { s with heap:=(s.heap.push (seqObj "list" #[] 0)).update s.heap.objs.size (Obj.mapSeq (·++vs.toArray)) }):wpAny (model prog w) A (collect (.ref t)) Q E s:=by
 obtain ⟨ot,e1,e2,n,e3⟩:=id ht
 unfold collect; refine wpAny_bind (wpAny_runValue (codeAny_builtin entry_proto_collect' ?_)); show wpAny _ _ (do again (.builtin "list.__iadd__" ⟨[←newList [],.ref t],[]⟩)) _ _ s
 refine wpAny_bind (wpAny_newList (wpAny_pure ⟨Code.quiet_builtin _ (by decide +kernel),codeAny_builtin entry_list_iadd' ?_⟩)); show wpAny _ _ (Builtin.List.listExtendWith (.ref s.heap.objs.size) (.ref t) (.ref s.heap.objs.size)) _ _ { s with heap:=s.heap.push (seqObj "list" #[] 0) }
 unfold Builtin.List.listExtendWith; have e4:(s.heap.push (seqObj "list" #[] 0)).get? t=some ot:=Heap.get?_push_of_some _ e1
 refine wpAny_bind (wpAny_typeOf (T:="tuple") ⟨ot,e4,e2⟩ ?_); have e5:(Value.type "tuple" == Value.type "tuple")=true:=by rfl
 rw [if_pos (by rw [e5]; simp)]; refine wpAny_bind (listItems_at e4 e3 (wpAny_bind (listItems_at (xs:=#[]) (n:=0) (Heap.get?_push_size _ rfl) rfl ?_)))
 rw [if_neg (by simp)]; refine wpAny_bind (listUpdate_at (xs:=#[]) (n:=0) (Heap.get?_push_size _ rfl) rfl (wpAny_pure ?_) (Nat.zero_le _) (by show (#[]++vs.toArray).size≤sizeLine+1; simp only [Array.size_append,List.size_toArray,List.length_nil]; omega))
 show wpAny (model prog w) A (do let o ←load s.heap.objs.size; match o.data with | .seq xs _=>pure xs.toList | _=>unsupported "internal:collect") Q E { s with heap:=(s.heap.push (seqObj "list" #[] 0)).update s.heap.objs.size (Obj.mapSeq (·++vs.toArray)) }
 refine wpAny_bind (wpAny_load (get?_update_seq (Heap.get?_push_size _ rfl) _) ?_); show wpAny _ _ (pure ((#[]:Array Value)++vs.toArray).toList) Q E _
 rw [show ((#[]:Array Value)++vs.toArray).toList=vs by simp]; exact wpAny_pure h
theorem sorted_tup {t:Addr} {vs:List Value} {ns:List Int} {Q:Value->Shared->Prop} (ht:s.heap.IsTuple t vs.toArray) (hI:IntsAre vs ns) (h64:vs.length<64)
  (h:∀ (out:Array Value) (ns':List Int),IntsAre out.toList ns'->ns'.Perm ns->ns'.Pairwise (·≤·)->Q (.ref (s.heap.objs.size+1)) { s with heap:=sortedAll s.heap vs out }):wpAny (model prog w) A (call (.builtin "sorted") [.ref t]) Q E s:=by
 refine Calls.call_function_entry kind_sorted plain_sorted entry_sorted (args_sorted1 _) ?_; unfold Builtin.«sorted»
 refine wpAny_bind (m:=checkCount "sorted" 1 1 _) (wpAny_pure (wpAny_bind (collect_tup ht (by rw [sizeLine_eq]; omega) (wpAny_bind (wpAny_newList ?_)))))
 have sz:((s.heap.push (seqObj "list" #[] 0)).update s.heap.objs.size (Obj.mapSeq (·++vs.toArray))).objs.size=s.heap.objs.size+1:=by rw [Heap.size_update,size_push']
 have hL:(((s.heap.push (seqObj "list" #[] 0)).update s.heap.objs.size (Obj.mapSeq (·++vs.toArray))).push (seqObj "list" vs.toArray 0)).get? (s.heap.objs.size+1)=some (seqObj "list" vs.toArray 0):=by rw [←sz]; exact Heap.get?_push_size _ rfl
 show wpAny _ _ _ _ _ { s with heap:=((s.heap.push (seqObj "list" #[] 0)).update s.heap.objs.size (Obj.mapSeq (·++vs.toArray))).push (seqObj "list" vs.toArray 0) }; rw [sz]
 refine wpAny_bind (wpAny_holding (wpAny_call_entry slot_list_sort ⟨_,hL,rfl⟩ entry_list_sort (list_sort_tree hL hI h64 fun out ns' a1 a2 a3=>⟨_,rfl,wpAny_pure ⟨_,rfl,h out ns' a1 a2 a3⟩⟩) (args_list_sort _)))
end
section
variable {X:Cx}
theorem vals_of {ns:List Int}:∀ {us:List Value},IntsAre us ns->Vals (ns.map V.int) us:=by
 induction ns with
 | nil=>intro us r; cases r; exact .nil
 | cons n ns ih =>
  intro us r
  cases r with
  | cons=>exact .cons ⟨_,rfl⟩ (ih (by assumption))
theorem call_sortT:CallR X (.builtin "sorted") (fun xs H Q=>∃ (p:Addr) (ns:List Int),xs=[.ref p]∧H p=some (.tup (ns.map V.int))∧ns.length<64∧∀ (l:Addr) (ms:List Int),H l=none->ms.Perm ns->ms.Pairwise (·≤·)->Q (.ref l) (upd H l (.lst (ms.map V.int)))):=by
 intro pins s σ H xs us Q I r h
 obtain ⟨p,ns,rfl,hp,h64,q⟩:=h
 obtain ⟨u,rfl,r1⟩:=vals1 r
 cases r1
 obtain ⟨its,rv,pa,_⟩:=I.tuple (SqT.of (K:=X.K) hp)
 have hlen:its.length=ns.length:=by rw [←rv.length,List.length_map]
 refine sorted_tup pa (intsAre_of rv) (by omega) fun out ms a1 a2 a3=>?_
 obtain ⟨e,he⟩:=sortedAll_at s.heap its out
 have hz:(ms.map V.int).length≤sizeLine:=by rw [List.length_map,a2.length_eq,sizeLine_eq]; omega
 have hn:H (s.heap.objs.size+1)=none:=I.hok.fresh (Nat.le_succ _)
 exact ⟨.ref (s.heap.objs.size+1),_,I.laid (t':=s.toks) (fun _ _=>sortedAll_old) (Nat.le_succ _) (show ObjOk X.prog X.w _ _ _ (.lst (ms.map V.int)) from ⟨hz,out.toList,e,vals_of a1,he⟩),rfl,q _ ms hn a2 a3⟩
end
end L2
namespace L2
open PySem PySem.Spec PyProof.Rows PySem.SeqAt
section
variable {prog:Program} {w:World} {A:Around} {E:Value->Shared->Prop}
abbrev srch (items:Array Value) (x:Value):Nat->Option PySem.Fin×PUnit->Sem (ForInStep (Option PySem.Fin×PUnit)):=fun i _=>match items[i]? with
 | some y=>do let b ←eqBool y x; if b=true then (do let r ←retInt (i:Int); pure (ForInStep.done (some r,()))) else pure (ForInStep.yield (none,()))
 | _=>pure (ForInStep.yield (none,()))
theorem index_go (items:Array Value) (x:Value) (e:Value->Bool) (j:Nat) (hj:j<items.size) (hit:e items[j]=true) (hno:∀ m (hm:m<items.size),m<j->e items[m]=false) {Q:Option PySem.Fin×PUnit->Shared->Prop} :
  ∀ (k i:Nat) (s:Shared),i+k=j->(∀ y,y∈items->EqAt A s y x (e y))->Q (some (.done (.ret (.int j s.toks))),()) { s with toks:=s.toks+1 } →
   wpAny (model prog w) A (forIn (List.range' i (items.size-i) 1) ((none:Option PySem.Fin),()) (srch items x)) Q E s:=by
 intro k
 induction k with
 | zero =>
  intro i s hi he q
  have e1:i=j:=by omega
  subst e1
  rw [show items.size-i=(items.size-i-1)+1 by omega,List.range'_succ,List.forIn_cons]
  refine wpAny_bind ?_
  show wpAny _ _ (match items[i]? with | some y=>_ | _=>_) _ _ s
  rw [show items[i]?=some items[i] by simp [hj]]
  refine wpAny_bind (he _ (Array.getElem_mem hj) prog w _ _ ?_)
  rw [hit]
  wp_walk
  exact q
 | succ k ih =>
  intro i s hi he q
  have hl:i<items.size:=by omega
  rw [show items.size-i=(items.size-(i+1))+1 by omega,List.range'_succ,List.forIn_cons]
  refine wpAny_bind ?_
  show wpAny _ _ (match items[i]? with | some y=>_ | _=>_) _ _ s
  rw [show items[i]?=some items[i] by simp [hl]]
  refine wpAny_bind (he _ (Array.getElem_mem hl) prog w _ _ ?_)
  rw [hno i hl (by omega)]
  exact wpAny_pure (ih (i+1) s (by omega) he q)
set_option maxHeartbeats 1000000 in
theorem tuple_indexAt (t:Addr) (items:Array Value) (n:Nat) (dd:Option Addr) (sl:Array (Option Value)) (x:Value) (e:Value->Bool) (j:Nat) (hj:j<items.size)
  (hit:e items[j]=true) (hno:∀ m (hm:m<items.size),m<j->e items[m]=false) :
  Meets (Builtin.«tuple.index» ⟨[.ref t,x],[]⟩) (fun A R s=>s.heap.get? t=some { cls:=.type "tuple",dict:=dd,data:=.seq items n,slots:=sl }∧(∀ y,y∈items->EqAt A.in1 s y x (e y))∧R (.ok (.ret (.int j s.toks))) { s with toks:=s.toks+1 }):=by
 intro prog w A R s h
 obtain ⟨hp,g,d,tk,os⟩:=s; obtain ⟨ht,he,h⟩:=h
 wp_walk using AutoSeq1.wpAny_loadPart' ht
 show wpAny (model prog w) A.in1 (forIn [:min items.size items.size] ((none:Option PySem.Fin),()) (srch items x)) _ _ _
 rw [Std.Legacy.Range.forIn_eq_forIn_range']
 simp only [Std.Legacy.Range.size,Nat.min_self,Nat.sub_zero,Nat.add_sub_cancel,Nat.div_one]
 refine index_go (A:=A.in1) items x e j hj hit hno j 0 _ (by omega) he ?_
 wp_walk
 exact h
end
section
variable {X:Cx}
def rIndexT:V->List V->Hp->VK->Prop:=fun x vs H Q=>∃ (l:Addr) (ns:List Int) (k:Int),x=.ref l∧vs=[.int k]∧H l=some (.tup (ns.map V.int))∧k∈ns∧Q (.int ((ns.idxOf k:Nat):Int)) H
theorem mt_indexT:MtM X "tuple.index" rIndexT:=by
 intro pins s σ H x vs v us Q I rx rv h
 obtain ⟨l,ns,k,rfl,rfl,hH,hk,q⟩:=h
 cases rx
 obtain ⟨u,rfl,ru⟩:=rv.one
 obtain ⟨t,rfl⟩:=ru
 obtain ⟨its,r,⟨⟨c,dct,dt,sl⟩,e,hc,n,hd⟩,_⟩:=I.tuple (SqT.of (K:=X.K) hH)
 obtain rfl:c=.type "tuple":=hc
 obtain rfl:dt=.seq its.toArray n:=hd
 have hi:=intsAre_of r
 have hlen:=hi.length
 have hj:ns.idxOf k<ns.length:=List.idxOf_lt_length_iff.mpr hk
 refine call_meets PySem.F.slot_tuple_index ⟨_,e,rfl⟩ PySem.F.entry_tuple_index (PySem.F.args_tuple_index_2 _ _)
  (tuple_indexAt l its.toArray n dct sl (.int k t) (isInt k) (ns.idxOf k) (by simpa [hlen] using hj) ?_ ?_) ⟨e,fun y hy=>(eq_isInt k t hi y (by simpa using hy)).at _ _,⟨.int ((ns.idxOf k:Nat):Int),H,I.tok _,⟨_,rfl⟩,q⟩⟩
 ·show isInt k its[ns.idxOf k]=true
  rw [isInt_at k hi _ (by omega) hj]
  simpa using List.getElem_idxOf hj
 ·intro j hjs hlt
  show isInt k its[j]=false
  rw [isInt_at k hi j (by simpa using hjs) (by omega)]
  exact ne_of_lt_idxOf hlt _
end
end L2
namespace HT
open PySem PySem.Spec PyProof.Rows L2
section
variable {prog:Program} {w:World} {A:Around} {E:Value->Shared->Prop} {s:Shared}
theorem getItem_tuple_all {t sl:Addr} {items:Array Value} {vl vu:Value} {lo hi:Option Int} {Q:Value->Shared->Prop} (ht:IsTup s.heap t items) (hs:s.heap.IsSliceOf sl vl vu .none) (pl:IsPart vl lo) (pu:IsPart vu hi)
  (hw:sIx items.size 0 lo=0∧sIx items.size items.size hi=items.size) (h:Q (.ref t) s):wpAny (model prog w) A (getItem (.ref t) (.ref sl)) Q E s:=by
 obtain ⟨os,hos,hcs,hds⟩:=id hs
 have hTs:s.TypeIs (.ref sl) "slice":=⟨os,hos,hcs⟩; unfold getItem; try with_reducible refine wpAny_holding ?_
 first | refine wpAny_bind (wpAny_pure ?_) | skip
 refine wpAny_bind (wpAny_sequenceKey ht.typeIs (by decide) (wpAny_bind (wpAny_callSpecial?_slot (name:=Str.ofString "__getitem__") ht.typeIs PyProof.Rows.slot_tuple_getitem (wpAny_call_entry PyProof.Rows.slot_tuple_getitem ht.typeIs entry_tuple_getitem ?_ (args_tuple_getitem _ _)))))
 show wpAny _ _ (Builtin.Tuple.tupleItemsOf (.ref t) >>= _) _ _ s; refine wpAny_bind (tupleItemsOf_ ht (wpAny_bind (wpAny_typeOf hTs ?_)))
 rw [if_pos (by decide)]; refine wpAny_bind (sliceApplied_gen hs pl pu ?_)
 have yes:((((sIx items.size 0 lo:Nat):Int) == 0 && (1:Int) == 1 && (sIx items.size items.size hi-sIx items.size 0 lo) == items.size)=true):=by rw [hw.1,hw.2]; simp
 show wpAny _ _ (if (((sIx items.size 0 lo:Nat):Int) == 0 && (1:Int) == 1 && (sIx items.size items.size hi-sIx items.size 0 lo) == items.size)=true then _ else _) _ _ s; rw [if_pos yes]
 unfold Builtin.Tuple.tupleIsExact; refine wpAny_bind ?_
 first | refine wpAny_bind (wpAny_typeOf ht.typeIs (wpAny_pure ?_)) | refine wpAny_typeOf ht.typeIs ?_
 first
  | (rw [if_pos (by decide)]; refine wpAny_bind (wpAny_rule (wpAny_pure ⟨_,rfl,wpAny_pure h⟩)))
  | (rw [if_pos (by rfl)]; exact wpAny_bind (wpAny_rule (wpAny_pure ⟨_,rfl,wpAny_pure h⟩)))
end
end HT
namespace L2
open PySem PySem.Spec PyProof.Rows
section
variable {X:Cx} {K:PySem.W.Frag}
def rSlTA (K:PySem.W.Frag):V->Option Int->Option Int->Hp->VK->Prop:=fun x lo hi H Q=>∃ a xs,x=.ref a∧SqT K H a xs ∧
 ((HT.sIx xs.length 0 lo=0∧HT.sIx xs.length xs.length hi=xs.length)->Q (.ref a) H)∧(¬ (HT.sIx xs.length 0 lo=0∧HT.sIx xs.length xs.length hi=xs.length)->∀ p,H p=none->Q (.ref p) (upd H p (.tup (cutV xs lo hi))))
theorem sl_tupA:SlR X (rSlTA X.K):=by
 intro pins s σ H x v vl vu lo hi sl Q I rx hs pl pu h
 obtain ⟨a,xs,rfl,hx,q1,q2⟩:=h
 by_cases hw:HT.sIx xs.length 0 lo=0∧HT.sIx xs.length xs.length hi=xs.length
 ·cases rx
  obtain ⟨its,r,ht,hz⟩:=I.tuple hx
  have hlen:its.toArray.size=xs.length:=by rw [List.size_toArray]; exact r.length.symm
  exact ⟨"tuple",_,PyProof.Rows.slot_tuple_getitem.lookup,ht.typeIs,HT.getItem_tuple_all ht hs pl pu (by rw [hlen]; exact hw) ⟨.ref a,H,I,rfl,q1 hw⟩⟩
 ·exact sl_tup pins s σ H _ v vl vu lo hi sl Q I rx hs pl pu ⟨a,xs,rfl,hx,hw,q2 hw⟩
theorem slTA (h:X.K=K:=by rfl):SlR X (rSlTA K):=h ▸ sl_tupA
end
end L2
namespace L2
open PySem PySem.Spec PyProof.Rows
section
variable {X:Cx}
theorem shaped_li (ns:List Int):SeqAt.shaped (.list (ns.map PyData.int))=true:=by
 simp [SeqAt.shaped,PyData.canLay0,PyData.depth,PySem.W.ke_canLayAll0,PySem.W.ke_depthAll]
end
end L2
namespace L2
open PySem PySem.Spec PyProof.Rows
section
variable {X:Cx}
theorem tupT_is {pins:List (Addr×Obj)} {σ:St} {H:Hp} {s:Shared} {p:Addr} {xs:List V} (I:Inv X pins σ H s) (ty:H p=some (.tup xs)) :
  s.TypeIs (.ref p) "tuple"∧∀ a,Value.ref p=.ref a->∃ ob,s.heap.get? a=some ob∧ob.dict=none:=by
 obtain ⟨_,its,r,⟨o,e,c⟩,o2,e2,c2⟩:=I.hok p _ ty
 exact ⟨⟨o,e,c.1⟩,fun a ea=>by cases ea; exact ⟨o2,e2,c2⟩⟩
def tBT (r:V->List V->Hp->VK->Prop) (to:TE) (t:TA):TE:=fun σ H Q=>to σ H fun x H1=>(∃ p xs,x=.ref p∧H1 p=some (.tup xs))∧t σ H1 fun xs H2=>r x xs H2 Q
variable {o e:Expr} {es:List Expr} {to:TE} {t:TA} {name:Str} {apos cpos:Pos} {id:String} {r:V->List V->Hp->VK->Prop}
theorem pe_bmT (pa:PlainAttrs "tuple") (slot:Slot "tuple" name id) (hty:typeOf (.builtin id)=pure (.type "method_descriptor")) (hm:MtM X id r) (ho:PE X o to) (ha:PA X (e :: es) t)
  (hbase:attributeBase o name X.env (eval o X.env)=eval o X.env:=by rfl)
  (hfew:((backTo cpos (starEach (e :: es) X.env)).all (fun x=>!x.1) && (backToKw cpos (keywordEach [] X.env)).all (fun x=>x.1.isSome)
   && decide ((e :: es).length+([]:List Keyword).length+(if ([]:List Keyword).isEmpty then 0 else 1)<30))=true:=by rfl)
  (hline:(apos.endLine == cpos.line)=true:=by rfl) (hs:starEach (e :: es) X.env=(false,eval e X.env) :: starEach es X.env:=by rfl) (hplain:(backTo cpos (starEach es X.env)).any (·.1)=false:=by rfl) :
  PE X (.Call (.Attribute o name apos) (e :: es) [] cpos) (tBT r to t):=by
 intro pins s σ H Q I h
 refine wpAny_Call_method_late hbase hfew hline rfl (thn (ho pins s σ H _ I h) fun v s1 ⟨x,H1,I1,r1,⟨p,xs,ex,hp⟩,q1⟩=>?_)
 subst ex
 cases r1
 obtain ⟨h1,h2⟩:=tupT_is I1 hp
 refine ⟨"tuple",id,pa,slot,hty,h1,h2,?_⟩
 have hA:=ha cpos pins s1 σ H1 _ I1 q1
 rw [hs] at hA ⊢
 refine Calls.callWith_builtin (by show (false || (backTo cpos (starEach es X.env)).any (·.1))=false; rw [hplain] <;> rfl) (Calls.evalArgs_plain ?_)
 exact thn hA fun us s2 ⟨vs,H2,I2,r2,q2⟩=>hm pins s2 σ H2 (.ref p) vs (.ref p) us Q I2 rfl r2 q2
end
end L2
namespace L2
open PySem PySem.Spec PyProof.Rows
inductive RdD (H:Hp):V->PyData->Prop
 | int (i:Int):RdD H (.int i) (.int i)
 | bl (b:Bool):RdD H (.bl b) (.bool b)
 | str (z:Str):RdD H (.str z) (.str z)
 | tup {p:Addr} {xs:List V} {ds:List PyData} (h:H p=some (.tup xs)) (hl:xs.length=ds.length) (hd:∀ (i:Nat) (x:V) (d:PyData),xs[i]?=some x->ds[i]?=some d->RdD H x d):RdD H (.ref p) (.tuple ds)
theorem RdD.keep {H H':Hp} (s:Same H H') {v:V} {d:PyData} (h:RdD H v d):RdD H' v d:=by
 induction h with
 | int i=>exact .int i
 | bl b=>exact .bl b
 | str z=>exact .str z
 | tup h hl hd ih=>exact .tup (s _ _ h) hl ih
section
variable {X:Cx} {pins:List (Addr×Obj)} {σ:L2.St} {H:Hp} {s:Shared}
theorem reads_all (h:Heap):∀ {xs:List V} {its:List Value} {ds:List PyData},Vals xs its->xs.length=ds.length->(∀ (i:Nat) (x:V) (d:PyData),xs[i]?=some x->ds[i]?=some d->∀ u,RelV x u->Reads h u d [])->ReadsAll h its ds []
 | [],_,ds,.nil,hl,_=>by
  have:ds=[]:=List.length_eq_zero_iff.mp hl.symm
  subst this
  exact .nil
 | x :: xs,_,[],_,hl,_=>by simp at hl
 | x :: xs,_,d :: ds,.cons r rs,hl,hd =>
  .cons (as:=[]) (bs:=[]) (hd 0 x d rfl rfl _ r) (reads_all h rs (by simpa using hl) fun i x' d' e1 e2=>hd (i+1) x' d' (by simpa using e1) (by simpa using e2))
theorem rdD_of (I:Inv X pins σ H s) {v:V} {d:PyData} (h:RdD H v d):∀ u,RelV v u->Reads s.heap u d []:=by
 induction h with
 | int i =>
  intro u r
  obtain ⟨t,rfl⟩:=r
  exact .int _ _
 | bl b =>
  intro u r
  cases r
  exact .bool _
 | str z =>
  intro u r
  obtain ⟨t,rfl⟩:=r
  exact .str _ _
 | tup h hl hd ih =>
  intro u r
  cases r
  obtain ⟨its,rv,tp,_⟩:=I.tuple (SqT.of (K:=X.K) h)
  obtain ⟨o,ho,hc,n,hd'⟩:=tp
  exact .tuple ho hc hd' (by simpa using reads_all s.heap rv hl ih)
inductive Shp:Nat->PyData->Prop
 | int {n:Nat} (i:Int):Shp n (.int i)
 | bl {n:Nat} (b:Bool):Shp n (.bool b)
 | tup {n:Nat} {ds:List PyData} (h:∀ d∈ds,Shp n d):Shp (n+1) (.tuple ds)
theorem lay_all:∀ {ds:List PyData},(∀ d∈ds,d.canLay0=true)->PyData.canLayAll0 ds=true
 | [],_=>rfl
 | d :: ds,h=>by
  simp only [PyData.canLayAll0,Bool.and_eq_true]
  exact ⟨h d (by simp),lay_all fun x hx=>h x (by simp [hx])⟩
theorem deep_all {n:Nat}:∀ {ds:List PyData},(∀ d∈ds,d.depth≤n)->PyData.depthAll ds≤n
 | [],_=>Nat.zero_le _
 | d :: ds,h=>by
  have:=deep_all (ds:=ds) fun x hx=>h x (by simp [hx])
  have:=h d (by simp)
  simp only [PyData.depthAll]
  omega
theorem Shp.ok {n:Nat} {d:PyData} (h:Shp n d):d.canLay0=true∧d.depth≤n+1:=by
 induction h with
 | int i=>exact ⟨rfl,by simp [PyData.depth]⟩
 | bl b=>exact ⟨rfl,by simp [PyData.depth]⟩
 | @tup n ds h ih =>
  refine ⟨by simp only [PyData.canLay0]; exact lay_all fun d hd=>(ih d hd).1,?_⟩
  have:=deep_all fun d hd=>(ih d hd).2
  simp only [PyData.depth]
  omega
theorem Shp.shaped {n:Nat} {d:PyData} (h:Shp n d) (hn:n≤60):SeqAt.shaped d=true:=by
 unfold SeqAt.shaped
 rw [Bool.and_eq_true]
 exact ⟨h.ok.1,decide_eq_true (by have:=h.ok.2; omega)⟩
end
end L2
namespace L2
open PySem PySem.Spec PyProof.Rows
section
variable {X:Cx}
def rEqG:R2:=fun x y H Q=>∃ (d e:PyData),RdD H x d∧RdD H y e∧(d.canLay0=true∧d.depth≤64)∧(e.canLay0=true∧e.depth≤64)∧Q (.bl (PyData.eqv d e)) H
def rNeG:R2:=fun x y H Q=>∃ (d e:PyData),RdD H x d∧RdD H y e∧(d.canLay0=true∧d.depth≤64)∧(e.canLay0=true∧e.depth≤64)∧Q (.bl (!PyData.eqv d e)) H
theorem shp {d:PyData} (h:d.canLay0=true∧d.depth≤64):SeqAt.shaped d=true:=by
 unfold SeqAt.shaped
 rw [Bool.and_eq_true]
 exact ⟨h.1,decide_eq_true h.2⟩
theorem op_eqG (hu:X.A.units+64<cLine):OpR X (compareOp .Eq) rEqG:=by
 intro pins s σ H x y v u Q I rx ry h
 obtain ⟨d,e,hx,hy,sd,se,k⟩:=h
 exact eq_dataH (rdD_of I hx v rx) (rdD_of I hy u ry) (shp sd) (shp se) hu ⟨.bl _,H,I,rfl,k⟩
theorem op_neG (hu:X.A.units+64<cLine):OpR X (compareOp .NotEq) rNeG:=by
 intro pins s σ H x y v u Q I rx ry h
 obtain ⟨d,e,hx,hy,sd,se,k⟩:=h
 exact ne_dataH (rdD_of I hx v rx) (rdD_of I hy u ry) (shp sd) (shp se) hu ⟨.bl _,H,I,rfl,k⟩
end
end L2
namespace L2
open PySem PySem.Spec PyProof.Rows
section
variable {X:Cx}
theorem call_minL (hc:X.calm=true):CallR X (.builtin "min") (fun xs H Q=>∃ (p:Addr) (ns:List Int),xs=[.ref p]∧H p=some (.lst (ns.map V.int))∧0<ns.length∧∀ m,m∈ns->(∀ a∈ns,m≤a)->Q (.int m) H):=by
 intro pins s σ H xs us Q I r h
 obtain ⟨p,ns,rfl,hp,hne,q⟩:=h
 obtain ⟨u,rfl,r1⟩:=vals1 r
 cases r1
 obtain ⟨_,its,n,rv,_,e⟩:=I.lstM hp
 have pa:s.heap.IsList p its.toArray:=⟨_,e,rfl,n,rfl⟩
 have hlen:its.length=ns.length:=by rw [←rv.length,List.length_map]
 have hlt:p<s.heap.objs.size:=Heap.lt_size e
 have num:∀ i v,its.toArray[i]?=some v->∃ t,v=.int (ns.getD i 0) t∧i<ns.length:=fun i v hv=>by
  rw [List.getElem?_toArray] at hv
  have hi:i<its.length:=(List.getElem?_eq_some_iff.mp hv).1
  have hi2:i<ns.length:=by omega
  have hx:(ns.map V.int)[i]?=some (.int ns[i]):=by rw [List.getElem?_map,List.getElem?_eq_getElem hi2]; rfl
  obtain ⟨u,hu,ru⟩:=rv.get hx
  rw [hu] at hv
  obtain rfl:u=v:=Option.some.inj hv
  obtain ⟨t,rfl⟩:=ru
  exact ⟨t,by rw [List.getD_eq_getElem?_getD,List.getElem?_eq_getElem hi2]; rfl,hi2⟩
 refine call_min_walk (wpAny_pyIter_list pa ?_)
 refine ⟨s.heap.objs.size,_,_,_,_,_,fun i j=>decide (ns.getD i 0<ns.getD j 0),rfl,Walks.list (show X.A.in1.handled=none from I.ok.hd hc) _ p (Nat.ne_of_lt hlt) its.toArray,⟨⟨_,Heap.get?_push_size _ rfl,rfl,rfl⟩,pa.push _⟩,fun b hb=>?_,by rw [List.size_toArray]; omega,fun i j vi vj s' Q' E' hi hj hQ'=>?_,fun v h' tk hv k=>?_⟩
 ·simp only [List.mem_cons,List.not_mem_nil,or_false] at hb
  rw [Heap.size_push]
  rcases hb with rfl | rfl
  ·exact Nat.lt_succ_self _
  ·exact Nat.lt_succ_of_lt hlt
 ·obtain ⟨t1,rfl,_⟩:=num i vi hi
  obtain ⟨t2,rfl,_⟩:=num j vj hj
  exact lt_int hQ'
 ·obtain ⟨t,rfl,hb⟩:=num _ v hv
  obtain ⟨h1,h2⟩:=argBest_lt (fun i=>ns.getD i 0) (its.toArray.size-1)
  refine ⟨.int _,H,I.kept fun b o eb=>?_,⟨t,rfl⟩,q _ (getD_mem hb) fun a ha=>?_⟩
  ·exact k b o (fun z=>by
    have:b=s.heap.objs.size:=by simpa using z
    exact absurd (Heap.lt_size eb) (by rw [this]; exact Nat.lt_irrefl _)) (Heap.get?_push_of_some _ eb)
  ·obtain ⟨j,hj,rfl⟩:=mem_getD ha
   exact h2 j (by rw [List.size_toArray]; omega)
end
section
variable {prog:Program} {w:World} {A:Around} {E:Value->Shared->Prop} {s:Shared}
end
section
variable {X:Cx}
end
end L2
namespace L2
open PySem PySem.Spec PyProof.Rows
theorem vals_get:∀ {xs:List V} {us:List Value},xs.length=us.length->(∀ (i:Nat) (x:V) (u:Value),xs[i]?=some x->us[i]?=some u->RelV x u)->Vals xs us
 | [],[],_,_=>.nil
 | [],_ :: _,h,_=>by simp at h
 | _ :: _,[],h,_=>by simp at h
 | x :: xs,u :: us,h,g=>.cons (g 0 x u rfl rfl) (vals_get (by simpa using h) fun i y v e1 e2=>g (i+1) y v (by simpa using e1) (by simpa using e2))
theorem bt_list:bootBuiltins "list" = some (.type "list"):=by decide +kernel
section
variable {X:Cx}
end
end L2
namespace L2
open PySem PySem.Spec PyProof.Rows
section
variable {X:Cx}
end
end L2
namespace L2
open PySem PySem.Spec PyProof.Rows
section
variable {X:Cx}
def rCatA (K:PySem.W.Frag):R2:=fun x y H Q=>∃ a b xs ys,x=.ref a∧y=.ref b∧SqT K H a xs∧SqT K H b ys∧ys≠[]∧xs.length+ys.length≤sizeLine ∧
 (xs=[]->Q (.ref b) H)∧(xs≠[]->∀ p,H p=none->Q (.ref p) (upd H p (.tup (xs++ys))))
theorem op_catA:OpR X (binaryOp .Add) (rCatA X.K):=by
 intro pins s σ H x y v u Q I rx ry h
 obtain ⟨a,b,xs,ys,rfl,rfl,ha,hb,hy,hz,q1,q2⟩:=h
 by_cases hx:xs=[]
 ·cases rx
  cases ry
  obtain ⟨its,r1,p1,_⟩:=I.tuple ha
  obtain ⟨its2,r2,p2,_⟩:=I.tuple hb
  have e0:its=[]:=r1.nil_iff.mpr hx
  obtain ⟨⟨cls,dd,data,sl⟩,ho,hc,n,hd⟩:=id p1
  obtain ⟨⟨cls2,dd2,data2,sl2⟩,ho2,hc2,n2,hd2⟩:=id p2
  simp only at hc hd hc2 hd2
  subst hc hd hc2 hd2
  exact concat_meets ⟨_,ho,rfl⟩ ⟨_,ho2,rfl⟩ noFill_tuple_add seq_tuple_add PySem.F.slot_tuple_add PySem.F.entry_tuple_add (PySem.F.args_tuple_add_2 _ _)
   (tuple_addW0 a b its.toArray its2.toArray n n2 dd dd2 sl sl2 (by simp [e0])) ⟨ho,ho2,⟨.ref b,H,I,rfl,q1 hx⟩⟩
 ·exact op_catT pins s σ H _ _ v u Q I rx ry ⟨a,b,xs,ys,rfl,rfl,ha,hb,hx,hz,fun z=>absurd z hy,fun _=>q2 hx⟩
end
end L2
namespace L2
open PySem PySem.Spec PyProof.Rows PySem.W
def BMain (mg:Str->Option Value) (base:Heap):Prop:=∃ (bm:Addr) (o:Obj),mg "__builtins__" = some (.ref bm)∧bm≠builtinsNs∧bm≠mainGlobals∧base.get? bm=some o∧o.cls=.type "module"∧o.dict=some builtinsNs∧o.data=.plain
def LamC (q:Str) (c:Addr):HO:=.ext fun h=>h.CodeRec (.ref c) q
def ButT (T:Addr) (H H':Hp):Prop:=∀ b o,b≠T->H b=some o->H' b=some o
section
variable {P:Program} {w:World} {H:Hp} {h:Heap} {q:Str} {c:Addr}
theorem lamC_ok (r:h.CodeRec (.ref c) q):ObjOk P w H h c (LamC q c):=by
 have r':=r
 obtain ⟨c',o,vs,t,e,ho,hd,hv⟩:=r
 cases e
 refine ⟨r',⟨o,ho⟩,fun h1 h2 x k=>?_⟩
 obtain ⟨c',o,vs,t,e,ho,hd,hv⟩:=x
 cases e
 exact ⟨_,o,vs,t,rfl,k _ ho,hd,hv⟩
theorem lamC_get (ok:HOk P w H h) (e:H c=some (LamC q c)):h.CodeRec (.ref c) q:=(show ObjOk P w H h c (LamC q c) from ok _ _ e).1
end
end L2
namespace L2
open PySem PySem.Spec PyProof.Rows PySem.W
def LamG (q:Str) (params:Arguments) (body:PySem.Expr) (scope:Scope) (cl:List (Str×Addr)) (pm:Value) (f c:Addr):HO:=.ext fun h=>∃ ctv,h.get? f=some (kla_obj "<lambda>" q params body scope cl pm c ctv)
def tabL (L:List (Pos×Addr)):List Value:=L.flatMap fun e=>[rawInt e.1.line,rawInt e.1.col,.ref e.2]
def TabM (H:Hp) (T:Addr) (q:Str):Prop:=∃ L:List (Pos×Addr),H T=some (.tbl (tabL L).toArray)∧∀ e∈L,H e.2=some (LamC q e.2)
theorem tabL_ok:∀ L:List (Pos×Addr),TriplesOk (tabL L)
 | []=>trivial
 | _ :: L=>tabL_ok L
theorem tabL_among {pos:Pos} {v:Value}:∀ {L:List (Pos×Addr)},codeAmong pos (tabL L)=some v->∃ e∈L,v=.ref e.2
 | [],h=>by cases h
 | e :: L,h=>by
  have h':(if (((e.1.line:Nat):Int) == ((pos.line:Nat):Int) && ((e.1.col:Nat):Int) == ((pos.col:Nat):Int))=true then some (Value.ref e.2) else codeAmong pos (tabL L))=some v:=h
  split at h'
  ·exact ⟨e,List.mem_cons_self ..,(Option.some.inj h').symm⟩
  ·obtain ⟨e',h1,h2⟩:=tabL_among h'
   exact ⟨e',List.mem_cons_of_mem _ h1,h2⟩
section
variable {P:Program} {w:World} {H:Hp} {h:Heap} {q:Str} {params:Arguments} {body:PySem.Expr} {scope:Scope} {cl:List (Str×Addr)} {pm:Value} {f c:Addr}
theorem lamG_ok {ctv:Value} (r:h.get? f=some (kla_obj "<lambda>" q params body scope cl pm c ctv)):ObjOk P w H h f (LamG q params body scope cl pm f c) :=
 ⟨⟨ctv,r⟩,⟨_,r⟩,fun _ _ ⟨v,x⟩ k=>⟨v,k _ x⟩⟩
theorem lamG_get (ok:HOk P w H h) (e:H f=some (LamG q params body scope cl pm f c)):∃ ctv,h.get? f=some (kla_obj "<lambda>" q params body scope cl pm c ctv):=(show ObjOk P w H h f (LamG q params body scope cl pm f c) from ok _ _ e).1
end
section
variable {X:Cx} {pins:List (Addr×Obj)} {σ:St} {H:Hp} {s:Shared} {params:Arguments} {body:PySem.Expr} {scope:Scope} {cl:List (Str×Addr)} {pos:Pos} {c T:Addr}
theorem lam_makeC {Q:Value->Shared->Prop} (I:Inv X pins σ H s) (hcode:X.env.code=.ref c) (hC:CodeHd X.base c T) (hB:BMain X.mg X.base) (hcl:closureFor scope X.env=pure cl) (hdef:defaultsOf params X.env=([],[])) (hT:TabM H T (X.env.qual++"<lambda>"))
  (q:∀ (f c':Addr) (H':Hp) (s':Shared),Inv X pins σ H' s'->ButT T H H'->H f=none->TabM H' T (X.env.qual++"<lambda>")->H' c'=some (LamC (X.env.qual++"<lambda>") c')->H' f=some (LamG (X.env.qual++"<lambda>") params body scope cl ((X.mg "__name__").getD .none) f c')->Q (.ref f) s') :
  wpAny (model X.prog X.w) X.A (eval (.Lambda params body scope pos) X.env) Q X.xe s:=by
 have bk:=I.bk
 obtain ⟨bm,ob,b1,b2,b3,b4,b5,b6⟩:=hB
 refine kla_eval hdef ?_
 obtain ⟨L,hT,hL⟩:=hT
 have gT:s.heap.get? T=some (tabObj (tabL L).toArray):=I.hok _ _ hT
 have nT:∀ {b:Addr},H b=none->b≠T:=fun {b} e z=>by rw [z,hT] at e; cases e
 cases hf:codeAmong pos (tabL L).toArray.toList with
 | none =>
  have hgT:mainGlobals≠T:=by
   obtain ⟨o,es,ep,e,_⟩:=I.mod.glob
   exact nT (I.bs _ _ e).2
  refine kla_makeFunction (mg:=X.mg) hcl I.ok.glob (I.mod.glob.keeps bk) hcode (hC.keeps bk) gT (by simpa using tabL_ok L) hf hgT ⟨bm,ob,b1,b2,b3,nT (I.bs _ _ b4).2,bk _ _ b4,b5,b6⟩ fun c' ctv h' tk hx hge hlt hrec htb=>?_
  have hsz:s.heap.objs.size≤h'.objs.size:=Nat.le_of_lt (Nat.lt_of_le_of_lt hge hlt)
  have nc:H c'=none:=I.hok.fresh hge
  have nf:H h'.objs.size=none:=I.hok.fresh hsz
  have nfc:h'.objs.size≠c':=Nat.ne_of_gt hlt
  have lT:T<s.heap.objs.size:=Heap.lt_size gT
  have nfT:h'.objs.size≠T:=Nat.ne_of_gt (Nat.lt_of_lt_of_le lT hsz)
  have ncT:c'≠T:=Nat.ne_of_gt (Nat.lt_of_lt_of_le lT hge)
  generalize hpm:(X.mg "__name__").getD .none=pm at q ⊢
  generalize X.env.qual++"<lambda>" = qn at q hrec hL ⊢
  have gf:(h'.push (kla_obj "<lambda>" qn params body scope cl pm c' ctv)).get? h'.objs.size=some (kla_obj "<lambda>" qn params body scope cl pm c' ctv):=Heap.get?_push_size _ rfl
  have kp:∀ b o,h'.get? b=some o->(h'.push (kla_obj "<lambda>" qn params body scope cl pm c' ctv)).get? b=some o:=fun b o e=>Heap.get?_push_of_some _ e
  generalize h'.push (kla_obj "<lambda>" qn params body scope cl pm c' ctv)=h2 at gf kp ⊢
  generalize h'.objs.size=f at nf nfc nfT gf hsz ⊢
  have et:(tabL L).toArray++#[rawInt pos.line,rawInt pos.col,.ref c']=(tabL (L++[(pos,c')])).toArray:=by
   unfold tabL
   rw [List.flatMap_append]
   simp
  rw [et] at htb
  obtain ⟨H',eH⟩:∃ H',H'=upd (upd (upd H T (.tbl (tabL (L++[(pos,c')])).toArray)) c' (LamC qn c')) f (LamG qn params body scope cl pm f c'):=⟨_,rfl⟩
  have atf:H' f=some (LamG qn params body scope cl pm f c'):=by rw [eH,upd_same]
  have atc:H' c'=some (LamC qn c'):=by rw [eH,upd_ne (Ne.symm nfc),upd_same]
  have atT:H' T=some (.tbl (tabL (L++[(pos,c')])).toArray):=by rw [eH,upd_ne (Ne.symm nfT),upd_ne (Ne.symm ncT),upd_same]
  have atO:∀ b,b≠f->b≠c'->b≠T->H' b=H b:=fun b h1 h2 h3=>by rw [eH,upd_ne h1,upd_ne h2,upd_ne h3]
  clear eH
  have old:ButT T H H':=fun b o h1 e=>by rw [atO b (ne_of_none e nf) (ne_of_none e nc) h1]; exact e
  have gk:∀ b o,b≠T->s.heap.get? b=some o->h2.get? b=some o:=fun b o n e=>kp _ _ (hx b o n e)
  have nTo:∀ {b:Addr} {o:HO},H b=some o->o≠.tbl (tabL L).toArray->b≠T:=fun e n=>ne_of e hT n
  have un:Un X.fs [] H H' s.heap h2:=by
   refine ⟨fun b o e n _ _=>gk b o (nT n) e,fun b o e n _ _=>⟨o.slots,gk b o (nT n) e⟩,fun b o e n _=>?_,fun b o e _=>?_,fun b xs e=>old b _ (nTo e fun z=>by cases z) e,fun b o u e=>old b _ (nTo e fun z=>by cases z) e,fun b ps e=>?_⟩
   ·have lb:=Heap.lt_size e
    rw [atO b (Nat.ne_of_lt (Nat.lt_of_lt_of_le lb hsz)) (Nat.ne_of_lt (Nat.lt_of_lt_of_le lb hge)) (nT n)]
    exact n
   ·by_cases z:b=T
    ·subst z; exact ⟨_,kp _ _ htb⟩
    ·exact ⟨o,gk b o z e⟩
   ·by_cases z:b=T
    ·subst z
     rw [hT] at e
     cases e
     exact ⟨_,by rw [atT,et]⟩
    ·exact ⟨#[],by rw [old b _ z e]; simp⟩
  have hok:HOk X.prog X.w H' h2:=fun b u e=>by
   by_cases z1:b=f
   ·subst z1; rw [atf] at e; cases e; exact lamG_ok gf
   by_cases z2:b=c'
   ·subst z2
    rw [atc] at e
    cases e
    obtain ⟨c9,o,vs,t,e9,ho,hd,hv⟩:=hrec
    cases e9
    exact lamC_ok ⟨_,o,vs,t,rfl,kp _ _ ho,hd,hv⟩
   by_cases z3:b=T
   ·subst z3; rw [atT] at e; cases e; exact kp _ _ htb
   rw [atO b z1 z2 z3] at e
   refine (I.hok b u e).stay (fun c v hc r=>gk c v ?_ r) (fun c r=>old c _ (nTo r fun z=>by cases z) r) fun c xs r=>old c _ (nTo r fun z=>by cases z) r
   rcases hc with rfl | hc
   ·exact z3
   ·exact nTo hc fun z=>by cases z
  refine q f c' H' _ (I.un un hok) old nf ⟨L++[(pos,c')],atT,fun e he=>?_⟩ atc atf
  rcases List.mem_append.mp he with he | he
  ·have:=hL e he
   exact old _ _ (nTo this fun z=>by unfold LamC at z; cases z) this
  ·rw [List.mem_singleton.mp he]
   exact atc
 | some cv =>
  obtain ⟨e,he,rfl⟩:=tabL_among (L:=L) (by simpa using hf)
  have hc':=hL e he
  generalize e.2=c' at hf hc'
  refine kla_makeFunctionHit (mg:=X.mg) hcl I.ok.glob (I.mod.glob.keeps bk) hcode (hC.keeps bk) gT (by simpa using tabL_ok L) hf ⟨bm,ob,b1,b2,b3,nT (I.bs _ _ b4).2,bk _ _ b4,b5,b6⟩ fun ctv h' tk hk hsz=>?_
  have nf:H h'.objs.size=none:=I.hok.fresh hsz
  have I1:=(I.kept (h':=h') (t':=tk) hk).laid (a:=h'.objs.size) (o:=LamG (X.env.qual++"<lambda>") params body scope cl ((X.mg "__name__").getD .none) h'.objs.size c') (t':=tk) (h':=h'.push (kla_obj "<lambda>" (X.env.qual++"<lambda>") params body scope cl ((X.mg "__name__").getD .none) c' ctv)) (fun b o e=>Heap.get?_push_of_some _ e) (Nat.le_refl _) (lamG_ok (ctv:=ctv) (Heap.get?_push_size _ rfl))
  have sm:∀ b o,H b=some o->upd H h'.objs.size (LamG (X.env.qual++"<lambda>") params body scope cl ((X.mg "__name__").getD .none) h'.objs.size c') b=some o:=fun b o e=>by rw [upd_ne (ne_of_none e nf)]; exact e
  exact q _ c' _ _ I1 (fun b o _ e=>sm b o e) nf ⟨L,sm _ _ hT,fun e he=>sm _ _ (hL e he)⟩ (sm _ _ hc') upd_same
end
section
variable {M:Model} {A:Around} {E:Value->Shared->Prop} {s:Shared}
theorem cells_none {names:List (Str×NameKind)} (h:∀ y∈names,y.2≠.cell) (n:Nat) (cl:List (Str×Addr)):cellsFrom n names cl=cl:=by
 induction names with
 | nil=>rfl
 | cons y r ih =>
  obtain ⟨x,k⟩:=y
  have:=h (x,k) (List.mem_cons_self ..)
  unfold cellsFrom
  rw [if_neg (by simpa using this)]
  exact ih fun y hy=>h y (List.mem_cons_of_mem _ hy)
theorem push_none {names:List (Str×NameKind)} (h:∀ y∈names,y.2≠.cell) (hp:Heap):pushCells hp names=hp:=by
 induction names with
 | nil=>rfl
 | cons y r ih =>
  obtain ⟨x,k⟩:=y
  have:=h (x,k) (List.mem_cons_self ..)
  unfold pushCells
  rw [if_neg (by simpa using this)]
  exact ih fun y hy=>h y (List.mem_cons_of_mem _ hy)
theorem wp_lamEnv {scope:Scope} {globals:Addr} {cl:List (Str×Addr)} {qual:Str} {func:Option Addr} {code:Value} {builtins:Addr} {Q:Env->Shared->Prop} (hn:∀ y∈scope.names,y.2≠.cell)
  (hQ:Q (newEnv scope s.heap.objs.size globals cl qual func code none builtins) { s with heap:=s.heap.push { cls:=.type "frame",data:=.dict #[] } }) :
  wpAny M A (newFunctionEnv scope globals cl [] qual func code none builtins) Q E s:=by
 simp only [newFunctionEnv,Option.isSome_none,Bool.false_eq_true,if_false]
 refine wpAny_bind (wpAny_alloc ?_)
 refine wpAny_bind (wpAny_layCells _ (fun name kind cells=>by cases hkc:kind == NameKind.cell <;> simp [hkc]) _ _ _ _ ?_)
 rw [cells_none hn,push_none hn,List.forIn_nil]
 exact wpAny_bind (wpAny_pure (wpAny_pure hQ))
end
def lamEnv (qual:Str) (scope:Scope) (cl:List (Str×Addr)) (L f:Addr) (cd:Value):Env:={ scope:=scope,locals:=L,globals:=mainGlobals,cells:=cl,qual:=qual++".<locals>.",func:=some f,code:=cd,frame:=some L,builtins:=builtinsNs }
def cxLam (CX:CXT) (P:Program) (w:World) (K:PySem.W.Frag) (mg:Str->Option Value) (base:Heap) (N:List Str) (qual:Str) (scope:Scope) (cl:List (Str×Addr)) (f:Addr) (cd:Value) (A:Around) (outer:List Env) (s:Shared) (H:Hp) (E:XK):Cx where
 prog:=P
 w:=w
 K:=K
 mg:=mg
 base:=base
 A:=A.deeper (lamEnv qual scope cl s.heap.objs.size f cd)
 N:=N
 s₀:=s
 H₀:=H
 env:=lamEnv qual scope cl s.heap.objs.size f cd
 outer:=outer
 stack:=lamEnv qual scope cl s.heap.objs.size f cd :: outer
 ex:=[]
 calm:=true
 fn:=fun _=>false
 pn:=[]
 xe:=fun e s'=>wpAny (model P w) (A.deeper (lamEnv qual scope cl s.heap.objs.size f cd)) (leaving (lamEnv qual scope cl s.heap.objs.size f cd) e) (fun _ s''=>CX outer H s E e s'') (fun e' s''=>CX outer H s E e' s'') s'
structure LamCl (scope:Scope) (cl:List (Str×Addr)) (N:List Str) (vs:List V) (s:Shared) (H:Hp):Prop where
 nm:∀ (i:Nat) (x:Str),N[i]?=some x->∃ c u v,scope.names.lookup x=some .free∧cl.lookup x=some c∧s.heap.IsCell c (some u)∧vs[i]?=some v∧RelV v u
 fr:∀ x c,cl.lookup x=some c->H c=none∧∃ v,s.heap.IsCell c v
 inj:∀ x y c,cl.lookup x=some c->cl.lookup y=some c->x=y
 has:∀ x,(scope.names.lookup x=some .cell∨scope.names.lookup x=some .free)->∃ c,cl.lookup x=some c
 len:vs.length=N.length
section
variable {P:Program} {w:World} {K:Frag} {mg:Str->Option Value} {base:Heap}
theorem lam_runC {CX:CXT} {k:Nat} {f c:Addr} {qual:Str} {params:Arguments} {body:PySem.Expr} {scope:Scope} {cl:List (Str×Addr)} {pm:Value} {N:List Str} {A:Around} {outer:List Env} {s:Shared} {H:Hp} {vs:List V} {Q:VK} {E:XK} (hk:scope.kind=.function) (hco:scope.isCoroutine=false) (hgen:scope.isGenerator=false) (hnc:∀ y∈scope.names,y.2≠.cell)
  (hr:Room (k+1) A) (e0:Env0 P w K mg base A outer s H) (C:LamCl scope cl N vs s H)
  (hf:H f=some (LamG qual params body scope cl pm f c)) (hc:H c=some (LamC qual c)) (hb:∀ ctv,bindArgs (kla_fn "<lambda>" qual params body scope cl pm (.ref c) ctv) ⟨[],[]⟩=pure [])
  (hbody:∃ t,PE (cxLam CX P w K mg base N qual scope cl f (.ref c) A outer s H E) body t∧t (vs.map some) H Q):codeAny (model P w) A (.call (.ref f) ⟨[],[]⟩) (CR CX outer P w H s Q E) s:=by
 have lim:s.heap.NoLimit:=e0.mod.nolimit.keeps fun b o e=>(e0.bs b o e).1
 obtain ⟨ctv,gf⟩:=lamG_get e0.hok hf
 refine kla_callFunE hr.depth gf rfl hco hgen rfl (lamC_get e0.hok hc) (wpAny_of_eq (hb ctv) ?_)
 refine wp_lamEnv hnc ?_
 have kp:∀ b o,s.heap.get? b=some o->(s.heap.push { cls:=.type "frame",data:=.dict #[] }).get? b=some o:=fun b o e=>Heap.get?_push_of_some _ e
 refine ⟨lim.keeps kp,kla_codeExpr ?_⟩
 obtain ⟨t,ht,hq⟩:=hbody
 have noA:∀ b:Addr,b∉(cxLam CX P w K mg base N qual scope cl f (.ref c) A outer s H E).ex:=fun b z=>absurd (show b∈([]:List Addr) from z) (by simp)
 have I:Inv (cxLam CX P w K mg base N qual scope cl f (.ref c) A outer s H E) [] (vs.map some) H { s with heap:=s.heap.push { cls:=.type "frame",data:=.dict #[] } }:=by
  refine ⟨⟨e0.mod,hk,rfl,rfl,Nat.le_refl _,C.inj,C.has,fun y c z _=>?_,fun _=>hr.hd,Around.frames_deeper e0.frames,.inr ⟨rfl,rfl⟩,fun b z=>absurd z (noA b),e0.bs,e0.bsz,fun b _ _=>noA b,fun b z=>absurd z (noA b),e0.funs,e0.frf⟩,
   rfl,e0.bare,Un.kept kp,⟨_,Heap.Ns.new s.heap (.type "frame"),fun i y v h1 h2 h3=>?_⟩,fun y c h=>?_,e0.hok.fresh (Nat.le_refl _),fun y c h=>(C.fr y c h).1,fun p hp=>absurd (show p∈([]:List (Addr×Obj)) from hp) (by simp),e0.hok.kept kp,?_⟩
  ·have z':false=true:=z
   cases z'
  ·obtain ⟨c,u,v',k1,k2,k3,k4,k5⟩:=C.nm i y h1
   rw [List.getElem?_map,k4] at h2
   cases h2
   exact ⟨u,k5,.inr ⟨.inr k1,c,k2,k3.keeps kp⟩⟩
  ·obtain ⟨v,hv⟩:=(C.fr y c h).2
   exact ⟨v,hv.keeps kp⟩
  ·rw [List.length_map]
   exact C.len
 refine wpAny_mono (ht [] _ (vs.map some) H _ I hq) (fun u s' hs=>?_) fun e s' hs=>hs
 obtain ⟨v,H',J,rv,q⟩:=hs
 exact ⟨v,H',J.os,J.bare,J.base,J.hok,rv,q⟩
end
end L2
namespace L2
open PySem PySem.Spec PyProof.Rows PySem.W
section
variable {P:Program} {w:World} {K:PySem.W.Frag} {mg:Str->Option Value} {base:Heap} {N:List Str} {qual:Str} {scope:Scope} {cl:List (Str×Addr)} {f:Addr} {cd:Value} {A:Around} {outer:List Env} {s₀:Shared} {H₀:Hp} {E:XK}
theorem pass_lam:Passes (CXr P w) (cxLam (CXr P w) P w K mg base N qual scope cl f cd A outer s₀ H₀ E) E:=by
 intro pins σ H s e s' I h
 obtain ⟨a,t,cls,od,B,H',rfl,os,bare,u,kB,tB,hok,fl,na,nH,hE⟩:=h
 have sub:∀ b,b∈frs outer->b∈frs (lamEnv qual scope cl s₀.heap.objs.size f cd :: outer):=fun b hb=>by
  show b∈List.filterMap _ (_ :: outer)
  rw [List.filterMap_cons]
  exact List.mem_cons_of_mem _ hb
 have noL:∀ b o,s₀.heap.get? b=some o->b∉frs outer->b∉frs (lamEnv qual scope cl s₀.heap.objs.size f cd :: outer):=fun b o q hb z=>by
  rcases List.mem_cons.mp (I.stkSub b z) with z | z
  ·exact absurd (Heap.lt_size q) (by rw [z]; exact Nat.lt_irrefl _)
  ·exact hb z
 have nex:∀ b:Addr,b∉([]:List Addr):=fun b z=>by simp at z
 have kB':∀ b o,s₀.heap.get? b=some o->H₀ b=none->b∉frs outer->B.get? b=some o:=fun b o q n hb =>
  kB b o (I.base.keep b o q n hb (nex b)) (I.base.free b o q n (nex b)) (noL b o q hb)
 have tB':∀ b o,s₀.heap.get? b=some o->b∉frs outer->∃ o',B.get? b=some o':=fun b o q hb=>by
  obtain ⟨o1,q1⟩:=I.base.there b o q (nex b)
  exact tB b o1 q1 (noL b o q hb)
 have na':s₀.heap.get? a=none:=by
  cases q:s₀.heap.get? a with
  | none=>rfl
  | some o =>
   obtain ⟨o1,q1⟩:=I.base.there a o q (nex a)
   rw [na] at q1
   cases q1
 refine dk_any (kpd_leaving _ _) (Q':=fun _ s2=>∃ h',s2={ s' with heap:=h' }∧Heap.FlyingW B outer a cls (.ref t) h'∧s'.heap.UpToSlots h') (wpAny_leaves_onW I.ok.frames rfl fl.1 fun h' fl' up=>⟨h',rfl,fl',up⟩) ?_
 rintro _ s2 ⟨h',rfl,fl',up⟩ dk
 refine ⟨a,t,cls,od,B,H',rfl,os.trans I.os,bare,?_,kB',tB',hok,⟨fl',dk.dict fl.2⟩,na',nH,hE⟩
 have slot':∀ b o,s₀.heap.get? b=some o->H₀ b=none->b∈frs outer->∃ sl,h'.get? b=some { o with slots:=sl }:=fun b o q n hb=>by
  obtain ⟨sl,q1⟩:=I.base.slot b o q n hb (nex b)
  obtain ⟨sl1,q2⟩:=u.slot b _ q1 (I.base.free b o q n (nex b)) (sub b hb) (nex b)
  obtain ⟨_,o2,q3,nf⟩:=I.funs.mem hb
  rw [q1] at q3
  cases q3
  obtain ⟨sl2,q4⟩:=up b _ q2 nf
  exact ⟨sl2,q4⟩
 refine ⟨fun b o q n hb _=>fl'.1 b o (kB' b o q n hb),fun b o q n hb _=>slot' b o q n hb,fun b o q n _=>?_,fun b o q _=>?_,fun b xs q=>u.tups b xs (I.base.tups b xs q),fun b o v q=>u.frzs b o v (I.base.frzs b o v q),fun b ps q=>?_⟩
 ·obtain ⟨o1,q1⟩:=I.base.there b o q (nex b)
  exact u.free b o1 q1 (I.base.free b o q n (nex b)) (nex b)
 ·by_cases hb:b∈frs outer
  ·obtain ⟨sl,q1⟩:=slot' b o q (I.ok.frf b hb) hb
   exact ⟨_,q1⟩
  ·obtain ⟨o1,q1⟩:=tB' b o q hb
   exact ⟨o1,fl'.1 b o1 q1⟩
 ·obtain ⟨m1,q1⟩:=I.base.tbls b ps q
  obtain ⟨m2,q2⟩:=u.tbls b _ q1
  exact ⟨m1++m2,by rw [q2,Array.append_assoc]⟩
end
def StaysU (s₀:Shared) (H₀:Hp) (fs:List Addr) (s:Shared) (H:Hp):Prop:=∀ b o,s₀.heap.get? b=some o->H₀ b=none->b∉fs->s.heap.get? b=some o∧H b=none
structure LamOk (P:Program) (w:World) (K:PySem.W.Frag) (mg:Str->Option Value) (base:Heap) (k:Nat) (s₀:Shared) (H₀:Hp) (fs:List Addr) (f:Addr) (sp:Hp->VK->XK->Prop):Prop where
 fn:∀ H Q E,sp H Q E->∃ q params body scope cl pm c,H f=some (LamG q params body scope cl pm f c)
 mono:∀ (H:Hp) (Q Q':VK) (E E':XK),(∀ v H,Q v H->Q' v H)->(∀ c o H,E c o H->E' c o H)->sp H Q E->sp H Q' E'
 run:∀ (A:Around) (outer:List Env) (s:Shared) (H:Hp) (Q:VK) (E:XK),Room k A->Env0 P w K mg base A outer s H->StaysU s₀ H₀ fs s H->sp H Q E →
  codeAny (model P w) A (.call (.ref f) ⟨[],[]⟩) (CR (CXr P w) outer P w H s Q E) s
section
variable {X:Cx}
def tAsk (f:Addr) (sp:Hp->VK->XK->Prop) (tv:TE):TX:=fun σ H Q E=>tv σ H fun v H1=>v=.ref f∧sp H1 Q E
theorem px_ask {k:Nat} {f:Addr} {sp:Hp->VK->XK->Prop} {x:Str} {p pos:Pos} {tv:TE} (L:LamOk X.prog X.w X.K X.mg X.base k X.s₀ X.H₀ X.fs f sp) (hx:X.ex=[]) (hr:Room k X.A) (hv:PE X.nox (.Name x p) tv):PX X (.Call (.Name x p) [] [] pos) (tAsk f sp tv):=by
 intro pins s σ H Q E W I h hW
 refine wpAny_Call_Name_kw (wpAny_mono (hv pins s σ H _ (I.wish _) h) (fun u s1 ⟨v,H1,I1',r1,ev,q1⟩=>?_) fun _ _ z=>False.elim z)
 have I1:Inv X pins σ H1 s1:=I1'.unwish
 subst ev
 obtain rfl:u=Value.ref f:=r1
 obtain ⟨q,params,body,scope,cl,pm,c,hf⟩:=L.fn _ _ _ q1
 obtain ⟨ctv,gf⟩:=lamG_get I1.hok hf
 have nx:∀ b,b∉X.ex:=fun b=>by rw [hx]; simp
 refine callWith_F0 ⟨_,_,_,_,gf⟩ (wpAny_call (codeAny_mono (L.run X.A X.stack s1 H1 Q E hr I1.env0 (fun b o e n nf=>⟨I1.base.keep b o e n nf (nx b),I1.base.free b o e n (nx b)⟩) q1) fun r s' hq=>?_))
 cases r with
 | error e =>
  obtain ⟨a,cls,od,H',e1,hE,c⟩:=fly_inv I1 hq
  subst e1
  exact hW a cls od H' s' c hE
 | ok fl =>
  cases fl with
  | ret u=>exact I1.after hq
  | next=>exact False.elim hq
  | brk=>exact False.elim hq
  | cont=>exact False.elim hq
end
theorem fn_at {CX:CXT} {P:Program} {w:World} {K:PySem.W.Frag} {mg:Str->Option Value} {base:Heap} {k:Nat} {f:Addr} {name qual:Str} {params:Arguments} {body:List Stmt} {scope:Scope} {dV kV doc pm cdv ct oc:Value} {an od:Option Addr}
  {osl:Array (Option Value)} {N ps:List Str} (lk:K.lookup f=some ⟨oc,od,.func (PySem.W.fnOf name qual params body scope dV kV doc pm an cdv ct),osl⟩) (hcd:PySem.W.codeIn K cdv qual=true) (S:FnScope N ps scope)
  {A:Around} {outer:List Env} {s:Shared} {H:Hp} {args:Args} {us:List Value} {vs:List V} {Q:VK} {E:XK} (hl:vs.length=ps.length) (hr:Room (k+1) A) (e0:Env0 P w K mg base A outer s H) (hb:BindsTo s (PySem.W.fnOf name qual params body scope dV kV doc pm an cdv ct) args (ps.zip us)) (r:Vals vs us)
  (hbody:Room k (A.deeper (envOfC qual scope s.heap.objs.size f cdv))->∃ t,PSs (cxOf CX P w K mg base N qual scope f cdv A outer s H E) body t∧t { nx:=fun _ H'=>Q .non H',rt:=Q } (start N vs) H) :
  codeAny (model P w) A (.call (.ref f) args) (CR CX outer P w H s Q E) s:=by
 have KX:K.In s.heap:=e0.mod.kin.keeps fun b o e=>(e0.bs b o e).1
 have lim:s.heap.NoLimit:=e0.mod.nolimit.keeps fun b o e=>(e0.bs b o e).1
 have hkind:∀ y∈ps.zip us,scope.names.lookup y.1=some .local∨(scope.names.lookup y.1=some .cell∧((cellsFrom (s.heap.objs.size+1) scope.names []).lookup y.1).isSome=true):=fun ⟨n,v⟩ hy=>by
  rcases S.par n (List.of_mem_zip hy).1 with q | q
  ·exact .inl q
  ·exact .inr ⟨q,PySem.W.cellsFrom_some _ _ _ (.inl q)⟩
 refine codeAny_call_function hr.depth (KX _ _ lk) rfl S.co S.gen rfl (PySem.W.codeRec_of KX hcd) (hb _ _ _ _ ?_)
 refine wpAny_newFunctionEnv_cells S.kind hkind fun env he s1 x=>?_
 subst he
 refine ⟨lim.keeps x.toInCall.keep,codeAny_func ?_⟩
 obtain ⟨t,ht,hq⟩:=hbody (hr.deeper _)
 have I:Inv (cxOf CX P w K mg base N qual scope f cdv A outer s H E) [] (start N vs) H s1:=inv_start S hr.hd e0 hl r x
 refine wpAny_mono (ht [] s1 (start N vs) H _ I hq) (fun fl s' hs=>?_) fun e s' hs=>hs
 cases fl with
 | ret u =>
  obtain ⟨v,σ',H',J,rv,q⟩:=hs
  exact ⟨v,H',J.os,J.bare,J.base,J.hok,rv,q⟩
 | next =>
  obtain ⟨σ',H',J,q⟩:=hs
  exact ⟨V.non,H',J.os,J.bare,J.base,J.hok,rfl,q⟩
 | brk =>
  obtain ⟨_,_,_,q⟩:=hs
  exact False.elim q
 | cont =>
  obtain ⟨_,_,_,q⟩:=hs
  exact False.elim q
structure AskOk (P:Program) (w:World) (K:PySem.W.Frag) (mg:Str->Option Value) (base:Heap) (j k:Nat) (g:Addr) (gd:FuncData) (ps:List Str) (ss:(Hp->VK->XK->Prop)->Addr->Hp->VK->Prop):Prop where
 run:∀ (A:Around) (outer:List Env) (s:Shared) (H:Hp) (f:Addr) (sp:Hp->VK->XK->Prop) (Q:VK),Room k A->Env0 P w K mg base A outer s H->LamOk P w K mg base j s H (frs outer) f sp->ss sp f H Q->BindsTo s gd ⟨[.ref f],[]⟩ (ps.zip [.ref f]) →
  codeAny (model P w) A (.call (.ref g) ⟨[.ref f],[]⟩) (CR CX0 outer P w H s Q E0) s
section
variable {X:Cx} {params:Arguments} {body:PySem.Expr} {scope:Scope} {cl:List (Str×Addr)} {lpos:Pos} {c T:Addr}
structure LamSc (X:Cx) (scope:Scope) (cl:List (Str×Addr)) (N:List Str) (js:List Nat):Prop where
 clos:closureFor scope X.env=pure cl
 kind:scope.kind=.function
 co:scope.isCoroutine=false
 gen:scope.isGenerator=false
 nc:∀ y∈scope.names,y.2≠.cell
 nm:∀ (i:Nat) (x:Str),N[i]?=some x->∃ j c,js[i]?=some j∧X.N[j]?=some x∧scope.names.lookup x=some .free∧cl.lookup x=some c∧X.env.cells.lookup x=some c∧X.env.scope.names.lookup x=some .cell
 back:∀ x c,cl.lookup x=some c->X.env.cells.lookup x=some c
 has:∀ x,(scope.names.lookup x=some .cell∨scope.names.lookup x=some .free)->∃ c,cl.lookup x=some c
 own:∀ x,X.fn x=true
def tSaid (T:Addr) (q:Str) (params:Arguments) (body:PySem.Expr) (scope:Scope) (cl:List (Str×Addr)) (pm:Value) (js:List Nat) (rd:List V->Hp->VK->XK->Prop) (ss:(Hp->VK->XK->Prop)->Addr->Hp->VK->Prop):TE:=fun σ H Q=>TabM H T q ∧
 ∃ vs:List V,vs.length=js.length∧(∀ (i j:Nat),js[i]?=some j->∃ v,vs[i]?=some v∧σ[j]?=some (some v)) ∧
 ∀ (f c:Addr) (H2:Hp),ButT T H H2->H f=none->TabM H2 T q->H2 c=some (LamC q c)->H2 f=some (LamG q params body scope cl pm f c)->ss (fun H Q E=>H f=some (LamG q params body scope cl pm f c)∧H c=some (LamC q c)∧rd vs H Q E) f H2 Q
theorem pe_said {j k:Nat} {g:Addr} {gd:FuncData} {ps:List Str} {x:Str} {N:List Str} {js:List Nat} {rd:List V->Hp->VK->XK->Prop} {ss:(Hp->VK->XK->Prop)->Addr->Hp->VK->Prop} {p pos:Pos} (G:AskOk X.prog X.w X.K X.mg X.base (j+1) k g gd ps ss) (hr:Room k X.A) (hg:Gl X x) (hm:X.mg x=some (.ref g)) (hk:PySem.W.keepIn X.K (.ref g)=true) (hb:Binds X.K gd ps []) (hps:ps.length=1)
  (S:LamSc X scope cl N js) (hjs:js.length=N.length) (hcode:X.env.code=.ref c) (hC:CodeHd X.base c T) (hB:BMain X.mg X.base) (hdef:defaultsOf params X.env=([],[]))
  (hba:∀ (qual:Str) (pm:Value) (c:Addr) (ctv:Value),bindArgs (kla_fn "<lambda>" qual params body scope cl pm (.ref c) ctv) ⟨[],[]⟩=pure [])
  (hbody:∀ (f c:Addr) (A:Around) (outer:List Env) (s:Shared) (vs:List V) (H:Hp) (Q:VK) (E:XK),Room j (A.deeper (lamEnv (X.env.qual++"<lambda>") scope cl s.heap.objs.size f (.ref c)))->rd vs H Q E->∃ t,PE (cxLam (CXr X.prog X.w) X.prog X.w X.K X.mg X.base N (X.env.qual++"<lambda>") scope cl f (.ref c) A outer s H E) body t∧t (vs.map some) H Q)
  (hmo:∀ (vs:List V) (H:Hp) (Q Q':VK) (E E':XK),(∀ v H,Q v H->Q' v H)->(∀ c o H,E c o H->E' c o H)->rd vs H Q E->rd vs H Q' E')
  (hdb:(x == ("__debug__":Str))=false:=by decide) (he:starEach [.Lambda params body scope lpos] X.env=[(false,eval (.Lambda params body scope lpos) X.env)]:=by rfl) :
  PE X (.Call (.Name x p) [.Lambda params body scope lpos] [] pos) (tSaid T (X.env.qual++"<lambda>") params body scope cl ((X.mg "__name__").getD .none) js rd ss):=by
 intro pins s σ H Q I h
 obtain ⟨hT,vs,hvl,hvs,hq⟩:=h
 refine wpAny_Call_Name_kw (ld_glob I hg hm ?_ hdb)
 refine PySem.W.callWith_K (h₀:=X.base) I.ok.mod.kin hk ?_ he (by rfl)
 rw [he]
 refine Calls.spliced_cons (lam_makeC I hcode hC hB S.clos hdef hT fun f c' H1 s1 I1 bt nf tb hc' hf'=>Calls.spliced_nil ⟨I1.kIn,?_⟩)
 have q1:=hq f c' H1 bt nf tb hc' hf'
 have cellOf:∀ (i:Nat) (x:Str),N[i]?=some x->∃ c u v,scope.names.lookup x=some .free∧cl.lookup x=some c∧s1.heap.IsCell c (some u)∧vs[i]?=some v∧RelV v u:=fun i x hi=>by
  obtain ⟨jj,cc,h1,h2,h3,h4,h5,h6⟩:=S.nm i x hi
  obtain ⟨v,h7,h8⟩:=hvs i jj h1
  obtain ⟨m,_,lc⟩:=I1.loc
  obtain ⟨u,ru,lk⟩:=lc jj x v h2 h8 (.inr (.inl h6))
  rcases lk with ⟨z,_⟩ | ⟨_,c2,z1,z2⟩
  ·have z':X.env.scope.names.lookup x=some .local:=z
   rw [h6] at z'
   cases z'
  ·rw [h5] at z1
   cases z1
   exact ⟨cc,u,v,h3,h4,z2,h7,ru⟩
 have frC:∀ x cc,cl.lookup x=some cc->H1 cc=none∧(∃ v,s1.heap.IsCell cc v)∧cc∉frs X.stack:=fun x cc hx=>by
  have hx':=S.back x cc hx
  refine ⟨I1.freeC x cc hx',I1.cell x cc hx',fun z=>?_⟩
  rcases List.mem_cons.mp (I1.stkSub cc z) with z | z
  ·obtain ⟨v,o,ho,hd⟩:=I1.cell x cc hx'
   obtain ⟨m,⟨o2,es,ep,e2,hd2⟩,_⟩:=I1.loc
   rw [←z,ho] at e2
   cases e2
   rw [hd] at hd2
   cases hd2.1
  ·obtain ⟨_,o,ho,_⟩:=I1.ok.funs.mem z
   exact absurd (Heap.lt_size ho) (Nat.not_lt.mpr (I1.ok.cab x cc (S.own x) hx'))
 have LO:LamOk X.prog X.w X.K X.mg X.base (j+1) s1 H1 (frs X.stack) f (fun H Q E=>H f=some (LamG (X.env.qual++"<lambda>") params body scope cl ((X.mg "__name__").getD .none) f c')∧H c'=some (LamC (X.env.qual++"<lambda>") c')∧rd vs H Q E):=by
  refine ⟨fun H Q E ⟨z,_⟩=>⟨_,_,_,_,_,_,_,z⟩,fun H Q Q' E E' a1 a2 ⟨z1,z2,z3⟩=>⟨z1,z2,hmo vs H Q Q' E E' a1 a2 z3⟩,fun A outer s2 H2 Q2 E2 hr2 e0 st ⟨z1,z2,z3⟩=>?_⟩
  have keepC:∀ {cc:Addr} {v:Option Value} {x:Str},cl.lookup x=some cc->s1.heap.IsCell cc v->s2.heap.IsCell cc v∧H2 cc=none:=fun {cc v x} hx hv=>by
   obtain ⟨o,ho,hd⟩:=hv
   obtain ⟨g1,_,g3⟩:=frC x cc hx
   obtain ⟨k1,k2⟩:=st cc o ho g1 g3
   exact ⟨⟨o,k1,hd⟩,k2⟩
  refine lam_runC (k:=j) (vs:=vs) (N:=N) S.kind S.co S.gen S.nc hr2 e0 ⟨fun i x hi=>?_,fun x cc hx=>?_,fun x y cc h1 h2=>I1.ok.inj x y cc (S.back x cc h1) (S.back y cc h2),S.has,by rw [hvl,hjs]⟩ z1 z2 (fun ctv=>hba _ _ _ ctv) (hbody f c' A outer s2 vs H2 Q2 E2 (hr2.deeper _) z3)
  ·obtain ⟨cc,u,v,a1,a2,a3,a4,a5⟩:=cellOf i x hi
   exact ⟨cc,u,v,a1,a2,(keepC a2 a3).1,a4,a5⟩
  ·obtain ⟨_,⟨v,hv⟩,_⟩:=frC x cc hx
   obtain ⟨b1,b2⟩:=keepC hx hv
   exact ⟨b2,v,b1⟩
 have hb':=hb s1 [.ref f] I1.kIn (by rw [List.append_nil]; exact hps.symm)
 rw [List.append_nil] at hb'
 refine wpAny_call (codeAny_mono (G.run X.A X.stack s1 H1 f _ Q hr I1.env0 LO q1 hb') fun r s' hq=>?_)
 cases r with
 | error e=>exact False.elim hq
 | ok fl =>
  cases fl with
  | ret u=>exact I1.after hq
  | next=>exact False.elim hq
  | brk=>exact False.elim hq
  | cont=>exact False.elim hq
end
end L2
namespace L2
open PySem PySem.Spec PyProof.Rows PySem.W
theorem law_callT {P:Program} {w:World} {K:PySem.W.Frag} {mg mb:Str->Option Value} {k:Nat} {fa a c T:Addr} {fd:FuncData} {x:Str} {sp:Sp} {s₁:Shared} {vs:List Value} {ns:List Int}
  (KX:K.In s₁.heap) (hns:s₁.heap.Ns mainGlobals mg) (hb:s₁.heap.Ns builtinsNs mb) (hbb:∀ x:Str,x≠"__name__"->mb x=bootBuiltins x) (hlim:s₁.heap.NoLimit) (hg:s₁.gens = #[])
  (gT:s₁.heap.get? T=some (tabObj #[])) (hKT:K.lookup T=none) (hC:CodeHd s₁.heap c T) (hbm:BMain mg s₁.heap)
  (ha:s₁.heap.get? a=some { cls:=.type "list",data:=.seq vs.toArray }) (hi:IntsAre vs ns) (hl:ns.length≤sizeLine) (hr:Room k callerA)
  (F:∀ base:Heap,K.In base->base.Ns mainGlobals mg->BMain mg base->FnOk P w K mg base CX0 k fa fd [x] sp) (hbind:∀ (s:Shared) (u:Value),BindsTo s fd ⟨[u],[]⟩ [(x,u)])
  (hsp:∀ H:Hp,H T=some (.tbl #[])->SqL K H a (ns.map V.int)->sp [.ref a] H (fun v _=>v=.bl true) fun _ _ _=>False) :
  codeAny (model P w) callerA (.call (.ref fa) ⟨[.ref a],[]⟩) (fun r s'=>r=.ok (.ret (.bool true))∧OldK s₁.heap s'.heap∧s'.os=s₁.os∧AllBare s'.gens) s₁:=by
 have rv:=vals_ints hi
 have lenV:=hi.length
 have naT:a≠T:=fun z=>by rw [z,gT] at ha; cases ha
 have core:∀ H:Hp,H T=some (.tbl #[])->(∀ b,H b=none∨(∃ o xs,H b=some (.frz o (.lst xs)))∨b=T)->SqL K H a (ns.map V.int)->HOk P w H s₁.heap->(∀ b,H b≠none->b=a∨b=T)->(H a≠none->K.lookup a=none) →
   codeAny (model P w) callerA (.call (.ref fa) ⟨[.ref a],[]⟩) (fun r s'=>r=.ok (.ret (.bool true))∧OldK s₁.heap s'.heap∧s'.os=s₁.os∧AllBare s'.gens) s₁:=by
  intro H hT hO hS hok hA hK
  have base_of:∀ {b:Addr} {o:Obj},s₁.heap.get? b=some o->H b=none->(hidT s₁.heap H).get? b=some o:=fun e n=>hidT_get e n
  have noA:∀ {b:Addr} {o:Obj},s₁.heap.get? b=some o->o≠{ cls:=.type "list",data:=.seq vs.toArray }->o≠tabObj #[]->H b=none:=fun {b o} e d1 d2=>by
   cases q:H b with
   | none=>rfl
   | some u =>
    rcases hA b (by rw [q]; simp) with e' | e'
    ·subst e'; rw [ha] at e; exact absurd (Option.some.inj e).symm d1
    ·subst e'; rw [gT] at e; exact absurd (Option.some.inj e).symm d2
  have nsK:∀ {b:Addr} {m:Str->Option Value},s₁.heap.Ns b m->(hidT s₁.heap H).Ns b m:=fun {b m} ⟨o,es,ep,e,d,r⟩=>⟨o,es,ep,base_of e (noA e (fun z=>by rw [z] at d; cases d) (fun z=>by rw [z] at d; cases d)),d,r⟩
  have hKb:K.In (hidT s₁.heap H):=fun b o e=>base_of (KX b o e) (by
   cases q:H b with
   | none=>rfl
   | some u =>
    rcases hA b (by rw [q]; simp) with e' | e'
    ·subst e'; rw [hK (by rw [q]; simp)] at e; cases e
    ·subst e'; rw [hKT] at e; cases e)
  have hM:Mod K mg (hidT s₁.heap H):=⟨hKb,nsK hns,⟨mb,nsK hb,hbb⟩,let ⟨mc,h1,h2⟩:=hlim; ⟨mc,nsK h1,h2⟩⟩
  have hbm':BMain mg (hidT s₁.heap H):=by
   obtain ⟨bm,o,b1,b2,b3,b4,b5,b6⟩:=hbm
   exact ⟨bm,o,b1,b2,b3,base_of b4 (noA b4 (fun z=>by rw [z] at b6; exact nomatch b6.2) (fun z=>by rw [z] at b6; exact nomatch b6.2)),b5,b6⟩
  have e0:Env0 P w K mg (hidT s₁.heap H) callerA [] s₁ H:=⟨rfl,hM,fun b o e=>of_hidT e,Nat.le_of_eq (hidT_size _ _),trivial,fun b hb=>absurd (show b∈([]:List Addr) from hb) (by simp),hok,.of_eq hg⟩
  refine codeAny_mono ((F _ hKb (nsK hns) hbm').run callerA [] s₁ H ⟨[.ref a],[]⟩ [.ref a] [.ref a] _ _ hr e0 (hbind s₁ (.ref a)) (.cons rfl .nil) (hsp H hT hS)) fun r s' h=>?_
  cases r with
  | error e=>exact False.elim h
  | ok fl =>
   cases fl with
   | next=>exact False.elim h
   | brk=>exact False.elim h
   | cont=>exact False.elim h
   | ret u =>
    obtain ⟨v,H',os,bare,un,hok',r',q⟩:=h
    have q':v=.bl true:=q
    subst q'
    obtain rfl:u=Value.bool true:=r'
    have key:∀ b o,s₁.heap.get? b=some o->s'.heap.get? b=some o∨(b=T∧o=tabObj #[]∧∃ more,s'.heap.get? T=some (tabObj (#[]++more))):=fun b o e=>by
     cases q:H b with
     | none=>exact .inl (un.keep b o e q (by intro z; exact absurd (show b∈([]:List Addr) from z) (by simp)) (by simp))
     | some u =>
      rcases hO b with z | ⟨ob,xs,z⟩ | z
      ·rw [q] at z; cases z
      ·have z2:=un.frzs b ob _ z
       obtain ⟨e1,_⟩:=hok b _ z
       obtain ⟨e2,_⟩:=hok' b _ z2
       rw [e] at e1; cases e1
       exact .inl e2
      ·subst z
       rw [gT] at e
       obtain ⟨more,z2⟩:=un.tbls b _ hT
       exact .inr ⟨rfl,(Option.some.inj e).symm,more,hok' b _ z2⟩
    refine ⟨rfl,⟨fun b o e=>?_,fun b o e=>?_⟩,os,bare⟩
    ·rcases key b o e with z | ⟨rfl,rfl,more,z⟩
     ·exact .inl z
     ·exact .inr (.inl ⟨(hC.tab gT).isCodeTable,rfl,#[],more,rfl,z⟩)
    ·rcases key b o e with z | ⟨rfl,rfl,more,z⟩
     ·exact ⟨_,z⟩
     ·exact ⟨_,z⟩
 cases hk:K.lookup a with
 | some o =>
  have e:=KX a o hk
  rw [ha] at e
  cases e
  refine core (upd (fun _=>none) T (.tbl #[])) upd_same (fun b=>?_) (.inr ⟨_,vs.toArray,_,hk,rfl,rfl,rfl,by rw [List.size_toArray,lenV]; exact hl,by simpa using rv⟩) (fun b u z=>?_) (fun b z=>?_) fun z=>absurd (upd_ne naT) z
  ·by_cases hb:b=T
   ·exact .inr (.inr hb)
   ·exact .inl (upd_ne hb)
  ·by_cases hb:b=T
   ·subst hb; rw [upd_same] at z; cases z; exact gT
   ·rw [upd_ne hb] at z; cases z
  ·by_cases hb:b=T
   ·exact .inr hb
   ·exact absurd (upd_ne hb) z
 | none =>
  refine core (upd (upd (fun _=>none) a (.frz { cls:=.type "list",data:=.seq vs.toArray } (.lst (ns.map V.int)))) T (.tbl #[])) upd_same (fun b=>?_) (.inl (.inr ⟨{ cls:=.type "list",data:=.seq vs.toArray },by rw [upd_ne naT,upd_same]⟩)) (fun b u z=>?_) (fun b z=>?_) fun _=>hk
  ·by_cases hb:b=T
   ·exact .inr (.inr hb)
   ·by_cases hb2:b=a
    ·subst hb2; exact .inr (.inl ⟨_,_,by rw [upd_ne hb,upd_same]⟩)
    ·exact .inl (by rw [upd_ne hb,upd_ne hb2])
  ·by_cases hb:b=T
   ·subst hb; rw [upd_same] at z; cases z; exact gT
   ·rw [upd_ne hb] at z
    by_cases hb2:b=a
    ·subst hb2; rw [upd_same] at z; cases z
     exact ⟨ha,by rw [List.length_map]; exact hl,vs,_,rv,ha⟩
    ·rw [upd_ne hb2] at z; cases z
  ·by_cases hb:b=T
   ·exact .inr hb
   ·by_cases hb2:b=a
    ·exact .inl hb2
    ·rw [upd_ne hb,upd_ne hb2] at z; exact absurd rfl z
theorem walk_ofT {l:PySem.W.OpenLaw} {n k:Nat} {q:Program} {loose:List Str} {XP:(Str->Option Value)->Heap->Prop} {YP:World->Heap->Prop} {d:DefRec} {K:Params->PySem.W.Frag} {sp:World->Sp} {x:Str} {T:Addr}
  (hn:l.most=some n) (hn2:n≤sizeLine) (hdf:d.params.defaults=[]) (hr:Room k callerA)
  (hY:∀ (w:World) (h:Heap),YP w h->(K w.params).In h∧h.get? T=some (tabObj #[]))
  (F:∀ (w:World) (mg:Str->Option Value) (fa:Addr) (h:Heap),(K w.params).In h->h.Ns mainGlobals mg->mg d.name=some (.ref fa) →
   ∃ fd:FuncData,(∀ (s:Shared) (u:Value),BindsTo s fd ⟨[u],[]⟩ [(x,u)])∧(K w.params).lookup T=none∧(∃ c,codeHdIn (K w.params) c T=true) ∧
    ∀ base:Heap,(K w.params).In base->base.Ns mainGlobals mg->BMain mg base->FnOk l.prog w (K w.params) mg base CX0 k fa fd [x] (sp w))
  (hsp:∀ (w:World) (H:Hp) (a:Addr) (ns:List Int),ns.length≤n->H T=some (.tbl #[])->SqL (K w.params) H a (ns.map V.int)->sp w [.ref a] H (fun v _=>v=.bl true) fun _ _ _=>False) :
  PySem.W.WalkO q loose XP YP l.row.toRowW d [] (fun f vs=>PySem.call f vs):=by
 refine Att.attach_call hn hdf fun w s₀ s₁ mg mb fa o pm cd doc a vs ns G Y ho hd hcd hmg hobj hints hlen hg=>?_
 obtain ⟨KX,gT⟩:=hY w _ Y
 obtain ⟨fd,hb,hKT,⟨c,hC⟩,hF⟩:=F w mg fa _ KX G.T.g hmg
 have bm:BMain mg s₁.heap:=by
  obtain ⟨bm,ob,b1,b2,b3,b4,b5,b6⟩:=G.T.bmain
  refine ⟨bm,ob,b1,b2,fun z=>?_,b3,b4,b5,b6⟩
  obtain ⟨o,es,ep,e,hd,_⟩:=G.T.g
  rw [z,e] at b3; cases b3; rw [hd] at b6; cases b6
 exact law_callT KX G.T.g G.T.b G.T.builtins G.T.nolimit hg gT hKT (codeHd_of_K KX hC) bm hobj hints (Nat.le_trans hlen hn2) hr hF hb fun H hO hS=>hsp w H a ns hlen hO hS
end L2
namespace L2
open PySem PySem.Spec PyProof.Rows PySem.W
theorem kv_get {κ:Type}:∀ {ks:List (κ×V)} {vs:List (κ×Value)} {i:Nat} {p:κ×V},KV ks vs->ks[i]?=some p->∃ q,vs[i]?=some q∧p.1=q.1∧RelV p.2 q.2
 | _,_,_,_,.nil,e=>by simp at e
 | _,_,0,_,.cons r _,e=>by simp at e; subst e; exact ⟨_,rfl,r⟩
 | _,_,i+1,x,.cons _ t,e=>by
  obtain ⟨u,h1,h2⟩:=kv_get (i:=i) (p:=x) t (by simpa using e)
  exact ⟨u,by simpa using h1,h2⟩
section
variable {X:Cx}
def rLstD:List V->Hp->VK->Prop:=fun xs H Q=>∃ (a:Addr) (kvs:List (Key×V)),xs=[V.ref a]∧H a=some (.dK kvs)∧∀ l,H l=none->Q (.ref l) (upd H l (.lst (kvs.map fun p=>kV p.1)))
theorem call_lstD (hc:X.calm=true):CallR X (.type "list") rLstD:=by
 intro pins s σ H xs us Q I r h
 obtain ⟨a,kvs,rfl,ha,q⟩:=h
 cases r with
 | cons ru rr =>
  cases rr
  subst ru
  obtain ⟨z,lo,vs,rel,dd⟩:=dk_of I.hok ha
  obtain ⟨ep,hat⟩:=dd.dictAt
  have hlen:kvs.length=vs.length:=rel.length
  refine kdl_call (kdl_dict (knd:=mixKind X.prog X.w) (kvs:=vs) (ep:=ep) lo) (I.ok.hd hc) hat (by rw [←hlen]; exact z) fun h' tk acc c hk hS hI=>?_
  obtain ⟨hl,hI⟩:=hI
  have rv:Vals (kvs.map fun p=>kV p.1) acc.toList:=by
   refine vals_get ((List.length_map ..).trans (hlen.trans (hl.symm.trans Array.length_toList.symm))) fun i x u e1 e2=>?_
   obtain ⟨k,v,hkv,hk⟩:=hI i u (by rw [←Array.getElem?_toList]; exact e2)
   rw [List.getElem?_map] at e1
   obtain ⟨p,hp,rfl⟩:=Option.map_eq_some_iff.mp e1
   obtain ⟨p2,hp2,e3,_⟩:=kv_get rel hp
   rw [hkv] at hp2
   cases hp2
   rw [e3]
   rcases keyIs_shape (show keyIs k u=true from hk) with ⟨j,t,rfl,rfl⟩ | ⟨y,t,rfl,rfl⟩
   ·exact ⟨t,rfl⟩
   ·exact ⟨t,rfl⟩
  exact ⟨.ref _,_,I.laid (t':=tk) hk (Nat.le_refl _) (show ObjOk X.prog X.w _ h' _ (.lst _) from ⟨by rw [List.length_map]; exact z,acc.toList,c,rv,hS⟩),rfl,q _ (I.hok.fresh (Nat.le_refl _))⟩
def rNeDz:R2:=fun x y H Q=>∃ (a b:Addr) (kvs:List (Key×V)),x=.ref a∧y=.ref b∧H a=some (.dK kvs)∧H b=some (.dK [])∧Q (.bl (!kvs.isEmpty)) H
theorem op_neDz (hu:X.A.units<cLine):OpR X (compareOp .NotEq) rNeDz:=by
 intro pins s σ H x y v u Q I rx ry h
 obtain ⟨a,b,kvs,rfl,rfl,ha,hb,q⟩:=h
 subst rx
 subst ry
 obtain ⟨za,la,va,ra,da⟩:=dk_of I.hok ha
 obtain ⟨zb,lb,vb,rb,db⟩:=dk_of I.hok hb
 cases rb
 have e:kvs.length=va.length:=ra.length
 refine keq_ne (r:=true) la lb da db hu (fun z=>?_) ⟨.bl _,H,I,rfl,?_⟩
 ·cases va with
  | nil=>exact KeqHits.nil
  | cons _ _=>simp at z
 ·have:(!(va.length == ([]:List (Key×Value)).length && true))=!kvs.isEmpty:=by
   rw [←e]
   cases kvs <;> rfl
  rw [this]
  exact q
end
end L2
namespace L2
open PySem PySem.Spec PyProof.Rows PySem.W
section
variable {X:Cx}
def rNeLI:R2:=fun x y H Q=>∃ (p q:Addr) (ns ms:List Int),x=.ref p∧y=.ref q∧H p=some (.lst (ns.map V.int))∧H q=some (.lst (ms.map V.int))∧Q (.bl (!decide (ns=ms))) H
theorem eqv_ints (ns ms:List Int):PyData.eqv (.list (ns.map PyData.int)) (.list (ms.map PyData.int))=decide (ns=ms):=by
 rw [←SeqAt.same_eq_eqv _ _ (by simp only [SeqAt.noMix]; exact noMix_ints ns ms)]
 simp only [PySem.Spec.same]
 exact same_ints ns ms
theorem op_neLI (hu:X.A.units+64<cLine):OpR X (compareOp .NotEq) rNeLI:=by
 intro pins s σ H x y v u Q I rx ry h
 obtain ⟨p,q,ns,ms,rfl,rfl,hp,hq,k⟩:=h
 cases rx
 cases ry
 obtain ⟨_,its,n1,r1,_,e1⟩:=I.lstM hp
 obtain ⟨_,jts,n2,r2,_,e2⟩:=I.lstM hq
 have d1:Reads s.heap (.ref p) (.list (ns.map PyData.int)) [p]:=.list e1 rfl rfl (by simpa using (intsAre_of r1).reads s.heap)
 have d2:Reads s.heap (.ref q) (.list (ms.map PyData.int)) [q]:=.list e2 rfl rfl (by simpa using (intsAre_of r2).reads s.heap)
 refine ne_dataH d1 d2 (shaped_li ns) (shaped_li ms) hu ?_
 rw [eqv_ints]
 exact ⟨.bl _,H,I,rfl,k⟩
end
end L2
namespace L2
open PySem PySem.Spec PyProof.Rows PySem.W
theorem noFill_tuple_mul:fillsNumberSlot (.type "tuple") "mul" = pure false :=
 PySem.fillsNumberSlot_seq (id:="tuple.__mul__") (r:=some (.builtin "tuple.__rmul__")) PySem.F.slot_tuple_mul.lookup (by decide +kernel) PySem.F.slot_tuple_rmul.lookup (by decide +kernel)
theorem repeat_tuple:seqRepeat? (.type "tuple")=pure (some (.builtin "tuple.__mul__")):=by
 unfold seqRepeat?
 rw [PySem.seqSlot_of (T:="tuple") (name:="__mul__") (id:="tuple.__mul__") PySem.F.slot_tuple_mul.lookup (by decide +kernel),PySem.seqSlot_of (T:="tuple") (name:="__rmul__") (id:="tuple.__rmul__") PySem.F.slot_tuple_rmul.lookup (by decide +kernel)]
 rfl
theorem int_rmul_tuple (a:Int) (t:Tok) (l:Addr) (items:Array Value) (n:Nat) (dd:Option Addr) (sl:Array (Option Value)) :
  Meets (Builtin.«int.__rmul__» ⟨[.int a t,.ref l],[]⟩) (fun _ R s=>s.heap.get? l=some { cls:=.type "tuple",dict:=dd,data:=.seq items n,slots:=sl }∧R (.ok (.ret Value.notImplemented)) s) :=
 .of_wp fun prog w A R s h=>by obtain ⟨hp,g,d,tk,os⟩:=s; obtain ⟨hl,h⟩:=h; wp_walk; exact ⟨_,rfl,h⟩
theorem tuple_mul0 (l:Addr) (items:Array Value) (n:Nat) (dd:Option Addr) (sl:Array (Option Value)) (t:Tok) (hc0:items.isEmpty=true) :
  Meets (Builtin.«tuple.__mul__» ⟨[.ref l,.int 3 t],[]⟩) (fun _ R s=>s.heap.get? l=some { cls:=.type "tuple",dict:=dd,data:=.seq items n,slots:=sl }∧R (.ok (.ret (.ref l))) s) :=
 .of_wp fun prog w A R s h=>by obtain ⟨hp,g,d,tk,os⟩:=s; obtain ⟨hl,h⟩:=h; wp_walk; exact ⟨_,rfl,h⟩
theorem tuple_mul1 (l:Addr) (items:Array Value) (n:Nat) (dd:Option Addr) (sl:Array (Option Value)) (t:Tok) (hc0:¬ items.isEmpty=true) (hz:items.size≤1000) :
  Meets (Builtin.«tuple.__mul__» ⟨[.ref l,.int 3 t],[]⟩) (fun _ R s=>s.heap.get? l=some { cls:=.type "tuple",dict:=dd,data:=.seq items n,slots:=sl }∧R (.ok (.ret (.ref s.heap.objs.size))) { s with heap:=s.heap.push { cls:=Value.type "tuple",data:=Data.seq (#[]++items++items++items) },toks:=s.toks }) :=
 .of_wp fun prog w A R s h=>by
  obtain ⟨hp,g,d,tk,os⟩:=s; obtain ⟨hl,h⟩:=h
  have e1:((2:Int) ^ 63-1) / 8=1152921504606846975:=by decide
  have n1:¬ ((items.size:Int)*3 > (2 ^ 63-1) / 8):=by rw [e1]; omega
  have n2:¬ (Builtin.Tuple.tupleTooMany ((items.size:Int)*3)=true):=by
   unfold Builtin.Tuple.tupleTooMany
   rw [sizeLine_eq]
   simp
   omega
  wp_walk
  rw [if_neg n1]
  dsimp only
  rw [if_neg n2]
  have e3:List.foldl (fun x1 x2=>x1++x2) #[] (List.replicate (Int.toNat 3) items) = #[]++items++items++items:=rfl
  rw [e3]
  have hs3:(#[]++items++items++items).size≤sizeLine:=by simp [sizeLine_eq]; omega
  wp_walk
  refine wpAny_ite_false (decide_eq_false (Nat.not_lt.mpr hs3)) ?_
  wp_walk
  exact ⟨_,rfl,h⟩
section
variable {X:Cx}
def rRepT:R2:=fun x y H Q=>∃ a xs,x=.ref a∧y=.int 3∧H a=some (.tup xs)∧xs.length≤1000∧∀ p H',(∀ b o,H b=some o->H' b=some o)->H' p=some (.tup (xs++xs++xs))->Q (.ref p) H'
theorem op_repT:OpR X (binaryOp .Mult) rRepT:=by
 intro pins s σ H x y v u Q I rx ry h
 obtain ⟨a,xs,rfl,rfl,ha,hz,q⟩:=h
 cases rx
 obtain ⟨t,rfl⟩:=ry
 obtain ⟨its,r1,p1,_⟩:=I.tuple (SqT.of (K:=X.K) ha)
 have hl:xs.length=its.length:=r1.length
 obtain ⟨⟨cls,dd,data,sl⟩,ho,hc,n,hd⟩:=id p1
 simp only at hc hd
 subst hc hd
 by_cases hx:xs=[]
 ·subst hx
  have e0:its=[]:=r1.nil_iff.mpr rfl
  refine wpAny_binaryOp_repeat_ref (T:="tuple") (U:="int") (by decide) ⟨_,ho,rfl⟩ (fun s'=>typeIs_int s' 3 t) noFill_tuple_mul PySem.F.fills_int_mul PySem.F.slot_int_rmul repeat_tuple PySem.F.slot_int_index.lookup
   (call_meets PySem.F.slot_int_rmul (typeIs_int s 3 t) PySem.F.entry_int_rmul (PySem.F.args_int_rmul_2 _ _) (int_rmul_tuple 3 t a its.toArray n dd sl)
    ⟨ho,rfl,⟨_,ho,rfl⟩,call_meets PySem.F.slot_tuple_mul ⟨_,ho,rfl⟩ PySem.F.entry_tuple_mul (PySem.F.args_tuple_mul_2 _ _) (tuple_mul0 a its.toArray n dd sl t (by simp [e0])) ⟨ho,?_⟩⟩)
  exact ⟨.ref a,H,I,rfl,q a H (fun _ _ e=>e) ha⟩
 ·have e0:¬ its.toArray.isEmpty=true:=fun z=>hx (r1.nil_iff.mp (by simpa using z))
  refine wpAny_binaryOp_repeat_ref (T:="tuple") (U:="int") (by decide) ⟨_,ho,rfl⟩ (fun s'=>typeIs_int s' 3 t) noFill_tuple_mul PySem.F.fills_int_mul PySem.F.slot_int_rmul repeat_tuple PySem.F.slot_int_index.lookup
   (call_meets PySem.F.slot_int_rmul (typeIs_int s 3 t) PySem.F.entry_int_rmul (PySem.F.args_int_rmul_2 _ _) (int_rmul_tuple 3 t a its.toArray n dd sl)
    ⟨ho,rfl,⟨_,ho,rfl⟩,call_meets PySem.F.slot_tuple_mul ⟨_,ho,rfl⟩ PySem.F.entry_tuple_mul (PySem.F.args_tuple_mul_2 _ _) (tuple_mul1 a its.toArray n dd sl t e0 (by rw [List.size_toArray,←hl]; exact hz)) ⟨ho,?_⟩⟩)
  have ea:(#[]++its.toArray++its.toArray++its.toArray)=(its++its++its).toArray:=by simp
  rw [ea]
  have nf:=I.hok.fresh (Nat.le_refl s.heap.objs.size)
  have hz3:(xs++xs++xs).length≤sizeLine:=by rw [List.length_append,List.length_append,sizeLine_eq]; omega
  refine ⟨.ref s.heap.objs.size,_,I.laid (t':=s.toks) (o:=.tup (xs++xs++xs)) (fun b ob q=>Heap.get?_push_of_some _ q) (Nat.le_refl _) ?_,rfl,q _ _ (fun b o e=>by rw [upd_ne (ne_of_none e nf)]; exact e) upd_same⟩
  exact ⟨hz3,_,(r1.append r1).append r1,IsTup.new _ _,_,Heap.get?_push_size _ rfl,rfl⟩
end
end L2
namespace Mth
theorem gcd_fmod (a b:Int):Int.gcd b (a.fmod b)=Int.gcd a b:=by
 rw [Int.fmod_def]
 have e:a-b*a.fdiv b=a+b*(-(a.fdiv b)):=by rw [Int.mul_neg,Int.sub_eq_add_neg]
 rw [e,Int.gcd_add_mul_left_right,Int.gcd_comm]
theorem fmod_lt (a b:Int) (h:b≠0):(a.fmod b).natAbs<b.natAbs:=by
 rw [Int.fmod_eq_emod]
 have h1:=Int.emod_nonneg a h
 have h2:=Int.emod_lt a h
 split
 ·omega
 ·rename_i z
  have:¬ b ∣ a:=fun q=>z (Or.inr q)
  have hz:a % b≠0:=fun q=>this (Int.dvd_of_emod_eq_zero q)
  omega
def part (t b:Int):Int:=if b<0 then -(Int.gcd t b:Int) else (Int.gcd t b:Int)
def frac (t b:Int):Int×Int:=(t.fdiv (part t b),b.fdiv (part t b))
theorem gcd_pos (t b:Int) (h:b≠0):0<Int.gcd t b:=Int.gcd_pos_of_ne_zero_right _ h
theorem part_ne (t b:Int) (h:b≠0):part t b≠0:=by
 have:=gcd_pos t b h
 unfold part; split <;> omega
theorem part_dvd_l (t b:Int):part t b ∣ t:=by
 unfold part; split
 ·exact Int.neg_dvd.mpr (Int.gcd_dvd_left t b)
 ·exact Int.gcd_dvd_left t b
theorem part_dvd_r (t b:Int):part t b ∣ b:=by
 unfold part; split
 ·exact Int.neg_dvd.mpr (Int.gcd_dvd_right t b)
 ·exact Int.gcd_dvd_right t b
theorem frac_l (t b:Int):(frac t b).1*part t b=t:=by
 show t.fdiv (part t b)*part t b=t
 rw [Int.fdiv_eq_ediv_of_dvd (part_dvd_l t b),Int.ediv_mul_cancel (part_dvd_l t b)]
theorem frac_r (t b:Int):(frac t b).2*part t b=b:=by
 show b.fdiv (part t b)*part t b=b
 rw [Int.fdiv_eq_ediv_of_dvd (part_dvd_r t b),Int.ediv_mul_cancel (part_dvd_r t b)]
theorem frac_pos (t b:Int) (h:b≠0):0<(frac t b).2:=by
 have e:=frac_r t b
 have g:=gcd_pos t b h
 rcases Int.lt_or_lt_of_ne h with h1 | h1
 ·have hp:part t b<0:=by unfold part; rw [if_pos h1]; omega
  rcases Int.lt_or_le 0 (frac t b).2 with q | q
  ·exact q
  ·have:0≤(frac t b).2*part t b:=Int.mul_nonneg_of_nonpos_of_nonpos q (Int.le_of_lt hp)
   omega
 ·have hp:0<part t b:=by unfold part; rw [if_neg (by omega)]; omega
  rcases Int.lt_or_le 0 (frac t b).2 with q | q
  ·exact q
  ·have:(frac t b).2*part t b≤0:=Int.mul_nonpos_of_nonpos_of_nonneg q (Int.le_of_lt hp)
   omega
theorem frac_cross (t b:Int):(frac t b).1*b=t*(frac t b).2:=by
 have e1:=frac_l t b
 have e2:=frac_r t b
 generalize (frac t b).1=n at *
 generalize (frac t b).2=d at *
 generalize part t b=p at *
 subst e1
 subst e2
 rw [Int.mul_comm d p,Int.mul_assoc]
theorem frac_gcd (t b:Int) (h:b≠0):Int.gcd (frac t b).1 (frac t b).2=1:=by
 have e1:=frac_l t b
 have e2:=frac_r t b
 have g:=gcd_pos t b h
 have hp:(part t b).natAbs=Int.gcd t b:=by unfold part; split <;> omega
 have k:Int.gcd ((frac t b).1*part t b) ((frac t b).2*part t b)=Int.gcd (frac t b).1 (frac t b).2*(part t b).natAbs:=Int.gcd_mul_right _ _ _
 rw [e1,e2,hp] at k
 have:1*Int.gcd t b=Int.gcd (frac t b).1 (frac t b).2*Int.gcd t b:=by rw [Nat.one_mul]; exact k
 exact (Nat.eq_of_mul_eq_mul_right g this).symm
theorem part_le (t b:Int) (h:b≠0):(part t b).natAbs≤b.natAbs:=by
 have e:(part t b).natAbs=Int.gcd t b:=by unfold part; split <;> omega
 rw [e]
 exact Nat.le_of_dvd (Int.natAbs_pos.mpr h) (by
  have:=Int.gcd_dvd_right t b
  exact Int.ofNat_dvd_left.mp this)
theorem frac_le_l (t b:Int) (h:b≠0):(frac t b).1.natAbs≤t.natAbs:=by
 have e:=congrArg Int.natAbs (frac_l t b)
 rw [Int.natAbs_mul] at e
 have:1≤(part t b).natAbs:=Int.natAbs_pos.mpr (part_ne t b h)
 calc (frac t b).1.natAbs=(frac t b).1.natAbs*1:=(Nat.mul_one _).symm
  _≤(frac t b).1.natAbs*(part t b).natAbs:=Nat.mul_le_mul_left _ this
  _=t.natAbs:=e
theorem frac_le_r (t b:Int) (h:b≠0):(frac t b).2.natAbs≤b.natAbs:=by
 have e:=congrArg Int.natAbs (frac_r t b)
 rw [Int.natAbs_mul] at e
 have:1≤(part t b).natAbs:=Int.natAbs_pos.mpr (part_ne t b h)
 calc (frac t b).2.natAbs=(frac t b).2.natAbs*1:=(Nat.mul_one _).symm
  _≤(frac t b).2.natAbs*(part t b).natAbs:=Nat.mul_le_mul_left _ this
  _=b.natAbs:=e
end Mth
namespace Mth
theorem frac_rat (t b : Int) (h : b ≠ 0) : frac t b = (((t : Rat) / (b : Rat)).num, (((t : Rat) / (b : Rat)).den : Int)) := by
  have g := frac_gcd t b h
  have p := frac_pos t b h
  have c := frac_cross t b
  generalize (frac t b) = x at *
  obtain ⟨n, d⟩ := x
  simp only at g p c
  have hd : d = (d.toNat : Int) := by omega
  have hn : d.toNat ≠ 0 := by omega
  have hc : n.natAbs.Coprime d.toNat := by
    have : Int.gcd n d = n.natAbs.gcd d.toNat := by rw [Int.gcd]; congr 1; omega
    unfold Nat.Coprime; rw [← this]; exact g
  let r : Rat := ⟨n, d.toNat, hn, hc⟩
  have hr : r * (d : Rat) = n := by
    have h1 : r = (n : Rat) / ((d.toNat : Nat) : Rat) := by
      have := Rat.num_divInt_den r
      rw [← this, Rat.divInt_eq_div]; rfl
    have h2 : ((d.toNat : Nat) : Rat) = (d : Rat) := by
      have : ((d.toNat : Nat) : Rat) = (((d.toNat : Nat) : Int) : Rat) := rfl
      rw [this, ← hd]
    have h3 : (d : Rat) ≠ 0 := by have : d ≠ 0 := by omega
                                  exact_mod_cast this
    rw [h1, h2]; grind
  have hb : (b : Rat) ≠ 0 := by exact_mod_cast h
  have hd0 : (d : Rat) ≠ 0 := by have : d ≠ 0 := by omega
                                 exact_mod_cast this
  have cr : (n : Rat) * b = t * d := by exact_mod_cast c
  have e : (t : Rat) / (b : Rat) = r := by grind
  rw [e]
  show (n, d) = (n, ((d.toNat : Nat) : Int))
  rw [← hd]
def fr (q:Rat):Int×Int:=(q.num,q.den)
theorem rat_num (q:Rat):q*((q.den:Nat):Rat)=q.num:=by
 have h1:=Rat.num_divInt_den q
 rw [Rat.divInt_eq_div] at h1
 have:((q.den:Nat):Rat)≠0:=by exact_mod_cast q.den_nz
 have h2:(((q.den:Nat):Int):Rat)=((q.den:Nat):Rat):=rfl
 rw [h2] at h1
 grind
theorem rat_den_ne (q:Rat):((q.den:Nat):Rat)≠0:=by exact_mod_cast q.den_nz
theorem ic (n:Nat):(((n:Nat):Int):Rat)=((n:Nat):Rat):=rfl
theorem fr_add (p q:Rat):frac (p.num*q.den+q.num*p.den) (p.den*q.den)=fr (p+q):=by
 have hp:=p.den_nz
 have hq:=q.den_nz
 have h:((p.den:Int)*(q.den:Int))≠0:=Int.mul_ne_zero (by omega) (by omega)
 rw [frac_rat _ _ h]
 have e:(((p.num*q.den+q.num*p.den:Int)):Rat) / (((p.den:Int)*(q.den:Int):Int):Rat)=p+q:=by
  have:=rat_num p; have:=rat_num q; have:=rat_den_ne p; have:=rat_den_ne q
  simp only [Rat.intCast_add,Rat.intCast_mul,ic]
  grind
 rw [e]; rfl
theorem fr_sub (p q:Rat):frac (p.num*q.den-q.num*p.den) (p.den*q.den)=fr (p-q):=by
 have hp:=p.den_nz
 have hq:=q.den_nz
 have h:((p.den:Int)*(q.den:Int))≠0:=Int.mul_ne_zero (by omega) (by omega)
 rw [frac_rat _ _ h]
 have e:(((p.num*q.den-q.num*p.den:Int)):Rat) / (((p.den:Int)*(q.den:Int):Int):Rat)=p-q:=by
  have:=rat_num p; have:=rat_num q; have:=rat_den_ne p; have:=rat_den_ne q
  simp only [Rat.intCast_sub,Rat.intCast_mul,ic]
  grind
 rw [e]; rfl
def Sb (n d:Nat) (q:Rat):Prop:=q.num.natAbs≤2 ^ n∧q.den≤2 ^ d
theorem frac_le {t b:Int} (h:b≠0):(frac t b).1.natAbs≤t.natAbs∧(frac t b).2.natAbs≤b.natAbs:=by
 have h1:=frac_l t b
 have h2:=frac_r t b
 have h3:=part_ne t b h
 have a1:t.natAbs=(frac t b).1.natAbs*(part t b).natAbs:=by rw [←Int.natAbs_mul,h1]
 have a2:b.natAbs=(frac t b).2.natAbs*(part t b).natAbs:=by rw [←Int.natAbs_mul,h2]
 have a3:1≤(part t b).natAbs:=by omega
 rw [a1,a2]
 exact ⟨Nat.le_mul_of_pos_right _ a3,Nat.le_mul_of_pos_right _ a3⟩
theorem sb_of {t b:Int} {n d:Nat} (h:b≠0) (h1:t.natAbs≤2 ^ n) (h2:b.natAbs≤2 ^ d) {q:Rat} (e:frac t b=fr q):Sb n d q:=by
 have:=frac_le (t:=t) h
 rw [e] at this
 simp only [fr,Int.natAbs_natCast] at this
 exact ⟨by omega,by omega⟩
theorem pmul {a b m n:Nat} (h:a≤2 ^ m) (g:b≤2 ^ n):a*b≤2 ^ (m+n):=by rw [Nat.pow_add]; exact Nat.mul_le_mul h g
theorem dnz (p q:Rat):((p.den:Int)*(q.den:Int))≠0:=by
 have hp:=p.den_nz
 have hq:=q.den_nz
 exact Int.mul_ne_zero (by omega) (by omega)
theorem Sb.add {n d n' d' N:Nat} {p q:Rat} (h:Sb n d p) (g:Sb n' d' q) (h1:n+d'≤N) (h2:n' + d≤N):Sb (N+1) (d+d') (p+q):=by
 refine sb_of (dnz p q) ?_ ?_ (fr_add p q)
 ·have a1:(p.num*q.den).natAbs≤2 ^ N:=by
   rw [Int.natAbs_mul,Int.natAbs_natCast]
   exact Nat.le_trans (pmul h.1 g.2) (Nat.pow_le_pow_right (by decide) h1)
  have a2:(q.num*p.den).natAbs≤2 ^ N:=by
   rw [Int.natAbs_mul,Int.natAbs_natCast]
   exact Nat.le_trans (pmul g.1 h.2) (Nat.pow_le_pow_right (by decide) h2)
  have:=Int.natAbs_add_le (p.num*q.den) (q.num*p.den)
  rw [Nat.pow_succ]; omega
 ·rw [Int.natAbs_mul,Int.natAbs_natCast,Int.natAbs_natCast]; exact pmul h.2 g.2
theorem Sb.sub {n d n' d' N:Nat} {p q:Rat} (h:Sb n d p) (g:Sb n' d' q) (h1:n+d'≤N) (h2:n' + d≤N):Sb (N+1) (d+d') (p-q):=by
 refine sb_of (dnz p q) ?_ ?_ (fr_sub p q)
 ·have a1:(p.num*q.den).natAbs≤2 ^ N:=by
   rw [Int.natAbs_mul,Int.natAbs_natCast]
   exact Nat.le_trans (pmul h.1 g.2) (Nat.pow_le_pow_right (by decide) h1)
  have a2:(q.num*p.den).natAbs≤2 ^ N:=by
   rw [Int.natAbs_mul,Int.natAbs_natCast]
   exact Nat.le_trans (pmul g.1 h.2) (Nat.pow_le_pow_right (by decide) h2)
  have:=Int.natAbs_sub_le (p.num*q.den) (q.num*p.den)
  rw [Nat.pow_succ]; omega
 ·rw [Int.natAbs_mul,Int.natAbs_natCast,Int.natAbs_natCast]; exact pmul h.2 g.2
theorem Sb.mono {n d n' d':Nat} {p:Rat} (h:Sb n d p) (h1:n≤n') (h2:d≤d'):Sb n' d' p :=
 ⟨Nat.le_trans h.1 (Nat.pow_le_pow_right (by decide) h1),Nat.le_trans h.2 (Nat.pow_le_pow_right (by decide) h2)⟩
theorem Sb.one:Sb 0 0 1:=by constructor <;> decide
def wh (b:Int) (q:Rat):Int:=q.num*b.fdiv q.den
end Mth
namespace Mth
theorem len_le:∀ (n:Nat) (l:List Int),l.Nodup->(∀ x∈l,0≤x∧x<n)->l.length≤n
 | 0,l,_,h=>by
  cases l with
  | nil=>exact Nat.le_refl _
  | cons a r =>
   have:=h a (List.mem_cons_self ..)
   omega
 | n+1,l,hn,h=>by
  by_cases hm:(n:Int)∈l
  ·have h1:=len_le n (l.erase (n:Int)) (hn.erase _) (fun x hx=>by
    have hx1:=List.mem_of_mem_erase hx
    have hx2:x≠(n:Int):=fun z=>by
     rw [z] at hx
     exact (List.Nodup.not_mem_erase hn) hx
    have:=h x hx1
    omega)
   have h2:=List.length_erase_of_mem hm
   have:0<l.length:=List.length_pos_of_mem hm
   omega
  ·have h1:=len_le n l hn (fun x hx=>by
    have hx2:x≠(n:Int):=fun z=>hm (z ▸ hx)
    have:=h x hx
    omega)
   omega
theorem sub_len:∀ (l l':List Int),l.Nodup->(∀ x∈l,x∈l')->l.length≤l'.length
 | [],_,_,_=>Nat.zero_le _
 | a :: r,l',hn,h=>by
  have h1:=List.nodup_cons.mp hn
  have h2:=sub_len r (l'.erase a) h1.2 fun x hx=>(List.mem_erase_of_ne (fun z:x=a=>h1.1 (z ▸ hx))).mpr (h x (List.mem_cons_of_mem _ hx))
  have hm:=h a (List.mem_cons_self ..)
  have h3:=List.length_erase_of_mem hm
  have:=List.length_pos_of_mem hm
  rw [List.length_cons]
  omega
abbrev InR (n:Nat) (e:Int):Prop:=0≤e∧e<n
def itn (φ:Int->Int):Nat->Int->Int
 | 0,s=>s
 | k+1,s=>φ (itn φ k s)
structure Perm1 (φ:Int->Int) (n:Nat):Prop where
 into:∀ e,InR n e->InR n (φ e)
 inj:∀ a b,InR n a->InR n b->φ a=φ b->a=b
section
variable {φ:Int->Int} {n:Nat} (P:Perm1 φ n)
include P
theorem itn_in {s:Int} (hs:InR n s):∀ k,InR n (itn φ k s)
 | 0=>hs
 | k+1=>P.into _ (itn_in hs k)
theorem itn_back {s:Int} (hs:InR n s):∀ (i j:Nat),i≤j->itn φ i s=itn φ j s->itn φ (j-i) s=s
 | 0,j,_,e=>by rw [Nat.sub_zero]; exact e.symm
 | i+1,0,h,_=>absurd h (by omega)
 | i+1,j+1,h,e=>by
  rw [Nat.add_sub_add_right]
  exact itn_back hs i j (by omega) (P.inj _ _ (itn_in P hs i) (itn_in P hs j) e)
omit P in
def Per (φ:Int->Int) (s:Int) (m:Nat):Prop:=1≤m∧itn φ m s=s∧∀ k,1≤k->k<m->itn φ k s≠s
omit P in
theorem Per.uniq {s:Int} {m m':Nat} (h:Per φ s m) (h':Per φ s m'):m=m':=by
 rcases Nat.lt_trichotomy m m' with z | z | z
 ·exact absurd h.2.1 (h'.2.2 m h.1 z)
 ·exact z
 ·exact absurd h'.2.1 (h.2.2 m' h'.1 z)
omit P in
def ringL (φ:Int->Int) (s:Int) (m:Nat):List Int:=(List.range m).map fun k=>itn φ k s
omit P in
theorem ringL_len {s:Int} {m:Nat}:(ringL φ s m).length=m:=by simp [ringL]
omit P in
theorem ringL_mem {s x:Int} {m:Nat}:x∈ringL φ s m↔∃ k,k<m∧itn φ k s=x:=by simp [ringL]
omit P in
theorem ringL_snoc {s:Int} {m:Nat}:ringL φ s (m+1)=ringL φ s m++[itn φ m s]:=by simp [ringL,List.range_succ]
theorem ring_nodup {s:Int} {m:Nat} (hs:InR n s) (h:∀ k,1≤k->k<m->itn φ k s≠s):(ringL φ s m).Nodup:=by
 unfold ringL List.Nodup
 rw [List.pairwise_map]
 refine List.Pairwise.imp_of_mem ?_ (List.pairwise_lt_range (n:=m))
 intro a b ha hb hab e
 exact h (b-a) (by omega) (by have:=List.mem_range.mp hb; omega) (itn_back P hs a b (by omega) e)
theorem per_ex {s:Int} (hs:InR n s):∃ m,m≤n∧Per φ s m:=by
 by_cases hz:∃ m,1≤m∧m≤n∧itn φ m s=s
 ·have key:∀ N m,m≤N->1≤m->m≤n->itn φ m s=s->∃ m,m≤n∧Per φ s m:=by
   intro N
   induction N with
   | zero=>intro m h1 h2; omega
   | succ N ih =>
    intro m h1 h2 h3 h4
    by_cases q:∃ k,1≤k∧k<m∧itn φ k s=s
    ·obtain ⟨k,k1,k2,k3⟩:=q
     exact ih k (by omega) k1 (by omega) k3
    ·exact ⟨m,h3,h2,h4,fun k k1 k2 k3=>q ⟨k,k1,k2,k3⟩⟩
  obtain ⟨m,h1,h2,h3⟩:=hz
  exact key m m (Nat.le_refl _) h1 h2 h3
 ·have h1:=ring_nodup P (m:=n+1) hs fun k k1 k2 k3=>hz ⟨k,k1,by omega,k3⟩
  have h2:=len_le n _ h1 fun x hx=>by
   obtain ⟨k,_,e⟩:=ringL_mem.mp hx
   rw [←e]
   exact itn_in P hs k
  rw [ringL_len] at h2
  omega
omit P in
open Classical in
def per (φ:Int->Int) (s:Int):Nat:=if h:∃ m,Per φ s m then h.choose else 1
theorem per_is {s:Int} (hs:InR n s):Per φ s (per φ s):=by
 obtain ⟨m,_,h⟩:=per_ex P hs
 have e:∃ m,Per φ s m:=⟨m,h⟩
 unfold per
 rw [dif_pos e]
 exact e.choose_spec
theorem per_le {s:Int} (hs:InR n s):per φ s≤n:=by
 obtain ⟨m,h1,h⟩:=per_ex P hs
 rw [(per_is P hs).uniq h]
 exact h1
omit P in
def ring (φ:Int->Int) (s:Int):List Int:=ringL φ s (per φ s)
theorem ring_nd {s:Int} (hs:InR n s):(ring φ s).Nodup:=ring_nodup P hs (per_is P hs).2.2
theorem ring_in {s x:Int} (hs:InR n s) (hx:x∈ring φ s):InR n x:=by
 obtain ⟨k,_,e⟩:=ringL_mem.mp hx
 rw [←e]
 exact itn_in P hs k
theorem ring_self {s:Int} (hs:InR n s):s∈ring φ s:=ringL_mem.mpr ⟨0,(per_is P hs).1,rfl⟩
theorem ring_fwd {s x:Int} (hs:InR n s) (hx:x∈ring φ s):φ x∈ring φ s:=by
 obtain ⟨k,hk,e⟩:=ringL_mem.mp hx
 have hp:=per_is P hs
 by_cases q:k+1<per φ s
 ·exact ringL_mem.mpr ⟨k+1,q,by rw [←e]; rfl⟩
 ·have:k+1=per φ s:=by omega
  refine ringL_mem.mpr ⟨0,hp.1,?_⟩
  rw [←e]
  show s=itn φ (k+1) s
  rw [this,hp.2.1]
theorem ring_bwd {s x:Int} (hs:InR n s) (hx:InR n x) (h:φ x∈ring φ s):x∈ring φ s:=by
 obtain ⟨k,hk,e⟩:=ringL_mem.mp h
 have hp:=per_is P hs
 cases k with
 | succ k=>exact ringL_mem.mpr ⟨k,by omega,P.inj _ _ (itn_in P hs k) hx e⟩
 | zero =>
  have hm:per φ s-1+1=per φ s:=by have:=hp.1; omega
  refine ringL_mem.mpr ⟨per φ s-1,by omega,P.inj _ _ (itn_in P hs _) hx ?_⟩
  rw [←e]
  show itn φ (per φ s-1+1) s=s
  rw [hm]
  exact hp.2.1
theorem ring_apart {s:Int} {S:List Int} (hs:InR n s) (hS:∀ x,InR n x->φ x∈S->x∈S) (h:s∉S):∀ x∈ring φ s,x∉S:=by
 intro x hx
 obtain ⟨k,hk,e⟩:=ringL_mem.mp hx
 subst e
 clear hx hk
 induction k with
 | zero=>exact h
 | succ k ih=>exact fun z=>ih (hS _ (itn_in P hs k) z)
omit P in
open Classical in
def landsF (φ:Int->Int):Nat->List (List Int)
 | 0=>[]
 | i+1=>if (i:Int)∈(landsF φ i).flatten then landsF φ i else landsF φ i++[ring φ i]
omit P in
theorem landsF_pos {i:Nat} (h:(i:Int)∈(landsF φ i).flatten):landsF φ (i+1)=landsF φ i:=by
 rw [landsF,if_pos h]
omit P in
theorem landsF_neg {i:Nat} (h:(i:Int)∉(landsF φ i).flatten):landsF φ (i+1)=landsF φ i++[ring φ i]:=by
 rw [landsF,if_neg h]
omit P in
structure Lands (φ:Int->Int) (n i:Nat) (R:List (List Int)):Prop where
 of:∀ r∈R,∃ s,InR n s∧s<i∧r=ring φ s∧∀ x∈r,s≤x
 nd:R.flatten.Nodup
 all:∀ e,0≤e->e<(i:Int)->e∈R.flatten
 rise:R.Pairwise fun r r'=>∀ s s',r=ring φ s->InR n s->r'=ring φ s'->InR n s'->(∀ x∈r,s≤x)->(∀ x∈r',s'≤x)->s<s'
theorem Lands.fwd {i:Nat} {R:List (List Int)} (h:Lands φ n i R) {x:Int} (hx:x∈R.flatten):φ x∈R.flatten:=by
 obtain ⟨r,hr,hx⟩:=List.mem_flatten.mp hx
 obtain ⟨s,hs,_,e,_⟩:=h.of r hr
 subst e
 exact List.mem_flatten.mpr ⟨_,hr,ring_fwd P hs hx⟩
theorem Lands.bwd {i:Nat} {R:List (List Int)} (h:Lands φ n i R) {x:Int} (hi:InR n x) (hx:φ x∈R.flatten):x∈R.flatten:=by
 obtain ⟨r,hr,hx⟩:=List.mem_flatten.mp hx
 obtain ⟨s,hs,_,e,_⟩:=h.of r hr
 subst e
 exact List.mem_flatten.mpr ⟨_,hr,ring_bwd P hs hi hx⟩
theorem ring_head {s s':Int} (hs:InR n s) (hs':InR n s') (e:ring φ s=ring φ s') (h:∀ x∈ring φ s,s≤x) (h':∀ x∈ring φ s',s'≤x):s=s':=by
 have h1:=h' s (e ▸ ring_self P hs)
 have h2:=h s' (e ▸ ring_self P hs')
 omega
theorem landsF_ok:∀ i,i≤n->Lands φ n i (landsF φ i)
 | 0,_=>⟨fun r h=>by simp [landsF] at h,by simp [landsF],fun e h1 h2=>by omega,by simp [landsF]⟩
 | i+1,hi=>by
  have ih:=landsF_ok i (by omega)
  have hs:InR n (i:Int):=⟨by omega,by omega⟩
  unfold landsF
  by_cases q:(i:Int)∈(landsF φ i).flatten
  ·rw [if_pos q]
   refine ⟨fun r hr=>?_,ih.nd,fun e h1 h2=>?_,ih.rise⟩
   ·obtain ⟨s,a,b,c,d⟩:=ih.of r hr
    exact ⟨s,a,by omega,c,d⟩
   ·by_cases z:e=i
    ·rw [z]; exact q
    ·exact ih.all e h1 (by omega)
  ·rw [if_neg q]
   have ap:=ring_apart P hs (fun x hx h=>ih.bwd P hx h) q
   have low:∀ x∈ring φ (i:Int),(i:Int)≤x:=fun x hx=>by
    rcases Int.lt_or_le x i with z | z
    ·exact absurd (ih.all x (ring_in P hs hx).1 z) (ap x hx)
    ·exact z
   refine ⟨fun r hr=>?_,?_,fun e h1 h2=>?_,?_⟩
   ·rcases List.mem_append.mp hr with hr | hr
    ·obtain ⟨s,a,b,c,d⟩:=ih.of r hr
     exact ⟨s,a,by omega,c,d⟩
    ·have e:r=ring φ (i:Int):=by simpa using hr
     subst e
     exact ⟨i,hs,by omega,rfl,low⟩
   ·rw [List.flatten_append,List.nodup_append]
    refine ⟨ih.nd,by simpa using ring_nd P hs,fun x hx y hy e=>?_⟩
    subst e
    exact ap x (by simpa using hy) hx
   ·rw [List.flatten_append,List.mem_append]
    by_cases z:e=i
    ·rw [z]; right; simpa using ring_self P hs
    ·left; exact ih.all e h1 (by omega)
   ·rw [List.pairwise_append]
    refine ⟨ih.rise,List.pairwise_singleton ..,fun r hr r' hr' s s' e hs1 e' hs1' l l'=>?_⟩
    have er:r'=ring φ (i:Int):=by simpa using hr'
    obtain ⟨t,ht,hti,et,lt⟩:=ih.of r hr
    have h1:s=t:=ring_head P hs1 ht (e.symm.trans et) (e ▸ l) (et ▸ lt)
    have h2:s'=(i:Int):=ring_head P hs1' hs (e'.symm.trans er) (e' ▸ l') low
    omega
end
end Mth
namespace Mth
def prevAt (row:List Int) (k:Nat):Int:=row.getD (if k=0 then row.length-1 else k-1) 0
def rowP (row:List Int):List (Int×Int):=(List.range row.length).map fun k=>(row.getD k 0,prevAt row k)
def aheadL (ts:List (List Int)):List (Int×Int):=(ts.map rowP).flatten
theorem range_getD (row:List Int):(List.range row.length).map (fun k=>row.getD k 0)=row:=by
 refine List.ext_getElem (by simp) fun i h1 h2=>?_
 simp [List.getD,h2]
theorem rowP_fst (row:List Int):(rowP row).map (·.1)=row:=by
 unfold rowP
 rw [List.map_map]
 exact range_getD row
theorem rowP_len (row:List Int):(rowP row).length=row.length:=by simp [rowP]
theorem rowP_snoc (r:List Int) (l:Int):(rowP (r++[l])).map (·.2)=l :: r:=by
 unfold rowP
 rw [List.map_map]
 have hl:(r++[l]).length=r.length+1:=by simp
 rw [hl,List.range_succ_eq_map,List.map_cons,List.map_map]
 congr 1
 ·show prevAt (r++[l]) 0=l
  unfold prevAt
  rw [if_pos rfl,hl]
  simp [List.getD]
 ·refine List.ext_getElem (by simp) fun i h1 h2=>?_
  simp [prevAt,List.getD,List.getElem?_append_left h2,h2]
theorem rowP_snd (row:List Int):((rowP row).map (·.2)).Perm row:=by
 rcases List.eq_nil_or_concat row with h | ⟨r,l,h⟩
 ·subst h
  exact .nil
 ·rw [List.concat_eq_append] at h
  subst h
  rw [rowP_snoc]
  exact (List.perm_append_singleton l r).symm
theorem aheadL_fst:∀ ts:List (List Int),(aheadL ts).map (·.1)=ts.flatten
 | []=>rfl
 | r :: ts=>by
  have ih:=aheadL_fst ts
  unfold aheadL at *
  rw [List.map_cons,List.flatten_cons,List.map_append,rowP_fst,ih,List.flatten_cons]
theorem aheadL_snd:∀ ts:List (List Int),((aheadL ts).map (·.2)).Perm ts.flatten
 | []=>.nil
 | r :: ts=>by
  have ih:=aheadL_snd ts
  unfold aheadL at *
  rw [List.map_cons,List.flatten_cons,List.map_append,List.flatten_cons]
  exact (rowP_snd r).append ih
theorem aheadL_snoc (ts:List (List Int)) (r:List Int):aheadL (ts++[r])=aheadL ts++rowP r:=by simp [aheadL]
def lk (L:List (Int×Int)) (e:Int):Option Int:=(L.find? fun p=>decide (p.1=e)).map (·.2)
theorem lk_mem {L:List (Int×Int)} {e v:Int} (h:lk L e=some v):(e,v)∈L:=by
 unfold lk at h
 cases q:L.find? fun p=>decide (p.1=e) with
 | none=>rw [q] at h; cases h
 | some p =>
  rw [q] at h
  have h1:=List.mem_of_find?_eq_some q
  have h2:=List.find?_some q
  have h3:p.1=e:=of_decide_eq_true h2
  have h4:p.2=v:=Option.some.inj h
  rw [←h3,←h4]
  exact h1
theorem lk_some {L:List (Int×Int)} {e:Int} (h:e∈L.map (·.1)):∃ v,lk L e=some v:=by
 obtain ⟨p,hp,e1⟩:=List.mem_map.mp h
 unfold lk
 cases q:L.find? fun p=>decide (p.1=e) with
 | none =>
  have:=List.find?_eq_none.mp q p hp
  exact absurd (decide_eq_true e1) this
 | some p=>exact ⟨p.2,rfl⟩
theorem lk_none {L:List (Int×Int)} {e:Int} (h:e∉L.map (·.1)):lk L e=none:=by
 cases q:lk L e with
 | none=>rfl
 | some v=>exact absurd (List.mem_map.mpr ⟨_,lk_mem q,rfl⟩) h
theorem nodup_inj {α β:Type} {f:α->β}:∀ {L:List α},(L.map f).Nodup->∀ {p q},p∈L->q∈L->f p=f q->p=q
 | [],_,p,_,hp,_,_=>absurd hp (by simp)
 | a :: L,h,p,q,hp,hq,e=>by
  rw [List.map_cons,List.nodup_cons] at h
  rcases List.mem_cons.mp hp with h1 | h1
  ·rcases List.mem_cons.mp hq with h2 | h2
   ·rw [h1,h2]
   ·exact (h.1 (List.mem_map.mpr ⟨q,h2,by rw [←e,h1]⟩)).elim
  ·rcases List.mem_cons.mp hq with h2 | h2
   ·exact (h.1 (List.mem_map.mpr ⟨p,h1,by rw [e,h2]⟩)).elim
   ·exact nodup_inj h.2 h1 h2 e
theorem lk_of {L:List (Int×Int)} {e v:Int} (hn:(L.map (·.1)).Nodup) (h:(e,v)∈L):lk L e=some v:=by
 obtain ⟨u,hu⟩:=lk_some (List.mem_map.mpr ⟨_,h,rfl⟩)
 have:=nodup_inj hn (lk_mem hu) h rfl
 rw [hu,(Prod.mk.inj this).2]
structure Turns (n:Nat) (ts:List (List Int)):Prop where
 nd:ts.flatten.Nodup
 mem:∀ e,e∈ts.flatten↔InR n e
 even:n % 2=0
def oth (e:Int):Int:=if e % 2=0 then e+1 else e-1
theorem oth_in {n:Nat} (h:n % 2=0) {e:Int} (he:InR n e):InR n (oth e):=by
 unfold oth
 obtain ⟨h1,h2⟩:=he
 split <;> constructor <;> omega
theorem oth_oth (e:Int):oth (oth e)=e:=by
 unfold oth
 split <;> split <;> omega
def nxt (ts:List (List Int)) (e:Int):Int:=(lk (aheadL ts) (oth e)).getD 0
section
variable {n:Nat} {ts:List (List Int)} (T:Turns n ts)
include T
theorem Turns.len:ts.flatten.length=n:=by
 have h1:=len_le n _ T.nd fun x hx=>(T.mem x).mp hx
 have h2:((List.range n).map (fun k:Nat=>(k:Int))).length≤ts.flatten.length:=by
  have nd:((List.range n).map (fun k:Nat=>(k:Int))).Nodup:=by
   unfold List.Nodup
   rw [List.pairwise_map]
   exact List.Pairwise.imp (fun {a b} h=>by omega) (List.pairwise_lt_range (n:=n))
  refine sub_len _ _ nd fun x hx=>?_
  obtain ⟨k,hk,e⟩:=List.mem_map.mp hx
  have:=List.mem_range.mp hk
  exact (T.mem x).mpr ⟨by omega,by omega⟩
 rw [List.length_map,List.length_range] at h2
 omega
theorem Turns.alen:(aheadL ts).length=n:=by
 have:=congrArg List.length (aheadL_fst ts)
 rw [List.length_map,T.len] at this
 exact this
theorem Turns.look {e:Int} (he:InR n e):∃ v,lk (aheadL ts) e=some v∧InR n v:=by
 obtain ⟨v,hv⟩:=lk_some (L:=aheadL ts) (e:=e) (by rw [aheadL_fst]; exact (T.mem e).mpr he)
 refine ⟨v,hv,(T.mem v).mp ?_⟩
 exact (aheadL_snd ts).mem_iff.mp (List.mem_map.mpr ⟨_,lk_mem hv,rfl⟩)
theorem Turns.nxt_is {e:Int} (he:InR n e):lk (aheadL ts) (oth e)=some (nxt ts e):=by
 obtain ⟨v,hv,_⟩:=T.look (oth_in T.even he)
 unfold nxt
 rw [hv]
 rfl
theorem Turns.perm:Perm1 (nxt ts) n:=by
 refine ⟨fun e he=>?_,fun a b ha hb e=>?_⟩
 ·obtain ⟨v,hv,hi⟩:=T.look (oth_in T.even he)
  unfold nxt
  rw [hv]
  exact hi
 ·have h1:=lk_mem (T.nxt_is ha)
  have h2:=lk_mem (T.nxt_is hb)
  rw [e] at h1
  have nd:((aheadL ts).map (·.2)).Nodup:=(aheadL_snd ts).nodup_iff.mpr T.nd
  have h3:=(Prod.mk.inj (nodup_inj nd h1 h2 rfl)).1
  rw [←oth_oth a,h3,oth_oth]
end
theorem take_snoc {α:Type} {R:List α} {j:Nat} {r:α} (h:R[j]?=some r):R.take (j+1)=R.take j++[r]:=by
 rw [List.take_add_one,h]
 rfl
section
variable {φ:Int->Int} {n:Nat} (P:Perm1 φ n)
include P
theorem ring_hd {s:Int} (hs:InR n s):(ring φ s).headD 0=s:=by
 have h:=(per_is P hs).1
 unfold ring ringL
 obtain ⟨m,e⟩:∃ m,per φ s=m+1:=⟨per φ s-1,by omega⟩
 rw [e,List.range_succ_eq_map,List.map_cons]
 rfl
theorem lands_of {r:List Int} (h:r∈landsF φ n):InR n (r.headD 0)∧r=ring φ (r.headD 0)∧∀ x∈r,r.headD 0≤x:=by
 obtain ⟨s,hs,_,e,l⟩:=(landsF_ok P n (Nat.le_refl _)).of r h
 subst e
 rw [ring_hd P hs]
 exact ⟨hs,rfl,l⟩
theorem lands_mem {x:Int}:x∈(landsF φ n).flatten↔InR n x:=by
 constructor
 ·intro h
  obtain ⟨r,hr,hx⟩:=List.mem_flatten.mp h
  obtain ⟨h1,h2,_⟩:=lands_of P hr
  rw [h2] at hx
  exact ring_in P h1 hx
 ·intro h
  exact (landsF_ok P n (Nat.le_refl _)).all x h.1 h.2
end
end Mth
namespace Mth
def Path (φ:Int->Int):List Int->Int->Prop
 | [],_=>True
 | a :: l,y=>φ a=l.headD y∧Path φ l y
theorem headD_app (l m:List Int) (y:Int):(l++m).headD y=l.headD (m.headD y):=by cases l <;> rfl
theorem path_app {φ:Int->Int} (m:List Int) (y:Int):∀ l:List Int,Path φ (l++m) y↔Path φ l (m.headD y)∧Path φ m y
 | []=>by simp [Path]
 | a :: l=>by
  show (φ a=(l++m).headD y∧Path φ (l++m) y)↔(φ a=l.headD (m.headD y)∧Path φ l (m.headD y))∧Path φ m y
  rw [headD_app,path_app m y l,and_assoc]
theorem path_congr {φ ψ:Int->Int} {y:Int}:∀ {l:List Int},(∀ x∈l,ψ x=φ x)->Path φ l y->Path ψ l y
 | [],_,_=>trivial
 | a :: l,h,g=>⟨(h a (by simp)).trans g.1,path_congr (fun x hx=>h x (by simp [hx])) g.2⟩
theorem path_mem {φ:Int->Int} {y:Int}:∀ {l:List Int},Path φ l y->∀ x∈l,φ x∈l∨φ x=y
 | [],_,x,h=>by cases h
 | a :: l,g,x,h=>by
  rcases List.mem_cons.mp h with rfl | h
  ·rw [g.1]
   cases l with
   | nil=>exact .inr rfl
   | cons b l=>left; simp
  ·rcases path_mem g.2 x h with z | z
   ·left; simp [z]
   ·exact .inr z
structure RingC (φ:Int->Int) (c:List Int):Prop where
 ne:c≠[]
 pa:Path φ c (c.headD 0)
theorem RingC.fwd {φ:Int->Int} {c:List Int} (h:RingC φ c) {x:Int} (hx:x∈c):φ x∈c:=by
 rcases path_mem h.pa x hx with z | z
 ·exact z
 ·rw [z]
  cases c with
  | nil=>cases hx
  | cons a l=>simp
structure Cyc (φ:Int->Int) (n:Nat) (R:List (List Int)):Prop where
 nd:R.flatten.Nodup
 mem:∀ x,x∈R.flatten↔InR n x
 ring:∀ c∈R,RingC φ c
theorem split_flat {R:List (List Int)} {u:Int} (h:u∈R.flatten):∃ R1 c1 c2 R2,R=R1++(c1++u :: c2) :: R2:=by
 obtain ⟨c,hc,hu⟩:=List.mem_flatten.mp h
 obtain ⟨R1,R2,rfl⟩:=List.append_of_mem hc
 obtain ⟨c1,c2,rfl⟩:=List.append_of_mem hu
 exact ⟨R1,c1,c2,R2,rfl⟩
theorem nd_app {l m:List Int}:(l++m).Nodup↔l.Nodup∧m.Nodup∧∀ x∈l,x∉m:=by
 rw [List.nodup_append]
 constructor
 ·rintro ⟨a,b,c⟩
  exact ⟨a,b,fun x hx hm=>c x hx x hm rfl⟩
 ·rintro ⟨a,b,c⟩
  exact ⟨a,b,fun x hx y hy e=>c x hx (e ▸ hy)⟩
theorem in_succ {n:Nat} {x:Int}:InR (n+1) x↔InR n x∨x=n:=by
 constructor
 ·rintro ⟨a,b⟩
  rcases Int.lt_or_le x n with h | h
  ·exact .inl ⟨a,h⟩
  ·right; omega
 ·rintro (⟨a,b⟩ | rfl)
  ·exact ⟨a,by omega⟩
  ·exact ⟨by omega,by omega⟩
theorem Cyc.ins {φ ψ:Int->Int} {n:Nat} {R:List (List Int)} {u:Int} (C:Cyc φ n R) (hu:InR n u) (h1:ψ u=n) (h2:ψ n=φ u) (h3:∀ x,InR n x->x≠u->ψ x=φ x):∃ R',Cyc ψ (n+1) R'∧R'.length=R.length:=by
 obtain ⟨R1,c1,c2,R2,rfl⟩:=split_flat ((C.mem u).mpr hu)
 have eF:(R1++(c1++u :: c2) :: R2).flatten=R1.flatten++(c1++u :: c2)++R2.flatten:=by simp
 have eG:(R1++(c1++u :: (n:Int) :: c2) :: R2).flatten=R1.flatten++(c1++u :: (n:Int) :: c2)++R2.flatten:=by simp
 have nn:(n:Int)∉(R1++(c1++u :: c2) :: R2).flatten:=fun z=>by have:=(C.mem _).mp z; omega
 have inR:∀ x,x∈(R1++(c1++u :: c2) :: R2).flatten->InR n x:=fun x hx=>(C.mem x).mp hx
 have cr:=C.ring (c1++u :: c2) (by simp)
 have nd:=C.nd
 rw [eF] at nd nn inR
 refine ⟨R1++(c1++u :: (n:Int) :: c2) :: R2,⟨?_,fun x=>?_,fun c hc=>?_⟩,by simp⟩
 ·rw [eG]
  have p:List.Perm (R1.flatten++(c1++u :: (n:Int) :: c2)++R2.flatten) ((n:Int) :: (R1.flatten++(c1++u :: c2)++R2.flatten)):=by
   have q:List.Perm (c1++u :: (n:Int) :: c2) ((n:Int) :: (c1++u :: c2)):=by
    have e:c1++u :: (n:Int) :: c2=(c1++[u])++(n:Int) :: c2:=by simp
    rw [e]
    refine List.perm_middle.trans (List.Perm.cons _ ?_)
    exact List.Perm.of_eq (by simp)
   refine ((q.append_left _).append_right _).trans ?_
   have e2:R1.flatten++(n:Int) :: (c1++u :: c2)++R2.flatten=R1.flatten++(n:Int) :: ((c1++u :: c2)++R2.flatten):=by simp
   rw [e2]
   refine List.perm_middle.trans (List.Perm.cons _ ?_)
   exact List.Perm.of_eq (by simp)
  exact p.nodup_iff.mpr (List.nodup_cons.mpr ⟨nn,nd⟩)
 ·rw [in_succ,←C.mem x,eF,eG]
  simp only [List.mem_append,List.mem_cons]
  constructor
  ·rintro ((a | (a | a | a | a)) | a) <;> simp_all
  ·rintro (((a | (a | a | a)) | a) | a) <;> simp_all
 ·rcases List.mem_append.mp hc with z | z
  ·have r:=C.ring c (by simp [z])
   refine ⟨r.ne,path_congr (fun x hx=>h3 x (inR x ?_) fun e=>?_) r.pa⟩
   ·simp only [List.mem_append]; exact .inl (.inl (List.mem_flatten.mpr ⟨c,z,hx⟩))
   ·rw [nd_app,nd_app] at nd
    exact nd.1.2.2 x (List.mem_flatten.mpr ⟨c,z,hx⟩) (by rw [e]; simp)
  rcases List.mem_cons.mp z with rfl | z
  ·have pa:=cr.pa
   have hh:(c1++u :: (n:Int) :: c2).headD 0=(c1++u :: c2).headD 0:=by cases c1 <;> rfl
   rw [path_app] at pa
   have nd':(c1++u :: c2).Nodup:=(nd_app.mp (nd_app.mp nd).1).2.1
   have c1u:∀ x∈c1,x≠u:=fun x hx e=>(nd_app.mp nd').2.2 x hx (by rw [e]; simp)
   have c2u:∀ x∈c2,x≠u:=fun x hx e=>(List.nodup_cons.mp (nd_app.mp nd').2.1).1 (e ▸ hx)
   refine ⟨by simp,?_⟩
   rw [hh,path_app]
   refine ⟨path_congr (fun x hx=>h3 x (inR x (by simp [hx])) (c1u x hx)) pa.1,h1,h2.trans pa.2.1,path_congr (fun x hx=>h3 x (inR x (by simp [hx])) (c2u x hx)) pa.2.2⟩
  ·have r:=C.ring c (by simp [z])
   refine ⟨r.ne,path_congr (fun x hx=>h3 x (inR x ?_) fun e=>?_) r.pa⟩
   ·simp only [List.mem_append]; exact .inr (List.mem_flatten.mpr ⟨c,z,hx⟩)
   ·rw [nd_app] at nd
    exact nd.2.2 u (by simp) (e ▸ List.mem_flatten.mpr ⟨c,z,hx⟩)
theorem Cyc.fix {φ ψ:Int->Int} {n:Nat} {R:List (List Int)} (C:Cyc φ n R) (h1:ψ n=n) (h3:∀ x,InR n x->ψ x=φ x):∃ R',Cyc ψ (n+1) R'∧R'.length=R.length+1:=by
 refine ⟨R++[[(n:Int)]],⟨?_,fun x=>?_,fun c hc=>?_⟩,by simp⟩
 ·rw [List.flatten_append,nd_app]
  refine ⟨C.nd,by simp,fun x hx hn=>?_⟩
  have:=(C.mem x).mp hx
  simp at hn
  omega
 ·rw [in_succ,←C.mem x,List.flatten_append,List.mem_append]
  simp
 ·rcases List.mem_append.mp hc with z | z
  ·have r:=C.ring c z
   exact ⟨r.ne,path_congr (fun x hx=>h3 x ((C.mem x).mp (List.mem_flatten.mpr ⟨c,z,hx⟩))) r.pa⟩
  ·rw [List.mem_singleton.mp z]
   exact ⟨by simp,h1,trivial⟩
theorem swap_one {φ ψ:Int->Int} {c1 c2 c3:List Int} {a b:Int} (nd:(c1++a :: (c2++b :: c3)).Nodup) (r:RingC φ (c1++a :: (c2++b :: c3))) (ha:ψ a=φ b) (hb:ψ b=φ a) (h3:∀ x∈c1++a :: (c2++b :: c3),x≠a->x≠b->ψ x=φ x):RingC ψ (c1++a :: c3)∧RingC ψ (c2++[b]):=by
 have pa:=r.pa
 rw [path_app] at pa
 obtain ⟨p1,pa,p2⟩:=pa
 rw [path_app] at p2
 obtain ⟨p2,pb,p3⟩:=p2
 obtain ⟨n1,n2,n3⟩:=nd_app.mp nd
 obtain ⟨n4,n5⟩:=List.nodup_cons.mp n2
 obtain ⟨n6,n7,n8⟩:=nd_app.mp n5
 obtain ⟨n9,n10⟩:=List.nodup_cons.mp n7
 have k1:∀ x∈c1,ψ x=φ x:=fun x hx=>h3 x (by simp [hx]) (fun e=>n3 x hx (by rw [e]; simp)) (fun e=>n3 x hx (by rw [e]; simp))
 have k2:∀ x∈c2,ψ x=φ x:=fun x hx=>h3 x (by simp [hx]) (fun e=>n4 (by rw [←e]; simp [hx])) (fun e=>n8 x hx (by rw [e]; simp))
 have k3:∀ x∈c3,ψ x=φ x:=fun x hx=>h3 x (by simp [hx]) (fun e=>n4 (by rw [←e]; simp [hx])) (fun e=>n9 (e ▸ hx))
 have hh:(c1++a :: c3).headD 0=(c1++a :: (c2++b :: c3)).headD 0:=by cases c1 <;> rfl
 refine ⟨⟨by simp,?_⟩,⟨by simp,?_⟩⟩
 ·rw [hh,path_app]
  exact ⟨path_congr k1 p1,ha.trans pb,path_congr k3 p3⟩
 ·rw [path_app]
  have e:(c2++b :: c3).headD ((c1++a :: (c2++b :: c3)).headD 0)=(c2++[b]).headD 0:=by cases c2 <;> rfl
  rw [e] at pa
  exact ⟨path_congr k2 p2,hb.trans pa,trivial⟩
theorem Cyc.swap {φ ψ:Int->Int} {n:Nat} {R:List (List Int)} {a b:Int} {c:List Int} (C:Cyc φ n R) (hc:c∈R) (am:a∈c) (bm:b∈c) (ab:a≠b) (ha:ψ a=φ b) (hb:ψ b=φ a) (h3:∀ x,InR n x->x≠a->x≠b->ψ x=φ x):∃ R',Cyc ψ n R'∧R'.length=R.length+1:=by
 obtain ⟨R1,R2,rfl⟩:=List.append_of_mem hc
 have eF:∀ c,(R1++c :: R2).flatten=R1.flatten++c++R2.flatten:=fun c=>by simp
 have nd:=C.nd
 rw [eF] at nd
 obtain ⟨m1,m2,m3⟩:=nd_app.mp nd
 obtain ⟨m4,m5,m6⟩:=nd_app.mp m1
 have inc:∀ x∈c,InR n x:=fun x hx=>(C.mem x).mp (by rw [eF]; simp [hx])
 have r:=C.ring c (by simp)
 have key:∃ d e,RingC ψ d∧RingC ψ e∧List.Perm (d++e) c:=by
  obtain ⟨c1,c2,rfl⟩:=List.append_of_mem am
  rcases List.mem_append.mp bm with z | z
  ·obtain ⟨d1,d2,rfl⟩:=List.append_of_mem z
   have e0:d1++b :: d2++a :: c2=d1++b :: (d2++a :: c2):=by simp
   rw [e0] at r m5 inc ⊢
   obtain ⟨x,y⟩:=swap_one m5 r hb ha (fun x hx n1 n2=>h3 x (inc x hx) n2 n1)
   refine ⟨_,_,x,y,?_⟩
   have:d1++b :: c2++(d2++[a])=d1++b :: (c2++(d2++[a])):=by simp
   rw [this]
   refine List.Perm.append_left _ (List.Perm.cons _ ?_)
   refine List.perm_append_comm.trans ?_
   simp
  ·rcases List.mem_cons.mp z with rfl | z
   ·exact absurd rfl ab
   ·obtain ⟨d1,d2,rfl⟩:=List.append_of_mem z
    obtain ⟨x,y⟩:=swap_one m5 r ha hb (fun x hx n1 n2=>h3 x (inc x hx) n1 n2)
    refine ⟨_,_,x,y,?_⟩
    have:c1++a :: d2++(d1++[b])=c1++a :: (d2++(d1++[b])):=by simp
    rw [this]
    refine List.Perm.append_left _ (List.Perm.cons _ ?_)
    refine List.perm_append_comm.trans ?_
    simp
 obtain ⟨d,e,rd,re,p⟩:=key
 have pf:List.Perm (R1++d :: e :: R2).flatten (R1++c :: R2).flatten:=by
  rw [eF,show (R1++d :: e :: R2).flatten=R1.flatten++(d++e)++R2.flatten by simp]
  exact (p.append_left _).append_right _
 refine ⟨R1++d :: e :: R2,⟨pf.nodup_iff.mpr C.nd,fun x=>(pf.mem_iff).trans (C.mem x),fun g hg=>?_⟩,by simp; omega⟩
 have far:∀ g,g∈R1∨g∈R2->RingC ψ g:=fun g hg=>by
  have rg:=C.ring g (by rcases hg with z | z <;> simp [z])
  refine ⟨rg.ne,path_congr (fun x hx=>?_) rg.pa⟩
  have xn:x∉c:=fun z=>by
   rcases hg with w | w
   ·exact m6 x (List.mem_flatten.mpr ⟨g,w,hx⟩) z
   ·exact m3 x (by simp [z]) (List.mem_flatten.mpr ⟨g,w,hx⟩)
  refine h3 x ((C.mem x).mp ?_) (fun z=>xn (z ▸ am)) (fun z=>xn (z ▸ bm))
  rcases hg with w | w
  ·exact List.mem_flatten.mpr ⟨g,by simp [w],hx⟩
  ·exact List.mem_flatten.mpr ⟨g,by simp [w],hx⟩
 rcases List.mem_append.mp hg with z | z
 ·exact far g (.inl z)
 rcases List.mem_cons.mp z with rfl | z
 ·exact rd
 rcases List.mem_cons.mp z with rfl | z
 ·exact re
 ·exact far g (.inr z)
theorem RingC.itn {φ:Int->Int} {c:List Int} (h:RingC φ c) {x:Int} (hx:x∈c):∀ k,itn φ k x∈c
 | 0=>hx
 | k+1=>h.fwd (h.itn hx k)
theorem path_reach {φ:Int->Int} {y:Int}:∀ {l:List Int} {a:Int},Path φ (a :: l) y->∀ x∈a :: l,∃ k,itn φ k a=x
 | l,a,g,x,h=>by
  rcases List.mem_cons.mp h with rfl | h
  ·exact ⟨0,rfl⟩
  ·match l,g,h with
   | b :: l,g,h =>
    obtain ⟨k,hk⟩:=path_reach g.2 x h
    have e:φ a=b:=g.1
    refine ⟨k+1,?_⟩
    rw [←hk,←e]
    have:∀ k,Mth.itn φ (k+1) a=Mth.itn φ k (φ a):=fun k=>by
     induction k with
     | zero=>rfl
     | succ k ih=>show φ (Mth.itn φ (k+1) a)=φ (Mth.itn φ k (φ a)); rw [ih]
    exact this k
def leastL:List Int->Int
 | []=>0
 | [a]=>a
 | a :: l=>min a (leastL l)
theorem leastL_ok:∀ {l:List Int},l≠[]->leastL l∈l∧∀ x∈l,leastL l≤x
 | [a],_=>by simp [leastL]
 | a :: b :: l,_=>by
  obtain ⟨h1,h2⟩:=leastL_ok (l:=b :: l) (by simp)
  have e:leastL (a :: b :: l)=min a (leastL (b :: l)):=rfl
  rw [e]
  constructor
  ·rcases Int.le_total a (leastL (b :: l)) with z | z
   ·rw [Int.min_eq_left z]; simp
   ·rw [Int.min_eq_right z]; exact List.mem_cons_of_mem _ h1
  ·intro x hx
   rcases List.mem_cons.mp hx with rfl | hx
   ·exact Int.min_le_left _ _
   ·exact Int.le_trans (Int.min_le_right _ _) (h2 x hx)
theorem nd_heads {f:List Int->Int}:∀ {R:List (List Int)},R.flatten.Nodup->(∀ c∈R,f c∈c)->(R.map f).Nodup
 | [],_,_=>by simp
 | c :: R,nd,h=>by
  rw [List.flatten_cons,nd_app] at nd
  rw [List.map_cons,List.nodup_cons]
  refine ⟨fun z=>?_,nd_heads nd.2.1 fun d hd=>h d (by simp [hd])⟩
  obtain ⟨d,hd,e⟩:=List.mem_map.mp z
  exact nd.2.2 (f c) (h c (by simp)) (e ▸ List.mem_flatten.mpr ⟨d,hd,h d (by simp [hd])⟩)
theorem Cyc.count {φ:Int->Int} {n:Nat} {R:List (List Int)} (P:Perm1 φ n) (C:Cyc φ n R):(landsF φ n).length=R.length:=by
 have L:=landsF_ok P n (Nat.le_refl _)
 have hl:∀ c∈landsF φ n,c.headD 0∈c:=fun c hc=>by
  obtain ⟨s,hs,_,e,_⟩:=L.of c hc
  have:=ring_self P hs
  rw [←e] at this
  cases c with
  | nil=>cases this
  | cons a l=>simp
 have n1:=nd_heads L.nd hl
 have n2:(R.map leastL).Nodup:=nd_heads C.nd fun c hc=>(leastL_ok (C.ring c hc).ne).1
 have key:∀ c∈R,∀ r∈landsF φ n,∀ x,x∈c->x∈r->leastL c=r.headD 0:=by
  intro c hc r hr x xc xr
  obtain ⟨⟨s,hs⟩,hd,hle⟩:=lands_of P hr
  have cin:∀ y∈c,InR n y:=fun y hy=>(C.mem y).mp (List.mem_flatten.mpr ⟨c,hc,hy⟩)
  have rc:∀ y∈r,y∈c:=by
   intro y hy
   have sc:r.headD 0∈c:=by
    rw [hd] at xr
    have:∀ k,itn φ k x∈c:=(C.ring c hc).itn xc
    obtain ⟨k,_,hk⟩:=ringL_mem.mp xr
    obtain ⟨m,hm,pm⟩:=per_ex P (s:=r.headD 0) ⟨s,hs⟩
    have hk':itn φ k (r.headD 0)=x:=hk
    obtain ⟨j,hj⟩:∃ j,itn φ (j+k) (r.headD 0)=r.headD 0:=by
     refine ⟨m*(k+1)-k,?_⟩
     have le:k≤m*(k+1):=by
      have:=pm.1
      have:1*(k+1)≤m*(k+1):=Nat.mul_le_mul_right _ pm.1
      omega
     rw [Nat.sub_add_cancel le]
     have:∀ t,itn φ (m*t) (r.headD 0)=r.headD 0:=fun t=>by
      induction t with
      | zero=>rfl
      | succ t ih =>
       rw [Nat.mul_succ,Nat.add_comm]
       have add:∀ a b z,itn φ (a+b) z=itn φ a (itn φ b z):=fun a b z=>by
        induction a with
        | zero=>rw [Nat.zero_add]; rfl
        | succ a iha=>rw [Nat.succ_add]; show φ _=φ _; rw [iha]
       rw [add,ih]
       exact pm.2.1
     exact this _
    have add:∀ a b z,itn φ (a+b) z=itn φ a (itn φ b z):=fun a b z=>by
     induction a with
     | zero=>rw [Nat.zero_add]; rfl
     | succ a iha=>rw [Nat.succ_add]; show φ _=φ _; rw [iha]
    rw [add,hk'] at hj
    rw [←hj]
    exact this j
   rw [hd] at hy
   obtain ⟨k,_,hk⟩:=ringL_mem.mp hy
   rw [←hk]
   exact (C.ring c hc).itn sc k
  have cr:∀ y∈c,y∈r:=by
   intro y hy
   match c,(C.ring c hc),xc,hy with
   | a :: l,q,xc,hy =>
    obtain ⟨k,hk⟩:=path_reach q.pa x xc
    obtain ⟨j,hj⟩:=path_reach q.pa y hy
    have ha:InR n a:=cin a (by simp)
    have ar:a∈r:=by
     have:∀ k,itn φ k a∈r->a∈r:=fun k=>by
      induction k with
      | zero=>exact id
      | succ k ih =>
       intro h
       refine ih ?_
       rw [hd] at h ⊢
       exact ring_bwd P ⟨s,hs⟩ (itn_in P ha k) h
     exact this k (by rw [hk]; exact xr)
    rw [←hj]
    have:∀ k,itn φ k a∈r:=fun k=>by
     induction k with
     | zero=>exact ar
     | succ k ih=>rw [hd] at ih ⊢; exact ring_fwd P ⟨s,hs⟩ ih
    exact this j
  obtain ⟨l1,l2⟩:=leastL_ok (C.ring c hc).ne
  have h1:=hle (leastL c) (cr _ l1)
  have h2:=l2 (r.headD 0) (rc _ (hl r hr))
  omega
 have s1:∀ x∈(landsF φ n).map (fun c=>c.headD 0),x∈R.map leastL:=fun x hx=>by
  obtain ⟨r,hr,rfl⟩:=List.mem_map.mp hx
  have hi:InR n (r.headD 0):=(lands_of P hr).1
  obtain ⟨c,hc,xc⟩:=List.mem_flatten.mp ((C.mem _).mpr hi)
  exact List.mem_map.mpr ⟨c,hc,key c hc r hr _ xc (hl r hr)⟩
 have s2:∀ x∈R.map leastL,x∈(landsF φ n).map (fun c=>c.headD 0):=fun x hx=>by
  obtain ⟨c,hc,rfl⟩:=List.mem_map.mp hx
  have l1:=(leastL_ok (C.ring c hc).ne).1
  have hi:InR n (leastL c):=(C.mem _).mp (List.mem_flatten.mpr ⟨c,hc,l1⟩)
  obtain ⟨r,hr,xr⟩:=List.mem_flatten.mp ((lands_mem P).mpr hi)
  exact List.mem_map.mpr ⟨r,hr,(key c hc r hr _ l1 xr).symm⟩
 have a:=sub_len _ _ n1 s1
 have b:=sub_len _ _ n2 s2
 rw [List.length_map,List.length_map] at a b
 omega
end Mth
namespace Mth
def cp:Int->List Int->List (Int×Int)
 | _,[]=>[]
 | y,a :: l=>(a,y) :: cp a l
theorem cp_len:∀ (y:Int) (l:List Int),(cp y l).length=l.length
 | _,[]=>rfl
 | _,a :: l=>by simp [cp,cp_len a l]
theorem cp_get:∀ (y:Int) (l:List Int) (k:Nat),k<l.length->(cp y l)[k]?=some (l.getD k 0,if k=0 then y else l.getD (k-1) 0)
 | _,a :: l,0,_=>rfl
 | y,a :: l,k+1,h=>by
  show (cp a l)[k]?=_
  rw [cp_get a l k (by simpa using h)]
  cases k with
  | zero=>rfl
  | succ k=>simp
theorem rowP_cp (row:List Int):rowP row=cp (row.getLastD 0) row:=by
 refine List.ext_getElem? fun k=>?_
 by_cases h:k<row.length
 ·rw [cp_get _ _ _ h]
  unfold rowP prevAt
  rw [List.getElem?_map,List.getElem?_range h]
  show some (row.getD k 0,row.getD (if k=0 then row.length-1 else k-1) 0)=_
  congr 2
  by_cases z:k=0
  ·rw [if_pos z,if_pos z]
   rw [List.getLastD_eq_getLast?,List.getLast?_eq_getElem?,List.getD_eq_getElem?_getD]
  ·rw [if_neg z,if_neg z]
 ·rw [List.getElem?_eq_none (by rw [rowP_len]; omega),List.getElem?_eq_none (by rw [cp_len]; omega)]
theorem cp_app:∀ (y:Int) (l m:List Int),cp y (l++m)=cp y l++cp (l.getLastD y) m
 | _,[],m=>rfl
 | y,a :: l,m=>by
  show (a,y) :: cp a (l++m)=(a,y) :: (cp a l++cp ((a :: l).getLastD y) m)
  rw [cp_app a l m,show (a :: l).getLastD y=l.getLastD a by cases l <;> rfl]
theorem cp_map (ρ:Int->Int):∀ (y:Int) (l:List Int),cp (ρ y) (l.map ρ)=(cp y l).map fun p=>(ρ p.1,ρ p.2)
 | _,[]=>rfl
 | y,a :: l=>by
  show (ρ a,ρ y) :: cp (ρ a) (l.map ρ)=_
  rw [cp_map ρ a l]; rfl
def pr (ts:List (List Int)) (x:Int):Int:=(lk (aheadL ts) x).getD 0
theorem nxt_pr (ts:List (List Int)) (e:Int):nxt ts e=pr ts (oth e):=rfl
theorem pr_of {ts:List (List Int)} (nd:ts.flatten.Nodup) {x y:Int} (h:(x,y)∈aheadL ts):pr ts x=y:=by
 unfold pr
 rw [lk_of (by rw [aheadL_fst]; exact nd) h]; rfl
theorem pr_mem {ts:List (List Int)} (nd:ts.flatten.Nodup) {x:Int} (h:x∈ts.flatten):(x,pr ts x)∈aheadL ts:=by
 rw [←aheadL_fst] at h
 obtain ⟨v,hv⟩:=lk_some h
 have:=lk_mem hv
 unfold pr
 rw [hv]; exact this
theorem ahead_app (A B:List (List Int)):aheadL (A++B)=aheadL A++aheadL B:=by simp [aheadL]
theorem ahead_mid (A B:List (List Int)) (r:List Int):aheadL (A++r :: B)=aheadL A++(rowP r++aheadL B):=by simp [aheadL]
theorem flat_mid (A B:List (List Int)) (r:List Int):(A++r :: B).flatten=A.flatten++(r++B.flatten):=by simp
theorem pr_ins {A B:List (List Int)} {t1 t2:List Int} {s e:Int} (nd:(A++(t1++s :: t2) :: B).flatten.Nodup) (he:e∉(A++(t1++s :: t2) :: B).flatten) :
  (A++(t1++e :: s :: t2) :: B).flatten.Nodup∧(∀ x,x∈(A++(t1++e :: s :: t2) :: B).flatten↔x∈(A++(t1++s :: t2) :: B).flatten∨x=e) ∧
  pr (A++(t1++e :: s :: t2) :: B) s=e∧pr (A++(t1++e :: s :: t2) :: B) e=pr (A++(t1++s :: t2) :: B) s ∧
  ∀ x,x∈(A++(t1++s :: t2) :: B).flatten->x≠s->pr (A++(t1++e :: s :: t2) :: B) x=pr (A++(t1++s :: t2) :: B) x:=by
 have p:List.Perm (A++(t1++e :: s :: t2) :: B).flatten (e :: (A++(t1++s :: t2) :: B).flatten):=by
  rw [flat_mid,flat_mid,show A.flatten++(t1++e :: s :: t2++B.flatten)=(A.flatten++t1)++e :: (s :: t2++B.flatten) by simp]
  exact List.perm_middle.trans (List.Perm.cons _ (List.Perm.of_eq (by simp)))
 have nd':(A++(t1++e :: s :: t2) :: B).flatten.Nodup:=p.nodup_iff.mpr (List.nodup_cons.mpr ⟨he,nd⟩)
 have hl:(t1++e :: s :: t2).getLastD 0=(t1++s :: t2).getLastD 0:=by
  rw [List.getLastD_eq_getLast?,List.getLastD_eq_getLast?,List.getLast?_append,List.getLast?_append]
  rw [show (e :: s :: t2).getLast?=(s :: t2).getLast? by simp [List.getLast?_cons_cons]]
 generalize hy:(t1++s :: t2).getLastD 0=y at hl
 have r1:rowP (t1++s :: t2)=cp y t1++(s,t1.getLastD y) :: cp s t2:=by rw [rowP_cp,hy,cp_app]; rfl
 have r2:rowP (t1++e :: s :: t2)=cp y t1++(e,t1.getLastD y) :: (s,e) :: cp s t2:=by rw [rowP_cp,hl,cp_app]; rfl
 have ps:pr (A++(t1++s :: t2) :: B) s=t1.getLastD y:=pr_of nd (by rw [ahead_mid,r1]; simp)
 refine ⟨nd',fun x=>p.mem_iff.trans (by simp only [List.mem_cons]; exact or_comm),pr_of nd' (by rw [ahead_mid,r2]; simp),?_,fun x hx xs=>?_⟩
 ·rw [ps]
  exact pr_of nd' (by rw [ahead_mid,r2]; simp)
 ·refine pr_of nd' ?_
  have m:=pr_mem nd hx
  rw [ahead_mid,r1] at m
  rw [ahead_mid,r2]
  simp only [List.mem_append,List.mem_cons,Prod.mk.injEq] at m ⊢
  rcases m with z | (z | z | z) | z
  ·exact .inl z
  ·exact .inr (.inl (.inl z))
  ·exact absurd z.1 xs
  ·exact .inr (.inl (.inr (.inr (.inr z))))
  ·exact .inr (.inr z)
theorem pr_ren {A B:List (List Int)} {t:List Int} {a f:Int} (nd:(A++t :: B).flatten.Nodup) (ha:a∈t) (hf:f∉(A++t :: B).flatten) :
  (A++(t.map fun x=>if x=a then f else x) :: B).flatten.Nodup∧(∀ x,x∈(A++(t.map fun x=>if x=a then f else x) :: B).flatten↔(x∈(A++t :: B).flatten∧x≠a)∨x=f) ∧
  pr (A++(t.map fun x=>if x=a then f else x) :: B) f=(if pr (A++t :: B) a=a then f else pr (A++t :: B) a) ∧
  ∀ x,x∈(A++t :: B).flatten->x≠a->pr (A++(t.map fun x=>if x=a then f else x) :: B) x=(if pr (A++t :: B) x=a then f else pr (A++t :: B) x):=by
 generalize hρ:(fun x=>if x=a then f else x)=ρ
 have ra:ρ a=f:=by rw [←hρ]; simp
 have rx:∀ x,x≠a->ρ x=x:=fun x h=>by rw [←hρ]; simp [h]
 have rr:∀ z,(if z=a then f else z)=ρ z:=fun z=>by rw [←hρ]
 rw [flat_mid] at nd hf
 obtain ⟨n1,n2,n3⟩:=nd_app.mp nd
 obtain ⟨n4,n5,n6⟩:=nd_app.mp n2
 simp only [List.mem_append,not_or] at hf
 have inj:∀ x y,x∈t->y∈t->ρ x=ρ y->x=y:=fun x y hx hy e=>by
  by_cases xa:x=a
  ·by_cases ya:y=a
   ·rw [xa,ya]
   ·rw [xa,ra,rx y ya] at e; exact absurd (e ▸ hy) hf.2.1
  ·by_cases ya:y=a
   ·rw [ya,ra,rx x xa] at e; exact absurd (e ▸ hx) hf.2.1
   ·rwa [rx x xa,rx y ya] at e
 have ndm:(t.map ρ).Nodup:=by
  unfold List.Nodup
  rw [List.pairwise_map]
  exact List.Pairwise.imp_of_mem (fun {x y} hx hy h e=>h (inj x y hx hy e)) n4
 have mm:∀ x,x∈t.map ρ↔(x∈t∧x≠a)∨x=f:=fun x=>by
  rw [List.mem_map]
  constructor
  ·rintro ⟨y,hy,rfl⟩
   by_cases ya:y=a
   ·right; rw [ya,ra]
   ·left; rw [rx y ya]; exact ⟨hy,ya⟩
  ·rintro (⟨h1,h2⟩ | rfl)
   ·exact ⟨x,h1,rx x h2⟩
   ·exact ⟨a,ha,ra⟩
 have aA:a∉A.flatten:=fun z=>n3 a z (by simp [ha])
 have aB:a∉B.flatten:=fun z=>n6 a ha z
 have nd':(A++(t.map ρ) :: B).flatten.Nodup:=by
  rw [flat_mid,nd_app,nd_app]
  refine ⟨n1,⟨ndm,n5,fun x hx=>?_⟩,fun x hx=>?_⟩
  ·rcases (mm x).mp hx with z | z
   ·exact n6 x z.1
   ·rw [z]; exact hf.2.2
  ·intro z
   rcases List.mem_append.mp z with z | z
   ·rcases (mm x).mp z with w | w
    ·exact n3 x hx (by simp [w.1])
    ·exact hf.1 (w ▸ hx)
   ·exact n3 x hx (by simp [z])
 have row:rowP (t.map ρ)=(rowP t).map fun p=>(ρ p.1,ρ p.2):=by
  rw [rowP_cp,rowP_cp,←cp_map]
  congr 1
  cases t with
  | nil=>cases ha
  | cons b l =>
   rw [List.getLastD_eq_getLast?,List.getLastD_eq_getLast?,List.getLast?_map]
   rw [List.getLast?_cons]; rfl
 have old:∀ {x y},(x,y)∈aheadL (A++t :: B)->x∈(A++t :: B).flatten∧y∈(A++t :: B).flatten:=fun {x y} h=>by
  constructor
  ·rw [←aheadL_fst]; exact List.mem_map.mpr ⟨_,h,rfl⟩
  ·exact (aheadL_snd _).mem_iff.mp (List.mem_map.mpr ⟨_,h,rfl⟩)
 have ndO:(A++t :: B).flatten.Nodup:=by rw [flat_mid]; exact nd
 have snd_in:∀ {L:List (List Int)} {x y:Int},(x,y)∈aheadL L->y∈L.flatten:=fun {L x y} h=>(aheadL_snd _).mem_iff.mp (List.mem_map.mpr ⟨_,h,rfl⟩)
 have go:∀ x y,(x,y)∈aheadL (A++t :: B)->(ρ x,ρ y)∈aheadL (A++(t.map ρ) :: B):=fun x y h=>by
  have hx:=(old h).1
  rw [ahead_mid] at h ⊢
  rw [row]
  rcases List.mem_append.mp h with z | z
  ·have xA:x∈A.flatten:=by rw [←aheadL_fst]; exact List.mem_map.mpr ⟨_,z,rfl⟩
   have yA:=snd_in z
   rw [rx x (fun e=>aA (e ▸ xA)),rx y (fun e=>aA (e ▸ yA))]
   exact List.mem_append_left _ z
  rcases List.mem_append.mp z with z | z
  ·exact List.mem_append_right _ (List.mem_append_left _ (List.mem_map.mpr ⟨_,z,rfl⟩))
  ·have xB:x∈B.flatten:=by rw [←aheadL_fst]; exact List.mem_map.mpr ⟨_,z,rfl⟩
   have yB:=snd_in z
   rw [rx x (fun e=>aB (e ▸ xB)),rx y (fun e=>aB (e ▸ yB))]
   exact List.mem_append_right _ (List.mem_append_right _ z)
 have am:a∈(A++t :: B).flatten:=by rw [flat_mid]; simp [ha]
 refine ⟨nd',fun x=>?_,?_,fun x hx xa=>?_⟩
 ·rw [flat_mid,flat_mid]
  simp only [List.mem_append,mm]
  constructor
  ·rintro (z | (z | z) | z)
   ·exact .inl ⟨.inl z,fun e=>aA (e ▸ z)⟩
   ·exact .inl ⟨.inr (.inl z.1),z.2⟩
   ·exact .inr z
   ·exact .inl ⟨.inr (.inr z),fun e=>aB (e ▸ z)⟩
  ·rintro (⟨z | z | z,w⟩ | z)
   ·exact .inl z
   ·exact .inr (.inl (.inl ⟨z,w⟩))
   ·exact .inr (.inr z)
   ·exact .inr (.inl (.inr z))
 ·rw [rr]
  have:=go _ _ (pr_mem ndO am)
  rw [ra] at this
  exact pr_of nd' this
 ·rw [rr]
  have:=go _ _ (pr_mem ndO hx)
  rw [rx x xa] at this
  exact pr_of nd' this
theorem pr_push1 {ts:List (List Int)} {a:Int} (nd:ts.flatten.Nodup) (ha:a∉ts.flatten):(ts++[[a]]).flatten.Nodup∧pr (ts++[[a]]) a=a∧∀ x,x∈ts.flatten->pr (ts++[[a]]) x=pr ts x:=by
 have nd':(ts++[[a]]).flatten.Nodup:=by
  rw [List.flatten_append,nd_app]
  exact ⟨nd,by simp,fun x hx h=>ha (by simp at h; exact h ▸ hx)⟩
 refine ⟨nd',pr_of nd' ?_,fun x hx=>pr_of nd' ?_⟩
 ·rw [ahead_app]; exact List.mem_append_right _ (by simp [aheadL,rowP_cp,cp])
 ·rw [ahead_app]; exact List.mem_append_left _ (pr_mem nd hx)
theorem pr_push2 {ts:List (List Int)} {a b:Int} (nd:ts.flatten.Nodup) (ha:a∉ts.flatten) (hb:b∉ts.flatten) (ab:a≠b):(ts++[[a,b]]).flatten.Nodup∧pr (ts++[[a,b]]) a=b∧pr (ts++[[a,b]]) b=a∧∀ x,x∈ts.flatten->pr (ts++[[a,b]]) x=pr ts x:=by
 have nd':(ts++[[a,b]]).flatten.Nodup:=by
  rw [List.flatten_append,nd_app]
  refine ⟨nd,by simp [ab],fun x hx h=>?_⟩
  simp at h
  rcases h with z | z
  ·exact ha (z ▸ hx)
  ·exact hb (z ▸ hx)
 refine ⟨nd',pr_of nd' ?_,pr_of nd' ?_,fun x hx=>pr_of nd' ?_⟩
 ·rw [ahead_app]; exact List.mem_append_right _ (by simp [aheadL,rowP_cp,cp])
 ·rw [ahead_app]; exact List.mem_append_right _ (by simp [aheadL,rowP_cp,cp])
 ·rw [ahead_app]; exact List.mem_append_left _ (pr_mem nd hx)
end Mth
namespace Mth
structure Gn (ts:List (List Int)) (hs:List Nat):Prop where
 ev:hs.length % 2=0
 n4:4≤hs.length
 two:2≤ts.length
 nd:ts.flatten.Nodup
 mem:∀ x,x∈ts.flatten↔InR hs.length x
 home:∀ (p:Nat) (t:List Int),ts[p]?=some t->∀ x:Int,x∈t->hs[x.toNat]?=some p
 ne:∀ t∈ts,t≠[]
 few:2*ts.length≤hs.length
 lo:hs[0]?=some 0∧hs[1]?=some 1
 hang:∀ S:Nat->Prop,S 0->(∀ k,1≤k->∀ p q,hs[2*k]?=some p->hs[2*k+1]?=some q->(S p↔S q))->∀ p,p<ts.length->S p
 flat:∃ R,Cyc (nxt ts) hs.length R∧2*(R.length+ts.length)=hs.length+4
theorem Gn.turns {ts:List (List Int)} {hs:List Nat} (g:Gn ts hs):Turns hs.length ts:=⟨g.nd,g.mem,g.ev⟩
theorem set_mid {α:Type} {ts:List α} {p:Nat} {r:α} (h:ts[p]?=some r):∃ A B,ts=A++r :: B∧A.length=p∧∀ r',ts.set p r'=A++r' :: B:=by
 obtain ⟨hp,e⟩:=List.getElem?_eq_some_iff.mp h
 refine ⟨ts.take p,ts.drop (p+1),?_,by rw [List.length_take]; omega,fun r'=>?_⟩
 ·rw [←e,List.getElem_cons_drop,List.take_append_drop]
 ·exact List.set_eq_take_append_cons_drop .. |>.trans (by rw [if_pos hp])
theorem oth_even {n:Nat} (h:n % 2=0):oth (n:Int)=(n:Int)+1:=by unfold oth; rw [if_pos (by omega)]
theorem oth_odd {n:Nat} (h:n % 2=0):oth ((n:Int)+1)=n:=by unfold oth; rw [if_neg (by omega)]; omega
theorem oth_inj {x y:Int} (h:oth x=oth y):x=y:=by rw [←oth_oth x,h,oth_oth]
theorem Cyc.ins2 {φ ψ:Int->Int} {n:Nat} {R:List (List Int)} {a:Int} (C:Cyc φ n R) (ha:InR n a) (h1:ψ a=n) (h2:ψ n=(n:Int)+1) (h3:ψ ((n:Int)+1)=φ a) (h4:∀ x,InR n x->x≠a->ψ x=φ x):∃ R',Cyc ψ (n+2) R'∧R'.length=R.length:=by
 have hn:∀ x,InR n x->x≠(n:Int):=fun x h e=>by have:=h.2; omega
 obtain ⟨R1,C1,l1⟩:=C.ins (ψ:=fun x=>if x=n then φ a else ψ x) ha (by show (if a=(n:Int) then φ a else ψ a)=n; rw [if_neg (hn a ha)]; exact h1) (by show (if (n:Int)=n then φ a else ψ n)=φ a; rw [if_pos rfl]) (fun x hx xa=>by show (if x=(n:Int) then φ a else ψ x)=φ x; rw [if_neg (hn x hx)]; exact h4 x hx xa)
 obtain ⟨R2,C2,l2⟩:=C1.ins (ψ:=ψ) (u:=n) ⟨by omega,by omega⟩ (by rw [h2]; push_cast; rfl) (by show ψ ((n+1:Nat):Int)=(if (n:Int)=n then φ a else ψ n); rw [if_pos rfl,←h3]; push_cast; rfl) (fun x hx xn=>by show ψ x=(if x=(n:Int) then φ a else ψ x); rw [if_neg xn])
 exact ⟨R2,C2,by omega⟩
theorem Gn.hung {ts:List (List Int)} {hs:List Nat} (g:Gn ts hs) {p:Nat} {t1 t2:List Int} {s:Int} (hp:ts[p]?=some (t1++s :: t2)) :
  Gn (ts.set p (t1++(hs.length:Int) :: s :: t2)++[[(hs.length:Int)+1]]) (hs++[p]++[ts.length]):=by
 obtain ⟨A,B,eT,lA,eS⟩:=set_mid hp
 have pl:p<ts.length:=(List.getElem?_eq_some_iff.mp hp).1
 have nd0:=g.nd
 have mem0:=g.mem
 generalize hn:hs.length=n at *
 have ev:=g.ev
 rw [hn] at ev
 have em:((n:Nat):Int)∉ts.flatten:=fun z=>by have:=(mem0 _).mp z; omega
 have em1:((n:Nat):Int)+1∉ts.flatten:=fun z=>by have:=(mem0 _).mp z; omega
 have sm:s∈ts.flatten:=List.mem_flatten.mpr ⟨_,List.mem_of_getElem? hp,by simp⟩
 have sR:=(mem0 s).mp sm
 rw [eT] at nd0 em
 obtain ⟨nd1,mem1,q1,q2,q3⟩:=pr_ins nd0 em
 rw [←eT,←eS] at *
 have em1':((n:Nat):Int)+1∉(ts.set p (t1++(n:Int) :: s :: t2)).flatten:=fun z=>by
  rcases (mem1 _).mp z with w | w
  ·exact em1 w
  ·omega
 obtain ⟨nd2,q4,q5⟩:=pr_push1 nd1 em1'
 have q6:∀ x∈ts.flatten,pr (ts.set p (t1++(n:Int) :: s :: t2)++[[(n:Int)+1]]) x=pr (ts.set p (t1++(n:Int) :: s :: t2)) x:=fun x hx=>q5 x ((mem1 x).mpr (.inl hx))
 have lH:(hs++[p]++[ts.length]).length=n+2:=by simp [hn]
 have lT:(ts.set p (t1++(n:Int) :: s :: t2)++[[(n:Int)+1]]).length=ts.length+1:=by simp
 obtain ⟨R,C,eR⟩:=g.flat
 rw [hn] at C eR
 have aR:InR n (oth s):=oth_in ev sR
 have flat:∃ R',Cyc (nxt (ts.set p (t1++(n:Int) :: s :: t2)++[[(n:Int)+1]])) (n+2) R'∧R'.length=R.length:=by
  refine C.ins2 aR ?_ ?_ ?_ fun x hx xa=>?_
  ·rw [nxt_pr,oth_oth,q6 s sm,q1]
  ·rw [nxt_pr,oth_even ev,q4]
  ·rw [nxt_pr,oth_odd ev,q5 _ ((mem1 _).mpr (.inr rfl)),q2,nxt_pr,oth_oth]
  ·have hm:oth x∈ts.flatten:=(mem0 _).mpr (oth_in ev hx)
   rw [nxt_pr,q6 _ hm,q3 _ hm (fun e=>xa (by rw [←e,oth_oth])),nxt_pr]
 obtain ⟨R',C',l'⟩:=flat
 have few:=g.few
 have n4:=g.n4
 rw [hn] at few n4
 have hget:∀ {i q},hs[i]?=some q->(hs++[p]++[ts.length])[i]?=some q:=fun {i q} h=>by
  rw [List.append_assoc,List.getElem?_append_left (List.getElem?_eq_some_iff.mp h).1]; exact h
 refine ⟨by rw [lH]; omega,by rw [lH]; omega,by rw [lT]; have:=g.two; omega,nd2,fun x=>?_,fun q t hq x hx=>?_,fun t ht=>?_,by rw [lT,lH]; omega,⟨hget g.lo.1,hget g.lo.2⟩,fun S S0 hS q hq=>?_,R',by rw [lH]; exact C',by rw [lH,lT,l']; omega⟩
 ·rw [lH,List.flatten_append,List.mem_append,mem1,mem0]
  simp only [List.flatten_cons,List.flatten_nil,List.append_nil,List.mem_singleton,InR]
  omega
 ·rcases Nat.lt_or_ge q ts.length with ql | ql
  ·rw [List.getElem?_append_left (by simpa using ql)] at hq
   by_cases e:p=q
   ·subst e
    rw [List.getElem?_set_self ql] at hq
    cases hq
    by_cases xn:x=n
    ·rw [xn,Int.toNat_natCast,←hn,List.append_assoc,List.getElem?_append_right (Nat.le_refl _)]; simp
    ·refine hget (g.home p _ hp x ?_)
     simp only [List.mem_append,List.mem_cons] at hx ⊢
     rcases hx with z | z | z | z
     ·exact .inl z
     ·exact absurd z xn
     ·exact .inr (.inl z)
     ·exact .inr (.inr z)
   ·rw [List.getElem?_set_ne e] at hq
    exact hget (g.home q t hq x hx)
  ·have:q=ts.length:=by
    have:=(List.getElem?_eq_some_iff.mp hq).1
    rw [lT] at this; omega
   subst this
   rw [List.getElem?_append_right (by simp)] at hq
   simp at hq
   subst hq
   rw [List.mem_singleton.mp hx,show ((n:Int)+1).toNat=n+1 by omega,←hn]
   rw [List.getElem?_append_right (by simp)]; simp
 ·rcases List.mem_append.mp ht with z | z
  ·rcases List.mem_or_eq_of_mem_set z with w | w
   ·exact g.ne t w
   ·rw [w]; simp
  ·rw [List.mem_singleton.mp z]; simp
 ·have h1:=g.hang S S0 (fun k k1 a b ha hb=>hS k k1 a b (hget ha) (hget hb))
  rcases Nat.lt_or_ge q ts.length with ql | ql
  ·exact h1 q ql
  ·have:q=ts.length:=by rw [lT] at hq; omega
   subst this
   have:=hS (n / 2) (by omega) p ts.length (by rw [show 2*(n / 2)=n by omega,←hn,List.append_assoc,List.getElem?_append_right (Nat.le_refl _)]; simp) (by rw [show 2*(n / 2)+1=n+1 by omega,←hn,List.getElem?_append_right (by simp)]; simp)
   exact this.mp (h1 p pl)
end Mth
namespace Mth
structure Gb (ts:List (List Int)) (hs:List Nat):Prop where
 nd:ts.flatten.Nodup
 mem:∀ x,x∈ts.flatten↔InR hs.length x
 home:∀ (p:Nat) (t:List Int),ts[p]?=some t->∀ x:Int,x∈t->hs[x.toNat]?=some p
 ne:∀ t∈ts,t≠[]
theorem Gn.gb {ts:List (List Int)} {hs:List Nat} (g:Gn ts hs):Gb ts hs:=⟨g.nd,g.mem,g.home,g.ne⟩
theorem Gb.ins {ts:List (List Int)} {hs:List Nat} (g:Gb ts hs) {p:Nat} {t1 t2:List Int} {s:Int} (hp:ts[p]?=some (t1++s :: t2)) :
  Gb (ts.set p (t1++(hs.length:Int) :: s :: t2)) (hs++[p])∧pr (ts.set p (t1++(hs.length:Int) :: s :: t2)) s=hs.length∧pr (ts.set p (t1++(hs.length:Int) :: s :: t2)) hs.length=pr ts s ∧
   ∀ x,InR hs.length x->x≠s->pr (ts.set p (t1++(hs.length:Int) :: s :: t2)) x=pr ts x:=by
 obtain ⟨A,B,eT,lA,eS⟩:=set_mid hp
 have pl:p<ts.length:=(List.getElem?_eq_some_iff.mp hp).1
 have nd0:=g.nd
 have mem0:=g.mem
 generalize hn:hs.length=n at *
 have em:((n:Nat):Int)∉ts.flatten:=fun z=>by have:=(mem0 _).mp z; omega
 rw [eT] at nd0 em
 obtain ⟨nd1,mem1,q1,q2,q3⟩:=pr_ins nd0 em
 rw [←eT,←eS] at *
 have lH:(hs++[p]).length=n+1:=by simp [hn]
 have hget:∀ {i q},hs[i]?=some q->(hs++[p])[i]?=some q:=fun {i q} h=>by
  rw [List.getElem?_append_left (List.getElem?_eq_some_iff.mp h).1]; exact h
 refine ⟨⟨nd1,fun x=>?_,fun q t hq x hx=>?_,fun t ht=>?_⟩,q1,q2,fun x hx xs=>q3 x ((mem0 x).mpr hx) xs⟩
 ·rw [lH,mem1,mem0,in_succ]
 ·by_cases e:p=q
  ·subst e
   rw [List.getElem?_set_self pl] at hq
   cases hq
   by_cases xn:x=n
   ·rw [xn,Int.toNat_natCast,←hn,List.getElem?_append_right (Nat.le_refl _)]; simp
   ·refine hget (g.home p _ hp x ?_)
    simp only [List.mem_append,List.mem_cons] at hx ⊢
    rcases hx with z | z | z | z
    ·exact .inl z
    ·exact absurd z xn
    ·exact .inr (.inl z)
    ·exact .inr (.inr z)
  ·rw [List.getElem?_set_ne e] at hq
   exact hget (g.home q t hq x hx)
 ·rcases List.mem_or_eq_of_mem_set ht with w | w
  ·exact g.ne t w
  ·rw [w]; simp
theorem Gn.chord {ts:List (List Int)} {hs:List Nat} (g:Gn ts hs) {p1 p2:Nat} {t1 t2 u1 u2:List Int} {a b:Int} (aR:InR hs.length a) (kb:∃ k,itn (nxt ts) k a=b)
  (h1:ts[p1]?=some (t1++oth a :: t2)) (h2:(ts.set p1 (t1++(hs.length:Int) :: oth a :: t2))[p2]?=some (u1++oth b :: u2)) :
  Gn ((ts.set p1 (t1++(hs.length:Int) :: oth a :: t2)).set p2 (u1++((hs.length:Int)+1) :: oth b :: u2)) (hs++[p1]++[p2]):=by
 have ev:=g.ev
 have n4:=g.n4
 have few:=g.few
 have T:=g.turns
 obtain ⟨R,C,eR⟩:=g.flat
 have bR:InR hs.length b:=by obtain ⟨k,rfl⟩:=kb; exact itn_in T.perm aR k
 obtain ⟨B1,q1,q2,q3⟩:=g.gb.ins h1
 generalize hT1:ts.set p1 (t1++(hs.length:Int) :: oth a :: t2)=ts1 at *
 have lT1:ts1.length=ts.length:=by rw [←hT1]; simp
 have lh:(hs++[p1]).length=hs.length+1:=by simp
 have e1:(((hs++[p1]).length:Nat):Int)=(hs.length:Int)+1:=by rw [lh]; push_cast; rfl
 obtain ⟨B2,r1,r2,r3⟩:=B1.ins h2
 rw [e1] at B2 r1 r2 r3
 rw [lh] at r3
 generalize hT2:ts1.set p2 (u1++((hs.length:Int)+1) :: oth b :: u2)=ts2 at *
 have lT2:ts2.length=ts.length:=by rw [←hT2]; simp [lT1]
 have lH:(hs++[p1]++[p2]).length=hs.length+2:=by simp
 have hget:∀ {i q},hs[i]?=some q->(hs++[p1]++[p2])[i]?=some q:=fun {i q} h=>by
  rw [List.append_assoc,List.getElem?_append_left (List.getElem?_eq_some_iff.mp h).1]; exact h
 have saR:=oth_in ev aR
 have sbR:=oth_in ev bR
 generalize hn:hs.length=n at *
 have up:∀ {x:Int},InR n x->InR (n+1) x:=fun {x} h=>⟨h.1,by have:=h.2; omega⟩
 have w1:nxt ts2 ((n:Int)+1)=nxt ts a:=by
  rw [nxt_pr,oth_odd ev,r3 _ ⟨by omega,by omega⟩ (fun e=>by have:=sbR.2; omega),q2,nxt_pr]
 have w2:nxt ts2 b=(n:Int)+1:=by rw [nxt_pr,r1]
 have w3:∀ x,InR n x->x≠a->x≠b->nxt ts2 x=nxt ts x:=fun x hx xa xb=>by
  have:=oth_in ev hx
  rw [nxt_pr,r3 _ (up this) (fun e=>xb (oth_inj e)),q3 _ this (fun e=>xa (oth_inj e)),nxt_pr]
 have flat:∃ R',Cyc (nxt ts2) (n+2) R'∧R'.length=R.length+1:=by
  have hnn:∀ {x:Int},InR n x->x≠(n:Int):=fun {x} h e=>by have:=h.2; omega
  by_cases ab:a=b
  ·subst ab
   have w4:nxt ts2 n=n:=by rw [nxt_pr,oth_even ev,r2,q1]
   obtain ⟨R1,C1,l1⟩:=C.fix (ψ:=fun x=>if x=(n:Int) then (n:Int) else nxt ts x) (by show (if (n:Int)=n then (n:Int) else _)=n; rw [if_pos rfl]) (fun x hx=>by show (if x=(n:Int) then (n:Int) else nxt ts x)=_; rw [if_neg (hnn hx)])
   obtain ⟨R2,C2,l2⟩:=C1.ins (ψ:=nxt ts2) (u:=a) (up aR) (by rw [w2]; push_cast; rfl) (by show nxt ts2 ((n+1:Nat):Int)=(if a=(n:Int) then (n:Int) else nxt ts a); rw [if_neg (hnn aR),←w1]; push_cast; rfl) (fun x hx xa=>by
    show nxt ts2 x=(if x=(n:Int) then (n:Int) else nxt ts x)
    rcases in_succ.mp hx with z | z
    ·rw [if_neg (hnn z),w3 x z xa xa]
    ·rw [if_pos z,z,w4])
   exact ⟨R2,C2,by omega⟩
  ·have sab:oth b≠oth a:=fun e=>ab (oth_inj e).symm
   have w4:nxt ts2 n=nxt ts b:=by rw [nxt_pr,oth_even ev,r2,q3 _ sbR sab,nxt_pr]
   have w5:nxt ts2 a=n:=by rw [nxt_pr,r3 _ (up saR) (fun e=>sab e.symm),q1]
   obtain ⟨c,hc,ac⟩:=List.mem_flatten.mp ((C.mem a).mpr aR)
   have bc:b∈c:=by obtain ⟨k,rfl⟩:=kb; exact (C.ring c hc).itn ac k
   obtain ⟨R1,C1,l1⟩:=C.swap (ψ:=fun x=>if x=a then nxt ts b else if x=b then nxt ts a else nxt ts x) hc ac bc ab (by show (if a=a then _ else _)=_; rw [if_pos rfl]) (by show (if b=a then _ else if b=b then _ else _)=_; rw [if_neg (fun e=>ab e.symm),if_pos rfl]) (fun x _ xa xb=>by show (if x=a then _ else if x=b then _ else nxt ts x)=_; rw [if_neg xa,if_neg xb])
   obtain ⟨R2,C2,l2⟩:=C1.ins (ψ:=fun x=>if x=a then (n:Int) else if x=(n:Int) then nxt ts b else if x=b then nxt ts a else nxt ts x) aR (by show (if a=a then (n:Int) else _)=n; rw [if_pos rfl]) (by show (if (n:Int)=a then (n:Int) else if (n:Int)=n then nxt ts b else _)=(if a=a then nxt ts b else _); rw [if_neg (fun e=>hnn aR e.symm),if_pos rfl,if_pos rfl]) (fun x hx xa=>by
    show (if x=a then (n:Int) else if x=(n:Int) then nxt ts b else if x=b then nxt ts a else nxt ts x)=(if x=a then nxt ts b else if x=b then nxt ts a else nxt ts x)
    rw [if_neg xa,if_neg xa,if_neg (hnn hx)])
   obtain ⟨R3,C3,l3⟩:=C2.ins (ψ:=nxt ts2) (u:=b) (up bR) (by rw [w2]; push_cast; rfl) (by
    show nxt ts2 ((n+1:Nat):Int)=(if b=a then (n:Int) else if b=(n:Int) then nxt ts b else if b=b then nxt ts a else nxt ts b)
    rw [if_neg (fun e=>ab e.symm),if_neg (hnn bR),if_pos rfl,←w1]; push_cast; rfl) (fun x hx xb=>by
    show nxt ts2 x=(if x=a then (n:Int) else if x=(n:Int) then nxt ts b else if x=b then nxt ts a else nxt ts x)
    by_cases xa:x=a
    ·rw [if_pos xa,xa,w5]
    ·rw [if_neg xa]
     rcases in_succ.mp hx with z | z
     ·rw [if_neg (hnn z),if_neg xb,w3 x z xa xb]
     ·rw [if_pos z,z,w4])
   exact ⟨R3,C3,by omega⟩
 obtain ⟨R',C',l'⟩:=flat
 refine ⟨by rw [lH]; omega,by rw [lH]; omega,by rw [lT2]; exact g.two,B2.nd,B2.mem,B2.home,B2.ne,by rw [lT2,lH]; omega,⟨hget g.lo.1,hget g.lo.2⟩,fun S S0 hS q hq=>?_,R',by rw [lH]; exact C',by rw [lH,lT2,l']; omega⟩
 exact g.hang S S0 (fun k k1 x y hx hy=>hS k k1 x y (hget hx) (hget hy)) q (by omega)
theorem path_pre {φ:Int->Int} {y:Int}:∀ {l:List Int},Path φ l y->∀ x∈l,x=l.headD 0∨∃ z∈l,φ z=x
 | a :: l,g,x,h=>by
  rcases List.mem_cons.mp h with rfl | h
  ·exact .inl rfl
  ·right
   cases l with
   | nil=>cases h
   | cons b l =>
    rcases path_pre g.2 x h with e | ⟨z,hz,e⟩
    ·exact ⟨a,by simp,by rw [g.1,e]; rfl⟩
    ·exact ⟨z,by simp [hz],e⟩
theorem path_last {φ:Int->Int} {y:Int}:∀ {l:List Int},l≠[]->Path φ l y->∃ z∈l,φ z=y
 | [a],_,g=>⟨a,by simp,g.1⟩
 | a :: b :: l,_,g=>by
  obtain ⟨z,hz,e⟩:=path_last (l:=b :: l) (by simp) g.2
  exact ⟨z,List.mem_cons_of_mem _ hz,e⟩
theorem Cyc.pre {φ:Int->Int} {n:Nat} {R:List (List Int)} (C:Cyc φ n R) {x:Int} (hx:InR n x):∃ z,InR n z∧φ z=x:=by
 obtain ⟨c,hc,xc⟩:=List.mem_flatten.mp ((C.mem x).mpr hx)
 have r:=C.ring c hc
 rcases path_pre r.pa x xc with e | ⟨z,hz,e⟩
 ·obtain ⟨z,hz,e2⟩:=path_last r.ne r.pa
  exact ⟨z,(C.mem z).mp (List.mem_flatten.mpr ⟨c,hc,hz⟩),e2.trans e.symm⟩
 ·exact ⟨z,(C.mem z).mp (List.mem_flatten.mpr ⟨c,hc,hz⟩),e⟩
end Mth
namespace Mth
theorem Gn.part {ts:List (List Int)} {hs:List Nat} (g:Gn ts hs) {p r:Nat} {t:List Int} {pe:Int} (r1:1≤r) (er:pe=2*(r:Int)+1) (hp:ts[p]?=some t) (pm:pe∈t) :
  Gn (ts.set p (t.map fun x=>if x=pe then (hs.length:Int)+1 else x)++[[pe,(hs.length:Int)]]) ((hs++[ts.length]++[p]).set pe.toNat ts.length):=by
 obtain ⟨A,B,eT,lA,eS⟩:=set_mid hp
 have pl:p<ts.length:=(List.getElem?_eq_some_iff.mp hp).1
 have nd0:=g.nd
 have mem0:=g.mem
 have ev:=g.ev
 have n4:=g.n4
 have few:=g.few
 have P:=g.turns.perm
 obtain ⟨R,C,eR⟩:=g.flat
 have pet:pe∈ts.flatten:=List.mem_flatten.mpr ⟨t,List.mem_of_getElem? hp,pm⟩
 have peR:=(mem0 pe).mp pet
 have hpe:=g.home p t hp pe pm
 generalize hn:hs.length=n at *
 have pn:pe.toNat<n:=by have:=peR.2; omega
 have pt:pe.toNat=2*r+1:=by omega
 have em:((n:Nat):Int)+1∉ts.flatten:=fun z=>by have:=(mem0 _).mp z; omega
 rw [eT] at nd0 em
 obtain ⟨nd1,mem1,q1,q2⟩:=pr_ren nd0 pm em
 rw [←eT,←eS] at *
 generalize hT1:ts.set p (t.map fun x=>if x=pe then (n:Int)+1 else x)=ts1 at *
 have lT1:ts1.length=ts.length:=by rw [←hT1]; simp
 have pe1:pe∉ts1.flatten:=fun z=>by
  rcases (mem1 _).mp z with w | w
  ·exact w.2 rfl
  ·have:=peR.2; omega
 have n1:((n:Nat):Int)∉ts1.flatten:=fun z=>by
  rcases (mem1 _).mp z with w | w
  ·have:=(mem0 _).mp w.1; omega
  ·omega
 obtain ⟨nd2,w1,w2,w3⟩:=pr_push2 nd1 pe1 n1 (fun e=>by have:=peR.2; omega)
 generalize hT2:ts1++[[pe,(n:Int)]]=ts2 at *
 have lT2:ts2.length=ts.length+1:=by rw [←hT2]; simp [lT1]
 have lH:((hs++[ts.length]++[p]).set pe.toNat ts.length).length=n+2:=by simp [hn]
 have qR:=oth_in ev peR
 have v1:nxt ts2 (oth pe)=n:=by rw [nxt_pr,oth_oth,w1]
 have v2:nxt ts2 n=(if nxt ts (oth pe)=pe then (n:Int)+1 else nxt ts (oth pe)):=by
  rw [nxt_pr,oth_even ev,w3 _ ((mem1 _).mpr (.inr rfl)),q1,nxt_pr,oth_oth]
 have v3:nxt ts2 ((n:Int)+1)=pe:=by rw [nxt_pr,oth_odd ev,w2]
 have v4:∀ x,InR n x->x≠oth pe->nxt ts2 x=(if nxt ts x=pe then (n:Int)+1 else nxt ts x):=fun x hx xq=>by
  have ox:=oth_in ev hx
  have xp:oth x≠pe:=fun e=>xq (by rw [←e,oth_oth])
  rw [nxt_pr,w3 _ ((mem1 _).mpr (.inl ⟨(mem0 _).mpr ox,xp⟩)),q2 _ ((mem0 _).mpr ox) xp,nxt_pr]
 have hnn:∀ {x:Int},InR n x->x≠(n:Int):=fun {x} h e=>by have:=h.2; omega
 have flat:∃ R',Cyc (nxt ts2) (n+2) R'∧R'.length=R.length:=by
  obtain ⟨R1,C1,l1⟩:=C.ins (ψ:=fun x=>if x=oth pe then (n:Int) else if x=(n:Int) then nxt ts (oth pe) else nxt ts x) qR (by show (if oth pe=oth pe then (n:Int) else _)=n; rw [if_pos rfl]) (by show (if (n:Int)=oth pe then (n:Int) else if (n:Int)=n then nxt ts (oth pe) else _)=_; rw [if_neg (fun e=>hnn qR e.symm),if_pos rfl]) (fun x hx xq=>by show (if x=oth pe then (n:Int) else if x=(n:Int) then nxt ts (oth pe) else nxt ts x)=nxt ts x; rw [if_neg xq,if_neg (hnn hx)])
  obtain ⟨u,uR,hu⟩:=C1.pre (x:=pe) ⟨peR.1,by have:=peR.2; omega⟩
  have hu':(if u=oth pe then (n:Int) else if u=(n:Int) then nxt ts (oth pe) else nxt ts u)=pe:=hu
  have uq:u≠oth pe:=fun e=>by rw [if_pos e] at hu'; exact hnn peR hu'.symm
  rw [if_neg uq] at hu'
  have uu:u=(n:Int)∧nxt ts (oth pe)=pe∨InR n u∧nxt ts u=pe:=by
   rcases in_succ.mp uR with z | z
   ·right; rw [if_neg (hnn z)] at hu'; exact ⟨z,hu'⟩
   ·left; rw [if_pos z] at hu'; exact ⟨z,hu'⟩
  obtain ⟨R2,C2,l2⟩:=C1.ins (ψ:=nxt ts2) (u:=u) uR (by
   rcases uu with ⟨e,z⟩ | ⟨z,e⟩
   ·rw [e,v2,if_pos z]; push_cast; rfl
   ·rw [v4 u z uq,if_pos e]; push_cast; rfl) (by
   show nxt ts2 ((n+1:Nat):Int)=(if u=oth pe then (n:Int) else if u=(n:Int) then nxt ts (oth pe) else nxt ts u)
   rw [if_neg uq,hu',←v3]; push_cast; rfl) (fun x hx xu=>by
   show nxt ts2 x=(if x=oth pe then (n:Int) else if x=(n:Int) then nxt ts (oth pe) else nxt ts x)
   by_cases xq:x=oth pe
   ·rw [if_pos xq,xq,v1]
   ·rw [if_neg xq]
    rcases in_succ.mp hx with z | z
    ·rw [if_neg (hnn z),v4 x z xq,if_neg]
     intro e
     rcases uu with ⟨_,e2⟩ | ⟨zu,e2⟩
     ·exact xq (P.inj _ _ z qR (e.trans e2.symm))
     ·exact xu (P.inj _ _ z zu (e.trans e2.symm))
    ·rw [if_pos z,z,v2,if_neg]
     intro e
     rcases uu with ⟨e2,_⟩ | ⟨zu,e2⟩
     ·exact xu (z.trans e2.symm)
     ·exact uq (P.inj _ _ zu qR (e2.trans e.symm)))
  exact ⟨R2,C2,by omega⟩
 obtain ⟨R',C',l'⟩:=flat
 have hget:∀ {i q},hs[i]?=some q->i≠pe.toNat->((hs++[ts.length]++[p]).set pe.toNat ts.length)[i]?=some q:=fun {i q} h ne=>by
  rw [List.getElem?_set_ne (fun e=>ne e.symm),List.append_assoc,List.getElem?_append_left (List.getElem?_eq_some_iff.mp h).1]; exact h
 have hN:((hs++[ts.length]++[p]).set pe.toNat ts.length)[n]?=some ts.length:=by
  rw [List.getElem?_set_ne (by omega),List.append_assoc,←hn,List.getElem?_append_right (Nat.le_refl _)]; simp
 have hN1:((hs++[ts.length]++[p]).set pe.toNat ts.length)[n+1]?=some p:=by
  rw [List.getElem?_set_ne (by omega),←hn,List.getElem?_append_right (by simp)]; simp
 have hP:((hs++[ts.length]++[p]).set pe.toNat ts.length)[pe.toNat]?=some ts.length:=by
  rw [List.getElem?_set_self (by simp [hn]; omega)]
 have two:=g.two
 refine ⟨by rw [lH]; omega,by rw [lH]; omega,by rw [lT2]; omega,nd2,fun x=>?_,fun i t' hi x hx=>?_,fun t' ht'=>?_,by rw [lT2,lH]; omega,⟨hget g.lo.1 (by omega),hget g.lo.2 (by omega)⟩,fun S S0 hS i hi=>?_,R',by rw [lH]; exact C',by rw [lH,lT2,l']; omega⟩
 ·rw [lH,←hT2,List.flatten_append,List.mem_append,mem1,mem0]
  simp only [List.flatten_cons,List.flatten_nil,List.append_nil,List.mem_cons,List.not_mem_nil,or_false,InR]
  have:=peR.1
  have:=peR.2
  omega
 ·rw [←hT2] at hi
  rcases Nat.lt_or_ge i ts.length with il | il
  ·rw [List.getElem?_append_left (by omega),←hT1] at hi
   by_cases e:p=i
   ·subst e
    rw [List.getElem?_set_self pl] at hi
    cases hi
    obtain ⟨y,hy,rfl⟩:=List.mem_map.mp hx
    by_cases yp:y=pe
    ·rw [if_pos yp,show ((n:Int)+1).toNat=n+1 by omega]; exact hN1
    ·rw [if_neg yp]
     have yR:=(mem0 y).mp (List.mem_flatten.mpr ⟨t,List.mem_of_getElem? hp,hy⟩)
     exact hget (g.home p t hp y hy) (fun e=>yp (by have:=yR.1; have:=peR.1; omega))
   ·rw [List.getElem?_set_ne e] at hi
    have hx2:=g.home i t' hi x hx
    refine hget hx2 (fun z=>?_)
    rw [z,hpe] at hx2
    exact e (Option.some.inj hx2)
  ·have:i=ts.length:=by
    have:=(List.getElem?_eq_some_iff.mp hi).1
    simp [lT1] at this; omega
   subst this
   rw [List.getElem?_append_right (by omega),lT1] at hi
   simp at hi
   subst hi
   simp only [List.mem_cons,List.not_mem_nil,or_false] at hx
   rcases hx with rfl | rfl
   ·exact hP
   ·rw [Int.toNat_natCast]; exact hN
 ·rw [←hT2,←hT1] at ht'
  rcases List.mem_append.mp ht' with z | z
  ·rcases List.mem_or_eq_of_mem_set z with w | w
   ·exact g.ne t' w
   ·rw [w]
    intro e
    rw [List.map_eq_nil_iff] at e
    rw [e] at pm
    cases pm
  ·rw [List.mem_singleton.mp z]; simp
 ·have sP:S ts.length↔S p:=hS (n / 2) (by omega) _ _ (by rw [show 2*(n / 2)=n by omega]; exact hN) (by rw [show 2*(n / 2)+1=n+1 by omega]; exact hN1)
  have old:=g.hang S S0 (fun k k1 x y hx hy=>by
   by_cases e:2*k+1=pe.toNat
   ·have ey:y=p:=by rw [e,hpe] at hy; exact (Option.some.inj hy).symm
    subst ey
    exact (hS k k1 x ts.length (hget hx (by omega)) (by rw [e]; exact hP)).trans sP
   ·exact hS k k1 x y (hget hx (by omega)) (hget hy e))
  rcases Nat.lt_or_ge i ts.length with il | il
  ·exact old i il
  ·have:i=ts.length:=by rw [lT2] at hi; omega
   rw [this]
   exact sP.mpr (old p pl)
theorem Gn.first:Gn [[0,2],[1,3]] [0,1,0,1]:=by
 have nd:([[0,2],[1,3]]:List (List Int)).flatten.Nodup:=by decide
 have p0:pr [[0,2],[1,3]] 0=2:=by decide
 have p1:pr [[0,2],[1,3]] 1=3:=by decide
 have p2:pr [[0,2],[1,3]] 2=0:=by decide
 have p3:pr [[0,2],[1,3]] 3=1:=by decide
 refine ⟨by decide,by decide,by decide,nd,fun x=>?_,fun p t hp x hx=>?_,by decide,by decide,⟨rfl,rfl⟩,fun S S0 hS p hp=>?_,[[0,3],[1,2]],⟨by decide,fun x=>?_,fun c hc=>?_⟩,by decide⟩
 ·simp only [List.flatten_cons,List.flatten_nil,List.append_nil,List.mem_append,List.mem_cons,List.not_mem_nil,or_false,InR,List.length_cons,List.length_nil]
  omega
 ·match p,hp with
  | 0,hp=>cases hp; simp at hx; rcases hx with rfl | rfl <;> rfl
  | 1,hp=>cases hp; simp at hx; rcases hx with rfl | rfl <;> rfl
 ·have:=hS 1 (by decide) 0 1 rfl rfl
  match p,hp with
  | 0,_=>exact S0
  | 1,_=>exact this.mp S0
 ·simp only [List.flatten_cons,List.flatten_nil,List.append_nil,List.mem_append,List.mem_cons,List.not_mem_nil,or_false,InR,List.length_cons,List.length_nil]
  omega
 ·simp only [List.mem_cons,List.not_mem_nil,or_false] at hc
  rcases hc with rfl | rfl
  ·exact ⟨by simp,by decide,by decide,trivial⟩
  ·exact ⟨by simp,by decide,by decide,trivial⟩
theorem Gn.lands {ts:List (List Int)} {hs:List Nat} (g:Gn ts hs):2*((landsF (nxt ts) hs.length).length+ts.length)=hs.length+4:=by
 obtain ⟨R,C,e⟩:=g.flat
 rw [C.count g.turns.perm]; exact e
end Mth
namespace Mth
theorem path_map {φ ψ ρ:Int->Int} {y:Int}:∀ {l:List Int},(∀ x∈l,ψ (ρ x)=ρ (φ x))->Path φ l y->Path ψ (l.map ρ) (ρ y)
 | [],_,_=>trivial
 | a :: l,h,g=>by
  refine ⟨?_,path_map (fun x hx=>h x (by simp [hx])) g.2⟩
  rw [h a (by simp),g.1]
  cases l <;> rfl
theorem flat_map (ρ:Int->Int):∀ R:List (List Int),(R.map fun c=>c.map ρ).flatten=R.flatten.map ρ
 | []=>rfl
 | c :: R=>by rw [List.map_cons,List.flatten_cons,List.flatten_cons,List.map_append,flat_map ρ R]
theorem nd_map {ρ:Int->Int}:∀ {l:List Int},l.Nodup->(∀ x∈l,∀ y∈l,ρ x=ρ y->x=y)->(l.map ρ).Nodup
 | [],_,_=>by simp
 | a :: l,nd,inj=>by
  rw [List.nodup_cons] at nd
  rw [List.map_cons,List.nodup_cons]
  refine ⟨fun z=>?_,nd_map nd.2 fun x hx y hy=>inj x (by simp [hx]) y (by simp [hy])⟩
  obtain ⟨b,hb,e⟩:=List.mem_map.mp z
  exact nd.1 (inj b (by simp [hb]) a (by simp) e ▸ hb)
theorem Cyc.ren {φ ψ ρ σ:Int->Int} {n:Nat} {R:List (List Int)} (C:Cyc φ n R) (into:∀ x,InR n x->InR n (ρ x)) (back:∀ x,InR n x->InR n (σ x)∧ρ (σ x)=x) (inj:∀ x y,InR n x->InR n y->ρ x=ρ y->x=y) (h:∀ x,InR n x->ψ (ρ x)=ρ (φ x)):Cyc ψ n (R.map fun c=>c.map ρ):=by
 refine ⟨?_,fun x=>?_,fun c hc=>?_⟩
 ·rw [flat_map]
  exact nd_map C.nd fun x hx y hy=>inj x y ((C.mem x).mp hx) ((C.mem y).mp hy)
 ·rw [flat_map,List.mem_map]
  constructor
  ·rintro ⟨y,hy,rfl⟩; exact into y ((C.mem y).mp hy)
  ·intro hx
   exact ⟨σ x,(C.mem _).mpr (back x hx).1,(back x hx).2⟩
 ·obtain ⟨d,hd,rfl⟩:=List.mem_map.mp hc
  have r:=C.ring d hd
  refine ⟨by simp [r.ne],?_⟩
  have:=path_map (ψ:=ψ) (ρ:=ρ) (fun x hx=>h x ((C.mem x).mp (List.mem_flatten.mpr ⟨d,hd,hx⟩))) r.pa
  have e:(d.map ρ).headD 0=ρ (d.headD 0):=by
   have:=r.ne
   cases d with
   | nil=>exact absurd rfl this
   | cons a l=>rfl
  rw [e]; exact this
theorem pr_map {ts:List (List Int)} {ρ:Int->Int} (nd:ts.flatten.Nodup) (inj:∀ x∈ts.flatten,∀ y∈ts.flatten,ρ x=ρ y->x=y):(ts.map fun t=>t.map ρ).flatten.Nodup∧∀ x∈ts.flatten,pr (ts.map fun t=>t.map ρ) (ρ x)=ρ (pr ts x):=by
 have nd':(ts.map fun t=>t.map ρ).flatten.Nodup:=by rw [flat_map]; exact nd_map nd inj
 refine ⟨nd',fun x hx=>pr_of nd' ?_⟩
 have m:=pr_mem nd hx
 have row:∀ t:List Int,rowP (t.map ρ)=(rowP t).map fun p=>(ρ p.1,ρ p.2):=fun t=>by
  rw [rowP_cp,rowP_cp]
  cases t with
  | nil=>rfl
  | cons a l =>
   rw [←cp_map]
   congr 1
   rw [List.getLastD_eq_getLast?,List.getLastD_eq_getLast?,List.getLast?_map,List.getLast?_cons]; rfl
 unfold aheadL at m ⊢
 obtain ⟨r,hr,hm⟩:=List.mem_flatten.mp m
 obtain ⟨t,ht,rfl⟩:=List.mem_map.mp hr
 refine List.mem_flatten.mpr ⟨rowP (t.map ρ),List.mem_map.mpr ⟨t.map ρ,List.mem_map.mpr ⟨t,ht,rfl⟩,rfl⟩,?_⟩
 rw [row]
 exact List.mem_map.mpr ⟨_,hm,rfl⟩
def Rot (r r':List Int):Prop:=∃ l m,r=l++m∧r'=m++l
theorem Rot.perm {r r':List Int} (h:Rot r r'):List.Perm r r':=by
 obtain ⟨l,m,rfl,rfl⟩:=h
 exact List.perm_append_comm
end Mth
namespace My
open PySem
def top (i:Nat):Stmt:=PySem.Challenge.pw_currentfloor_k05_nets_refused_in_order.main.body.getD i (.Pass ⟨0,0,0,0⟩)
abbrev sCommon:Stmt:=top 8
abbrev sOther:Stmt:=top 10
abbrev sAhead:Stmt:=top 11
abbrev sRingFrom:Stmt:=top 12
abbrev sRings:Stmt:=top 13
abbrev s_is_ease:Stmt:=top 15
abbrev s_check_numbers:Stmt:=top 16
abbrev s_check_rope:Stmt:=top 17
abbrev s_ends_at:Stmt:=top 18
abbrev s_check_turns:Stmt:=top 19
abbrev s_led_to:Stmt:=top 20
abbrev s_check_hanging:Stmt:=top 21
abbrev s_check_flat:Stmt:=top 22
abbrev s_begun_least:Stmt:=top 23
abbrev s_told_turns:Stmt:=top 24
abbrev s_checked:Stmt:=top 25
abbrev s_law_cell_at:Stmt:=top 27
abbrev s_law_drawn:Stmt:=top 28
abbrev s_law_common:Stmt:=top 30
abbrev s_law_lowest:Stmt:=top 31
abbrev sNext:Stmt:=top 32
abbrev s_law_ring:Stmt:=top 33
abbrev s_law_put_ahead:Stmt:=top 34
abbrev s_law_one_more:Stmt:=top 35
abbrev sLEase:Stmt:=top 36
abbrev s_law_grown:Stmt:=top 37
abbrev s_law_begun:Stmt:=top 38
abbrev s_law_lands:Stmt:=top 40
abbrev s_law_said:Stmt:=top 41
abbrev s_law_rope_due:Stmt:=top 42
abbrev s_law_ends_due:Stmt:=top 43
abbrev s_law_loose_due:Stmt:=top 44
abbrev s_law_due:Stmt:=top 45
abbrev s_law_other_ease:Stmt:=top 46
abbrev s_law_other_turns:Stmt:=top 47
abbrev s_law_spoilt:Stmt:=top 48
abbrev sLaw:Stmt:=top 49
abbrev sNNInit:Stmt:=L2.inClass (top 2) 0
abbrev sNRInit:Stmt:=L2.inClass (top 3) 0
abbrev sNTInit:Stmt:=L2.inClass (top 4) 0
abbrev sLoInit:Stmt:=L2.inClass (top 5) 0
abbrev sNFInit:Stmt:=L2.inClass (top 6) 0
end My
namespace My
open PySem L2 Mth
theorem same_new {H:Hp} {p:Addr} (h:H p=none) (o:HO):Same H (upd H p o):=fun b u q=>by rw [upd_ne (ne_of_none q h)]; exact q
def SameB (x:Addr) (H H':Hp):Prop:=∀ b o,b≠x->H b=some o->H' b=some o
theorem SameB.refl (x:Addr) (H:Hp):SameB x H H:=fun _ _ _ h=>h
theorem SameB.put {x:Addr} {H H':Hp} (h:SameB x H H') (o:HO):SameB x H (upd H' x o):=fun b u n q=>by rw [upd_ne n]; exact h b u n q
theorem SameB.trans {x:Addr} {H H1 H2:Hp} (a:SameB x H H1) (b:SameB x H1 H2):SameB x H H2:=fun c o n h=>b c o n (a c o n h)
theorem _root_.L2.Same.b {x:Addr} {H H':Hp} (h:Same H H'):SameB x H H':=fun b o _ q=>h b o q
theorem SameB.same {x:Addr} {H0 H H':Hp} (h:SameB x H H') (s:Same H0 H) (n:H0 x=none):Same H0 H':=fun b o q=>h b o (ne_of_none q n) (s b o q)
theorem SameB.one {x:Addr} {H:Hp} {o:HO}:SameB x H (upd H x o):=(SameB.refl x H).put o
theorem _root_.L2.Same.up {x:Addr} {H0 H:Hp} (s:Same H0 H) (n:H0 x=none) (o:HO):Same H0 (upd H x o):=SameB.one.same s n
theorem iteNN {c A B:Prop} [Decidable c] (hc:¬ c) (h:A):if (!decide c)=true then A else B:=by
 rw [decide_eq_false hc]
 exact iteT h
theorem iteDT {c A B:Prop} [Decidable c] (hc:c) (h:A):if decide c=true then A else B:=by
 rw [decide_eq_true hc]
 exact iteT h
theorem iteDF {c A B:Prop} [Decidable c] (hc:¬ c) (h:B):if decide c=true then A else B:=by
 rw [decide_eq_false hc]
 exact iteF h
theorem iv {a b:Int} (h:a=b):V.int a=V.int b:=by rw [h]
theorem ivn {a b:Int} (h:a≠b):¬ V.int a=V.int b:=fun z=>h (V.int.inj z)
theorem szl {n:Nat} (h:n≤100000):n<sizeLine:=by rw [sizeLine_eq]; omega
abbrev kvI (L:List (Int×Int)):List (Key×V):=L.map fun p=>(Sum.inl p.1,V.int p.2)
theorem val_kvI (e:Int):∀ L:List (Int×Int),valV (kvI L) (Sum.inl e:Key)=(lk L e).map V.int
 | []=>rfl
 | p :: L=>by
  show valV ((Sum.inl p.1,V.int p.2) :: kvI L) (Sum.inl e:Key)=_
  by_cases h:p.1=e
  ·rw [valV_pos (p:=((Sum.inl p.1:Key),V.int p.2)) (by rw [h])]
   unfold lk
   rw [List.find?_cons_of_pos (by simpa using h)]
   rfl
  ·rw [valV_neg (p:=((Sum.inl p.1:Key),V.int p.2)) (fun z=>h (Sum.inl.inj z)),val_kvI e L]
   unfold lk
   rw [List.find?_cons_of_neg (by simpa using h)]
theorem put_new {kvs:List (Key×V)} {k:Key} {v:V} (h:valV kvs k=none):putK kvs k v=kvs++[(k,v)]:=by
 unfold putK
 rw [valV_any,h]
 rfl
theorem put_kvI {L:List (Int×Int)} {e v:Int} (h:e∉L.map (·.1)):putK (kvI L) (Sum.inl e:Key) (.int v)=kvI (L++[(e,v)]):=by
 rw [put_new (by rw [val_kvI,lk_none h]; rfl)]
 simp
abbrev kvT (l:List Int):List (Key×V):=l.map fun e=>(Sum.inl e,V.bl true)
theorem val_kvT (e:Int):∀ l:List Int,valV (kvT l) (Sum.inl e:Key)=if e∈l then some (V.bl true) else none
 | []=>rfl
 | p :: L=>by
  show valV ((Sum.inl p,V.bl true) :: kvT L) (Sum.inl e:Key)=_
  by_cases h:p=e
  ·rw [valV_pos (p:=((Sum.inl p:Key),V.bl true)) (by rw [h]),if_pos (by simp [h])]
  ·rw [valV_neg (p:=((Sum.inl p:Key),V.bl true)) (fun z=>h (Sum.inl.inj z)),val_kvT e L]
   have:e∈p :: L↔e∈L:=by simp [Ne.symm h]
   by_cases q:e∈L
   ·rw [if_pos q,if_pos (this.mpr q)]
   ·rw [if_neg q,if_neg fun z=>q (this.mp z)]
theorem put_kvT {l:List Int} {e:Int} (h:e∉l):putK (kvT l) (Sum.inl e:Key) (.bl true)=kvT (l++[e]):=by
 rw [put_new (by rw [val_kvT,if_neg h])]
 simp
theorem get_kvI {H:Hp} {d:Addr} {L:List (Int×Int)} {e v:Int} (h:H d=some (.dK (kvI L))) (q:lk L e=some v):DGet H d (.int e) (some (.int v)):=by
 have:=DGet.k (k:=Sum.inl e) h
 rw [val_kvI,q] at this
 exact this
def TsA (H:Hp) (a:Addr) (bs:List Addr) (ts:List (List Int)):Prop :=
 H a=some (.tup (bs.map V.ref))∧bs.length=ts.length∧∀ (i:Nat) (b:Addr) (row:List Int),bs[i]?=some b->ts[i]?=some row->H b=some (.tup (row.map V.int))
theorem TsA.keep {H H':Hp} {a:Addr} {bs:List Addr} {ts:List (List Int)} (h:TsA H a bs ts) (s:Same H H'):TsA H' a bs ts :=
 ⟨s _ _ h.1,h.2.1,fun i b row e1 e2=>s _ _ (h.2.2 i b row e1 e2)⟩
theorem row_at {bs:List Addr} {ts:List (List Int)} {i:Nat} {x:V} (hl:bs.length=ts.length) (h:(bs.map V.ref)[i]?=some x):∃ b row,x=.ref b∧bs[i]?=some b∧ts[i]?=some row:=by
 rw [List.getElem?_map] at h
 cases e:bs[i]? with
 | none=>rw [e] at h; cases h
 | some b =>
  rw [e] at h
  have hi:i<bs.length:=(List.getElem?_eq_some_iff.mp e).1
  exact ⟨b,ts[i]'(by omega),(Option.some.inj h).symm,rfl,List.getElem?_eq_getElem (by omega)⟩
theorem int_at {row:List Int} {i:Nat} {x:V} (h:(row.map V.int)[i]?=some x):∃ e,x=.int e∧row[i]?=some e:=by
 rw [List.getElem?_map] at h
 cases q:row[i]? with
 | none=>rw [q] at h; cases h
 | some e =>
  rw [q] at h
  exact ⟨e,(Option.some.inj h).symm,rfl⟩
theorem at_int {row:List Int} {i:Nat} {e:Int} (h:row[i]?=some e):(row.map V.int)[i]?=some (.int e):=by rw [List.getElem?_map,h]; rfl
theorem at_prev {row:List Int} {j:Nat} (h:j<row.length):atI (row.map V.int) ((j:Int)-1)=some (.int (prevAt row j)):=by
 have g:∀ i,i<row.length->(row.map V.int)[i]?=some (.int (row.getD i 0)):=fun i hi=>by
  rw [List.getElem?_map,List.getElem?_eq_getElem hi,List.getD_eq_getElem?_getD,List.getElem?_eq_getElem hi]
  rfl
 unfold prevAt
 cases j with
 | zero =>
  rw [if_pos rfl]
  have hl:(row.map V.int).length=row.length:=List.length_map ..
  have e:ixN (row.map V.int).length (((0:Nat):Int)-1)=some (row.length-1):=by
   unfold ixN
   rw [hl,if_neg (by decide),if_pos (by omega)]
   congr 1
   omega
  unfold atI
  rw [e]
  exact g _ (by omega)
 | succ j =>
  rw [if_neg (by omega),show (((j+1:Nat):Int)-1)=((j:Nat):Int) by omega]
  exact atI_nat (g j (by omega))
theorem fresh_end {ts:List (List Int)} (nd:ts.flatten.Nodup) {i j:Nat} {row:List Int} {e:Int} (h1:ts[i]?=some row) (h2:row[j]?=some e):e∉(ts.take i).flatten++row.take j:=by
 obtain ⟨hi,q1⟩:=List.getElem?_eq_some_iff.mp h1
 obtain ⟨hj,q2⟩:=List.getElem?_eq_some_iff.mp h2
 have e1:ts=ts.take i++row :: ts.drop (i+1):=by rw [←q1,List.getElem_cons_drop,List.take_append_drop]
 have e2:row=row.take j++e :: row.drop (j+1):=by rw [←q2,List.getElem_cons_drop,List.take_append_drop]
 rw [e1,List.flatten_append,List.flatten_cons,List.nodup_append] at nd
 obtain ⟨_,n2,n3⟩:=nd
 intro z
 rcases List.mem_append.mp z with z | z
 ·exact n3 e z e (List.mem_append_left _ (by rw [e2]; simp)) rfl
 ·rw [List.nodup_append] at n2
  have n4:=n2.1
  rw [e2,List.nodup_append] at n4
  exact n4.2.2 e z e (by simp) rfl
section
variable {P:Program} {w:World} {K:PySem.W.Frag} {mg:Str->Option Value} {base:Heap}
inductive SpOthR (vs:List V) (H:Hp) (Q:VK):Prop
 | mk (e:Int) (h_0:vs=[.int e]) (h_1:Q (.int (oth e)) H):SpOthR vs H Q
def spOth:Sp:=fun vs H Q _=>SpOthR vs H Q
theorem scOt:FnScope ["end"] ["end"] (defScope sOther):=⟨rfl,rfl,rfl,by decide +kernel,rfl,by decide +kernel,by decide +kernel⟩
theorem ok_other {f:Addr} {fd:FuncData} (F:Fun K "other_end" "other_end" sOther f fd):FnOk P w K mg base CX0 1 f fd ["end"] spOth:=by
 refine F.ok scOt (fun vs H Q E h=>?_) (fun cdv A outer s H vs Q E hr h=>?_)
 ·obtain ⟨a,rfl,_⟩:=h
  rfl
 obtain ⟨e,rfl,q⟩:=h
 refine ⟨_,pss_one (ps_ret (pe_ifExp (pt_cmpR op_eq (pe_op op_mod (pv 0) pe_int) pe_int (nomark _)) (pe_op op_add (pv 0) pe_int) (pe_op op_sub (pv 0) pe_int))),?_⟩
 refine ⟨_,rfl,_,_,rfl,rfl,(show (0:Int)<2 by decide),rfl,_,rfl,?_⟩
 unfold oth at q
 by_cases h:e % 2=0
 ·rw [if_pos h] at q
  exact iteDT (iv h) ⟨_,rfl,_,_,rfl,rfl,q⟩
 ·rw [if_neg h] at q
  exact iteDF (ivn h) ⟨_,rfl,_,_,rfl,rfl,q⟩
inductive SpAheadR (vs:List V) (H:Hp) (Q:VK):Prop
 | mk (a:Addr) (bs:List Addr) (ts:List (List Int)) (n:Nat) (h_0:vs=[.ref a]) (h_1:TsA H a bs ts) (h_2:Turns n ts) (h_3:n≤1000) (h_4:∀ d H',Same H H'->H d=none->H' d=some (.dK (kvI (aheadL ts)))->Q (.ref d) H'):SpAheadR vs H Q
def spAhead:Sp:=fun vs H Q _=>SpAheadR vs H Q
def tAhead (K:PySem.W.Frag):TS:=tSeq (tAsg tDNewK (gName 1)) (tSeq (tFor (iTup K (tVar 0)) (gName 2) (tFor (iEnum (tCons (tVar 2) tNil)) (gTup K 2 (gCons (gName 3) (gCons (gName 4) gNil)))
 (sDPut (tVar 1) (tVar 4) (tOp (rIxT K) (tVar 2) (tOp (rI0 fun i j=>.int (i-j)) (tVar 3) (tC (.int 1))))))) (tRet (tVar 1)))
theorem rd_ahead {H:Hp} {Q:VK} {a:Addr} {bs:List Addr} {ts:List (List Int)} {n:Nat} {nx:St->Hp->Prop} (hT:TsA H a bs ts) (T:Turns n ts) (hn:n≤1000) (q:∀ d H',Same H H'->H d=none->H' d=some (.dK (kvI (aheadL ts)))->Q (.ref d) H') :
  tAhead K { nx:=nx,rt:=Q } [some (.ref a),none,none,none,none] H:=by
 intro d hd
 try dsimp only
 try refine name_goH ?_
 first | refine seq_hide fun UL1 hUL1=>?_ | refine nx_hide fun UL1 hUL1=>?_
 refine ⟨_,rfl,a,rfl,⟨_,SqT.of (same_new hd _ _ _ hT.1)⟩,?_⟩
 refine for_tup (xs:=bs.map V.ref) (fun i σ H2=>∃ t k e,σ=[some (.ref a),some (.ref d),t,k,e]∧Same H H2∧H2 d=some (.dK (kvI (aheadL (ts.take i))))) ⟨none,none,none,rfl,same_new hd _,upd_same⟩ (fun i σ H2 _ ⟨_,_,_,_,s,_⟩=>SqT.of (s _ _ hT.1)) ?_ ?_
 ·rintro i x σ H2 hx ⟨t0,k0,e0,rfl,sm,hd2⟩
  obtain ⟨b,row,rfl,hb,hrow⟩:=row_at hT.2.1 hx
  have hB:=sm _ _ (hT.2.2 i b row hb hrow)
  try dsimp only
  try refine name_goH ?_
  first | refine seq_hide fun UL2 hUL2=>?_ | refine nx_hide fun UL2 hUL2=>?_
  refine ⟨_,rfl,b,_,rfl,hB,?_⟩
  refine for_enum (xs:=row.map V.int) (fun j σ H3=>∃ k e,σ=[some (.ref a),some (.ref d),some (.ref b),k,e]∧Same H H3∧H3 d=some (.dK (kvI (aheadL (ts.take i)++(rowP row).take j)))) ⟨k0,e0,rfl,sm,by rw [List.take_zero,List.append_nil]; exact hd2⟩
   (fun j σ H3 _ ⟨_,_,_,s,_⟩=>s _ _ (hT.2.2 i b row hb hrow)) ?_ ?_
  ·rintro j x σ H3 p hx3 ⟨k1,e1,rfl,sm3,hd3⟩ hp
   obtain ⟨e,rfl,he⟩:=int_at hx3
   have hj:j<row.length:=(List.getElem?_eq_some_iff.mp he).1
   have sm4:Same H (upd H3 p (.tup [.int j,.int e])):=sm3.trans (same_new hp _)
   have hd4:(upd H3 p (.tup [.int j,.int e])) d=some (.dK (kvI (aheadL (ts.take i)++(rowP row).take j))):=same_new hp _ _ _ hd3
   have keys:(aheadL (ts.take i)++(rowP row).take j).map (·.1)=(ts.take i).flatten++row.take j:=by
    rw [List.map_append,aheadL_fst,List.map_take,rowP_fst]
   have fr:e∉(aheadL (ts.take i)++(rowP row).take j).map (·.1):=by rw [keys]; exact fresh_end T.nd hrow he
   have ln:(kvI (aheadL (ts.take i)++(rowP row).take j)).length<sizeLine:=by
    have l1:=congrArg List.length keys
    rw [List.length_map] at l1
    have l2:((ts.take i).flatten++row.take j).length≤n:=by
     rw [←T.len]
     have e1:ts=ts.take i++ts.drop i:=(List.take_append_drop i ts).symm
     have hd:ts.drop i=row :: ts.drop (i+1):=by
      obtain ⟨hi,q1⟩:=List.getElem?_eq_some_iff.mp hrow
      rw [←q1,List.getElem_cons_drop]
     have e2:ts.flatten.length=(ts.take i).flatten.length+(row.length+(ts.drop (i+1)).flatten.length):=by
      conv=>lhs; rw [e1,hd]
      rw [List.flatten_append,List.flatten_cons,List.length_append,List.length_append]
     rw [e2,List.length_append,List.length_take]
     omega
    rw [List.length_map,l1]
    exact szl (by omega)
   refine ⟨p,_,rfl,SqT.of upd_same,rfl,_,_,rfl,_,_,rfl,rfl,?_⟩
   refine ⟨_,rfl,_,rfl,_,_,rfl,rfl,b,_,_,_,rfl,rfl,SqT.of (sm4 _ _ (hT.2.2 i b row hb hrow)),at_prev hj,_,rfl,_,rfl,d,_,rfl,DPut.k (k:=Sum.inl e) hd4 ln,?_⟩
   refine ⟨_,_,rfl,sm4.up hd _,?_⟩
   rw [upd_same,put_kvI fr,List.append_assoc]
   have rp:(rowP row)[j]?=some (e,prevAt row j):=by
    unfold rowP
    rw [List.getElem?_map,List.getElem?_range hj]
    show some (row.getD j 0,prevAt row j)=_
    rw [List.getD_eq_getElem?_getD,he]
    rfl
   rw [take_snoc rp]
  ·rintro σ H3 ⟨k1,e1,rfl,sm3,hd3⟩
   subst hUL2
   refine ⟨_,_,_,rfl,sm3,?_⟩
   rw [hd3,take_snoc hrow,aheadL_snoc,List.length_map,show (rowP row).take row.length=rowP row from List.take_of_length_le (by rw [rowP_len]; exact Nat.le_refl _)]
 ·rintro σ H2 ⟨t0,k0,e0,rfl,sm,hd2⟩
  subst hUL1
  refine ⟨_,rfl,q d H2 sm hd ?_⟩
  rw [hd2,List.length_map,List.take_of_length_le (by rw [hT.2.1]; exact Nat.le_refl _)]
theorem scAh:FnScope ["turns","ahead","turn","k","end"] ["turns"] (defScope sAhead):=⟨rfl,rfl,rfl,by decide +kernel,rfl,by decide +kernel,by decide +kernel⟩
theorem ok_ahead {f:Addr} {fd:FuncData} (F:Fun K "ends_ahead" "ends_ahead" sAhead f fd) (me:mg "enumerate" = none):FnOk P w K mg base CX0 1 f fd ["turns"] spAhead:=by
 refine F.ok scAh (fun vs H Q E h=>?_) (fun cdv A outer s H vs Q E hr h=>?_)
 ·obtain ⟨a,bs,ts,n,rfl,_⟩:=h
  rfl
 obtain ⟨a,bs,ts,n,rfl,hT,T,hn,q⟩:=h
 have hu:=hu_of hr
 refine ⟨tAhead K,pss_cons (ps_set (i:=1) scAh.nd rfl (Or.inl rfl) pe_dnewK)
  (pss_cons (ps_for PassesOwn.never rfl (pi_tup (pv 0)) (pg_name (i:=2) scAh.nd rfl (Or.inl rfl))
   (pss_one (ps_for PassesOwn.never rfl (pi_enum (by rfl) me (pa_cons (pv 2) pa_nil)) (pg_tup rfl (pgs_cons (pg_name (i:=3) scAh.nd rfl (Or.inl rfl)) (pgs_cons (pg_name (i:=4) scAh.nd rfl (Or.inl rfl)) pgs_nil)))
    (pss_one (ps_dput hu (pv 1) (pv 4) (pe_ix ix_tup (pv 2) (pe_op op_sub (pv 3) pe_int) (fun _ _=>rfl)) rfl)))))
  (pss_one (ps_ret (pv 1)))),rd_ahead hT T hn q⟩
inductive SpRingR (vs:List V) (H:Hp) (Q:VK):Prop
 | mk (s:Int) (d:Addr) (ts:List (List Int)) (n:Nat) (h_0:vs=[.int s,.ref d]) (h_1:H d=some (.dK (kvI (aheadL ts)))) (h_2:Turns n ts) (h_3:n≤1000) (h_4:InR n s) (h_5:∀ p H',Same H H'->H p=none->H' p=some (.tup ((ring (nxt ts) s).map V.int))->Q (.ref p) H'):SpRingR vs H Q
def spRing:Sp:=fun vs H Q _=>SpRingR vs H Q
theorem scRf:FnScope ["start","ahead","ring","end"] ["start","ahead"] (defScope sRingFrom):=⟨rfl,rfl,rfl,by decide +kernel,rfl,by decide +kernel,by decide +kernel⟩
theorem ok_ringFrom {f g:Addr} {fd gd:FuncData} (F:Fun K "ring_from" "ring_from" sRingFrom f fd) (G:FnOk P w K mg base CX0 1 g gd ["end"] spOth) (bG:Binds K gd ["end"] []) (kG:PySem.W.keepIn K (.ref g)=true) (mG:mg "other_end" = some (.ref g)) (mt:mg "tuple" = none) :
  FnOk P w K mg base CX0 2 f fd ["start","ahead"] spRing:=by
 refine F.ok scRf (fun vs H Q E h=>?_) (fun cdv A outer s H vs Q E hr h=>?_)
 ·obtain ⟨a,bs,ts,n,rfl,_⟩:=h
  rfl
 obtain ⟨s0,d,ts,n,rfl,hd,T,hn,hs,q⟩:=h
 have hu:=hu_of hr
 have PM:=T.perm
 have PE:=per_is PM hs
 refine ⟨_,pss_cons (ps_set (i:=2) scRf.nd rfl (Or.inl rfl) (pe_lst (pa_cons (pv 0) pa_nil)))
  (pss_cons (ps_set (i:=3) scRf.nd rfl (Or.inl rfl) (pe_dget hu (pv 1) (pe_call G hr (by rfl) mG kG bG .nil pass0 (pa_cons (pv 0) pa_nil)) (fun _ _=>rfl)))
  (pss_cons (ps_while PassesOwn.never (pt_cmpR op_ne (pv 3) (pv 0) (nomark _))
   (pss_cons (ps_expr (pe_bmK K PySem.F.plainAttrs_list PySem.F.slot_list_append PySem.F.type_list_append mt_append (pv 2) (pa_cons (pv 3) pa_nil)))
    (pss_one (ps_set (i:=3) scRf.nd rfl (Or.inl rfl) (pe_dget hu (pv 1) (pe_call G hr (by rfl) mG kG bG .nil pass0 (pa_cons (pv 3) pa_nil)) (fun _ _=>rfl))))))
  (pss_one (ps_ret (pe_callTy call_tuple_of (by rfl) mt bt_tuple (pa_cons (pv 2) pa_nil)))))),?_⟩
 refine ⟨_,rfl,by show 1≤sizeLine; decide,fun l hl=>?_⟩
 refine ⟨_,rfl,_,rfl,s0,rfl,d,_,rfl,get_kvI (same_new hl _ _ _ hd) (T.nxt_is hs),?_⟩
 refine while_by (fun σ H2=>∃ j,1≤j∧j≤per (nxt ts) s0∧σ=[some (.int s0),some (.ref d),some (.ref l),some (.int (itn (nxt ts) j s0))]∧Same H H2∧H2 l=some (.lst ((ringL (nxt ts) s0 j).map V.int)))
  (fun _ H2=>match H2 l with | some (.lst xs)=>per (nxt ts) s0-xs.length | _=>0) ⟨1,Nat.le_refl _,PE.1,rfl,same_new hl _,upd_same⟩ ?_ ?_
 ·rintro σ H2 ⟨j,j1,j2,rfl,sm,hl2⟩
  refine ⟨_,rfl,_,rfl,rfl,_,rfl,?_⟩
  by_cases he:itn (nxt ts) j s0=s0
  ·refine iteNS (iv he) ?_
   have hj:j=per (nxt ts) s0:=by
    rcases Nat.lt_or_ge j (per (nxt ts) s0) with z | z
    ·exact absurd he (PE.2.2 j j1 z)
    ·omega
   subst hj
   refine ⟨_,rfl,l,_,rfl,.inl ⟨SqL.of hl2,fun p hp=>?_⟩⟩
   exact q p _ (sm.trans (same_new hp _)) (sm.free hp) upd_same
  ·refine iteNN (ivn he) ?_
   have hj:j<per (nxt ts) s0:=by
    rcases Nat.lt_or_ge j (per (nxt ts) s0) with z | z
    ·exact z
    ·exact absurd (by rw [show j=per (nxt ts) s0 by omega]; exact PE.2.1) he
   have hpl:=per_le PM hs
   have hlen:(ringL (nxt ts) s0 j).length=j:=ringL_len
   refine ⟨_,rfl,.inl ⟨rfl,_,SqL.of hl2⟩,_,rfl,l,_,_,rfl,rfl,hl2,by rw [List.length_map,hlen]; exact szl (by omega),?_⟩
   have sm2:=sm.up hl (.lst ((ringL (nxt ts) s0 j).map V.int++[.int (itn (nxt ts) j s0)]))
   refine ⟨_,rfl,_,rfl,_,rfl,d,_,rfl,get_kvI (sm2 _ _ hd) (T.nxt_is (itn_in PM hs j)),?_⟩
   refine ⟨⟨j+1,by omega,hj,rfl,sm2,?_⟩,?_⟩
   ·rw [upd_same,ringL_snoc,List.map_append]
    rfl
   ·rw [upd_same,hl2]
    show per (nxt ts) s0-((ringL (nxt ts) s0 j).map V.int++[V.int (itn (nxt ts) j s0)]).length<per (nxt ts) s0-((ringL (nxt ts) s0 j).map V.int).length
    rw [List.length_append,List.length_map,hlen,List.length_singleton]
    omega
 ·rintro σ H2 Q1 Q2 hq ⟨v,e,v',e',sc,b,eb,z⟩
  exact ⟨v,e,v',e',sc,b,eb,hq _ _ z⟩
end
end My
namespace My
open PySem L2 Mth
section
variable {P:Program} {w:World} {K:PySem.W.Frag} {mg:Str->Option Value} {base:Heap}
def RowsA (H:Hp) (bs:List Addr) (R:List (List Int)):Prop:=bs.length=R.length∧∀ (i:Nat) (b:Addr) (row:List Int),bs[i]?=some b->R[i]?=some row->H b=some (.tup (row.map V.int))
theorem RowsA.snoc {H H':Hp} {bs:List Addr} {R:List (List Int)} {b:Addr} {row:List Int} (h:RowsA H bs R) (s:∀ c ys,H c=some (.tup ys)->H' c=some (.tup ys)) (hb:H' b=some (.tup (row.map V.int))):RowsA H' (bs++[b]) (R++[row]):=by
 refine ⟨by rw [List.length_append,List.length_append,h.1]; rfl,fun i c r e1 e2=>?_⟩
 rcases Nat.lt_or_ge i bs.length with z | z
 ·rw [List.getElem?_append_left z] at e1
  rw [List.getElem?_append_left (by rw [←h.1]; exact z)] at e2
  exact s _ _ (h.2 i c r e1 e2)
 ·have hi:i<bs.length+1:=by
   have:=(List.getElem?_eq_some_iff.mp e1).1
   rw [List.length_append] at this
   exact this
  have hi2:i=bs.length:=by omega
  subst hi2
  rw [List.getElem?_append_right (Nat.le_refl _),Nat.sub_self] at e1
  rw [h.1,List.getElem?_append_right (Nat.le_refl _),Nat.sub_self] at e2
  cases e1
  cases e2
  exact hb
theorem RowsA.keep {H H':Hp} {bs:List Addr} {R:List (List Int)} (h:RowsA H bs R) (s:∀ c ys,H c=some (.tup ys)->H' c=some (.tup ys)):RowsA H' bs R:=⟨h.1,fun i b r e1 e2=>s _ _ (h.2 i b r e1 e2)⟩
theorem SameB.tup {x:Addr} {H H':Hp} (h:SameB x H H') (hx:∀ ys,H x≠some (.tup ys)):∀ c ys,H c=some (.tup ys)->H' c=some (.tup ys):=fun c ys e=>h c _ (fun z=>hx ys (z ▸ e)) e
theorem lands_len {φ:Int->Int} {n:Nat} (PM:Perm1 φ n) {i:Nat} (hi:i≤n):(landsF φ i).flatten.length≤n∧(landsF φ i).length≤n:=by
 have L:=landsF_ok PM i hi
 have inn:∀ x∈(landsF φ i).flatten,InR n x:=fun x hx=>by
  obtain ⟨r,hr,hx⟩:=List.mem_flatten.mp hx
  obtain ⟨s,hs,_,e,_⟩:=L.of r hr
  subst e
  exact ring_in PM hs hx
 have h1:=len_le n _ L.nd inn
 refine ⟨h1,Nat.le_trans ?_ h1⟩
 have:∀ R:List (List Int),(∀ r∈R,1≤r.length)->R.length≤R.flatten.length:=by
  intro R
  induction R with
  | nil=>intro _; exact Nat.le_refl _
  | cons r R ih =>
   intro h
   have h2:=ih fun r' hr'=>h r' (List.mem_cons_of_mem _ hr')
   have h3:=h r (List.mem_cons_self ..)
   rw [List.flatten_cons,List.length_append,List.length_cons]
   omega
 refine this _ fun r hr=>?_
 obtain ⟨s,hs,_,e,_⟩:=L.of r hr
 subst e
 exact List.length_pos_of_mem (ring_self PM hs)
inductive SpRingsR (vs:List V) (H:Hp) (Q:VK):Prop
 | mk (a:Addr) (bs:List Addr) (ts:List (List Int)) (n:Nat) (h_0:vs=[.ref a]) (h_1:TsA H a bs ts) (h_2:Turns n ts) (h_3:n≤1000) (h_4:∀ p cs H',Same H H'->H p=none->H' p=some (.tup (cs.map V.ref))->RowsA H' cs (landsF (nxt ts) n)->Q (.ref p) H'):SpRingsR vs H Q
def spRings:Sp:=fun vs H Q _=>SpRingsR vs H Q
theorem scRs:FnScope ["turns","ahead","seen","lands","start","ring","end"] ["turns"] (defScope sRings):=⟨rfl,rfl,rfl,by decide +kernel,rfl,by decide +kernel,by decide +kernel⟩
theorem ok_rings {f g h:Addr} {fd gd hd':FuncData} (F:Fun K "rings" "rings" sRings f fd) (G:FnOk P w K mg base CX0 1 g gd ["turns"] spAhead) (bG:Binds K gd ["turns"] []) (kG:PySem.W.keepIn K (.ref g)=true) (mG:mg "ends_ahead" = some (.ref g))
  (G2:FnOk P w K mg base CX0 2 h hd' ["start","ahead"] spRing) (bG2:Binds K hd' ["start","ahead"] []) (kG2:PySem.W.keepIn K (.ref h)=true) (mG2:mg "ring_from" = some (.ref h))
  (ml:mg "len" = none) (mr:mg "range" = none) (mt:mg "tuple" = none):FnOk P w K mg base CX0 3 f fd ["turns"] spRings:=by
 refine F.ok scRs (fun vs H Q E h=>?_) (fun cdv A outer s H vs Q E hr h=>?_)
 ·obtain ⟨a,bs,ts,n,rfl,_⟩:=h
  rfl
 obtain ⟨a,bs,ts,n,rfl,hT,T,hn,q⟩:=h
 have hu:=hu_of hr
 have PM:=T.perm
 refine ⟨_,pss_cons (ps_set (i:=1) scRs.nd rfl (Or.inl rfl) (pe_call G (hr.mono (by decide)) (by rfl) mG kG bG .nil pass0 (pa_cons (pv 0) pa_nil)))
  (pss_cons (ps_set (i:=2) scRs.nd rfl (Or.inl rfl) pe_dnewK)
  (pss_cons (ps_set (i:=3) scRs.nd rfl (Or.inl rfl) (pe_lst pa_nil))
  (pss_cons (ps_for PassesOwn.never rfl (pi_range1 (by rfl) mr (pa_cons (pe_callB call_lenD (by rfl) ml bt_len (pa_cons (pv 1) pa_nil)) pa_nil)) (pg_name (i:=4) scRs.nd rfl (Or.inl rfl))
   (pss_one (ps_if (pt_cmp (pc_dnotin hu (pv 4) (pv 2)))
    (pss_cons (ps_set (i:=5) scRs.nd rfl (Or.inl rfl) (pe_call G2 hr (by rfl) mG2 kG2 bG2 .nil pass0 (pa_cons (pv 4) (pa_cons (pv 1) pa_nil))))
    (pss_cons (ps_for PassesOwn.never rfl (pi_tup (pv 5)) (pg_name (i:=6) scRs.nd rfl (Or.inl rfl)) (pss_one (ps_dput hu (pv 2) (pv 6) pe_bl rfl)))
    (pss_one (ps_expr (pe_bmK K PySem.F.plainAttrs_list PySem.F.slot_list_append PySem.F.type_list_append mt_append (pv 3) (pa_cons (pv 5) pa_nil)))))) pss_nil)))
  (pss_one (ps_ret (pe_callTy call_tuple_of (by rfl) mt bt_tuple (pa_cons (pv 3) pa_nil))))))),?_⟩
 refine ⟨_,rfl,a,bs,ts,n,rfl,hT,T,hn,fun d H1 s1 nd hd=>?_⟩
 intro sn hsn
 refine ⟨by show 0≤sizeLine; decide,fun ld hld=>?_⟩
 have s2:Same H1 (upd H1 sn (.dK [])):=same_new hsn _
 have s3:Same (upd H1 sn (.dK [])) (upd (upd H1 sn (.dK [])) ld (.lst [])):=same_new hld _
 have dsn:d≠sn:=ne_of_none hd hsn
 have lsn:ld≠sn:=fun z=>by rw [z,upd_same] at hld; cases hld
 have dld:d≠ld:=ne_of_none (s2 _ _ hd) hld
 have fsn:H sn=none:=s1.free hsn
 have fld:H ld=none:=(s1.trans s2).free hld
 have hlenA:(kvI (aheadL ts)).length=n:=by rw [List.length_map,T.alen]
 try dsimp only
 try refine name_goH ?_
 first | refine seq_hide fun UL1 hUL1=>?_ | refine nx_hide fun UL1 hUL1=>?_
 refine ⟨_,rfl,d,_,rfl,s3 _ _ (s2 _ _ hd),((kvI (aheadL ts)).length:Int),rfl,by omega,by omega,?_⟩
 rw [show (((kvI (aheadL ts)).length:Int)).toNat=n by omega]
 refine for_range (n:=n) (fun i σ H2=>∃ st rg en cs,σ=[some (.ref a),some (.ref d),some (.ref sn),some (.ref ld),st,rg,en]∧Same H H2∧H2 d=some (.dK (kvI (aheadL ts)))∧H2 sn=some (.dK (kvT (landsF (nxt ts) i).flatten)) ∧
  H2 ld=some (.lst (cs.map V.ref))∧RowsA H2 cs (landsF (nxt ts) i)) ⟨none,none,none,[],rfl,s1.trans (s2.trans s3),s3 _ _ (s2 _ _ hd),?_,upd_same,⟨rfl,fun i b row e1 e2=>by simp at e1⟩⟩ ?_ ?_
 ·rw [upd_ne (Ne.symm lsn),upd_same]
  rfl
 ·rintro i σ H2 hi ⟨st,rg,en,cs,rfl,sm,hd2,hsn2,hld2,hR⟩
  have hin:InR n (i:Int):=⟨by omega,by omega⟩
  have L:=landsF_ok PM i (by omega)
  refine ⟨_,rfl,_,rfl,sn,_,rfl,DGet.k (k:=Sum.inl ((0:Int)+(i:Nat))) hsn2,_,rfl,?_⟩
  rw [val_kvT,show (0:Int)+(i:Nat)=(i:Int) by omega]
  by_cases hm:(i:Int)∈(landsF (nxt ts) i).flatten
  ·rw [if_pos hm]
   have e0:=landsF_pos hm
   refine iteF ⟨_,_,_,cs,rfl,sm,hd2,?_,hld2,?_⟩
   ·rw [hsn2,e0]
   ·rw [e0]
    exact hR
  ·rw [if_neg hm]
   refine iteT ?_
   have e1:=landsF_neg hm
   refine ⟨_,rfl,_,rfl,(i:Int),d,ts,n,rfl,hd2,T,hn,hin,fun r H3 s4 nr hr3=>?_⟩
   have sm3:=sm.trans s4
   have rsn:r≠sn:=fun z=>by rw [z,hsn2] at nr; cases nr
   have ll:=lands_len PM (i:=i+1) (by omega)
   rw [e1,List.flatten_append,List.length_append,List.length_append] at ll
   simp only [List.flatten_cons,List.flatten_nil,List.append_nil,List.length_singleton] at ll
   try dsimp only
   try refine name_goH ?_
   first | refine seq_hide fun UL2 hUL2=>?_ | refine nx_hide fun UL2 hUL2=>?_
   refine ⟨_,rfl,r,rfl,⟨_,SqT.of hr3⟩,?_⟩
   refine for_tup (xs:=(ring (nxt ts) i).map V.int) (fun k σ H4=>∃ en,σ=[some (.ref a),some (.ref d),some (.ref sn),some (.ref ld),some (.int (i:Int)),some (.ref r),en]∧SameB sn H3 H4∧H4 sn=some (.dK (kvT ((landsF (nxt ts) i).flatten++(ring (nxt ts) i).take k))))
    ⟨en,rfl,SameB.refl _ _,by rw [List.take_zero,List.append_nil]; exact s4 _ _ hsn2⟩ (fun k σ H4 _ ⟨_,_,sb,_⟩=>SqT.of (sb _ _ rsn hr3)) ?_ ?_
   ·rintro k x σ H4 hx ⟨en4,rfl,sb,hs4⟩
    obtain ⟨e,rfl,he⟩:=int_at hx
    have fr:e∉(landsF (nxt ts) i).flatten++(ring (nxt ts) i).take k:=by
     have nd2:=(landsF_ok PM (i+1) (by omega)).nd
     rw [e1] at nd2
     have hii:(landsF (nxt ts) i++[ring (nxt ts) i])[(landsF (nxt ts) i).length]?=some (ring (nxt ts) i):=by
      rw [List.getElem?_append_right (Nat.le_refl _),Nat.sub_self]
      rfl
     have:=fresh_end nd2 hii he
     rw [List.take_append_of_le_length (Nat.le_refl _),List.take_length] at this
     exact this
    refine ⟨_,rfl,_,rfl,sn,_,rfl,DPut.k (k:=Sum.inl e) hs4 ?_,?_⟩
    ·rw [List.length_map,List.length_append,List.length_take]
     exact szl (by omega)
    ·refine ⟨_,rfl,sb.put _,?_⟩
     rw [upd_same,put_kvT fr,List.append_assoc,take_snoc he]
   ·rintro σ H4 ⟨en4,rfl,sb,hs4⟩
    subst hUL2
    rw [List.length_map,List.take_length] at hs4
    have hld4:H4 ld=some (.lst (cs.map V.ref)):=sb _ _ lsn (s4 _ _ hld2)
    refine ⟨_,rfl,.inl ⟨rfl,_,SqL.of hld4⟩,_,rfl,ld,_,_,rfl,rfl,hld4,by rw [List.length_map,hR.1]; exact szl (by omega),?_⟩
    have tups:∀ c ys,H3 c=some (.tup ys)->(upd H4 ld (.lst (cs.map V.ref++[.ref r]))) c=some (.tup ys):=fun c ys e=>by
     have n1:c≠sn:=fun z=>by rw [z,s4 _ _ hsn2] at e; cases e
     have n2:c≠ld:=fun z=>by rw [z,s4 _ _ hld2] at e; cases e
     rw [upd_ne n2]
     exact sb _ _ n1 e
    refine ⟨_,_,_,cs++[r],rfl,?_,?_,?_,?_,?_⟩
    ·exact (sb.same sm3 fsn).up fld _
    ·rw [upd_ne dld]
     exact sb _ _ dsn (s4 _ _ hd2)
    ·rw [upd_ne (Ne.symm lsn),hs4,e1,List.flatten_append]
     simp
    ·rw [upd_same,List.map_append]
     rfl
    ·rw [e1]
     exact (hR.keep fun c ys e=>s4 _ _ e).snoc tups (tups _ _ hr3)
 ·rintro σ H2 ⟨st,rg,en,cs,rfl,sm,hd2,hsn2,hld2,hR⟩
  subst hUL1
  refine ⟨_,rfl,ld,_,rfl,.inl ⟨SqL.of hld2,fun p hp=>?_⟩⟩
  exact q p cs _ (sm.trans (same_new hp _)) (sm.free hp) upd_same (hR.keep fun c ys e=>same_new hp _ _ _ e)
end
end My
namespace My
open PySem L2 Mth
abbrev Rope:Type:=Nat×Nat×Rat
def RopeR (H:Hp) (b:Addr) (r:Rope):Prop:=∃ e,H b=some (.tup [.int (r.1:Int),.int (r.2.1:Int),.ref e])∧FrR H e r.2.2
theorem mo_rope:Mo RopeR:=fun s ⟨e,h1,h2⟩=>⟨e,s _ _ h1,s _ _ h2⟩
theorem t3_0 (x y z:V):atI [x,y,z] 0=some x:=atI_nat (j:=0) rfl
theorem t3_1 (x y z:V):atI [x,y,z] 1=some y:=atI_nat (j:=1) rfl
theorem t3_2 (x y z:V):atI [x,y,z] 2=some z:=atI_nat (j:=2) rfl
theorem at0 {x y:V}:atI [x,y] 0=some x:=atI_nat (j:=0) rfl
theorem at1 {x y:V}:atI [x,y] 1=some y:=atI_nat (j:=1) rfl
structure EaseK (q:Rat):Prop where
 pos:0<q.num
 top:q.num<10 ^ 40
 bot:(q.den:Int)<10 ^ 40
section
variable {P:Program} {w:World} {K:PySem.W.Frag} {mg:Str->Option Value} {base:Heap} {f g h f1 f2 f3 f4:Addr} {fd gd hd d1 d2 d3 d4:FuncData}
inductive SpGcdR (vs:List V) (H:Hp) (Q:VK):Prop
 | mk (a b:Int) (h_0:vs=[.int a,.int b]) (h_1:Q (.int (Int.gcd a b:Int)) H):SpGcdR vs H Q
def spGcd:Sp:=fun vs H Q _=>SpGcdR vs H Q
theorem scIE:FnScope ["ease","beyond","number"] ["ease"] (defScope s_is_ease):=⟨rfl,rfl,rfl,by decide +kernel,rfl,by decide +kernel,by decide +kernel⟩
theorem scCN:FnScope ["places","ropes"] ["places","ropes"] (defScope s_check_numbers):=⟨rfl,rfl,rfl,by decide +kernel,rfl,by decide +kernel,by decide +kernel⟩
theorem sIxT2 {n:Nat} (h:2≤n):HT.sIx n n (some 2)=2:=by simp [HT.sIx]; omega
theorem scCR:FnScope ["places","number","rope","place"] ["places","number","rope"] (defScope s_check_rope):=⟨rfl,rfl,rfl,by decide +kernel,rfl,by decide +kernel,by decide +kernel⟩
end
end My
namespace My
open PySem L2 Mth
def begL (t:List Int):List Int:=t.drop (t.idxOf (leastL t))++t.take (t.idxOf (leastL t))
theorem leastL_is {t:List Int} {m:Int} (hm:m∈t) (h:∀ a∈t,m≤a):leastL t=m:=by
 obtain ⟨h1,h2⟩:=leastL_ok (l:=t) (List.ne_nil_of_mem hm)
 have:=h _ h1
 have:=h2 _ hm
 omega
theorem cut_take (xs:List V) {j:Nat} (h:j≤xs.length):cutV xs none (some (j:Int))=xs.take j:=by
 unfold cutV
 have e1:HT.sIx xs.length 0 none=0:=rfl
 have e2:HT.sIx xs.length xs.length (some (j:Int))=j:=by simp [HT.sIx]; rw [if_neg (by omega)]; omega
 rw [e1,e2]; simp
theorem cut_drop (xs:List V) {j:Nat} (h:j≤xs.length):cutV xs (some (j:Int)) none=xs.drop j:=by
 unfold cutV
 have e1:HT.sIx xs.length 0 (some (j:Int))=j:=by simp [HT.sIx]; rw [if_neg (by omega)]; omega
 have e2:HT.sIx xs.length xs.length none=xs.length:=rfl
 rw [e1,e2,List.take_of_length_le]; simp
theorem szle {n:Nat} (h:n≤100000):n≤sizeLine:=Nat.le_of_lt (szl h)
theorem sIx_nat {n j d:Nat} (h:j≤n):HT.sIx n d (some (j:Int))=j:=by simp [HT.sIx]; rw [if_neg (by omega)]; omega
theorem sIx_non (n d:Nat):HT.sIx n d none=d:=rfl
section
variable {P:Program} {w:World} {K:PySem.W.Frag} {mg:Str->Option Value} {base:Heap} {f g h f1 f2 f3 f4:Addr} {fd gd hd d1 d2 d3 d4:FuncData}
inductive SpBegR (vs:List V) (H:Hp) (Q:VK):Prop
 | mk (a:Addr) (t:List Int) (h_0:vs=[.ref a]) (h_1:H a=some (.tup (t.map V.int))) (h_2:t≠[]) (h_3:t.length≤1000) (h_4:∀ p H',Same H H'->H' p=some (.tup ((begL t).map V.int))->Q (.ref p) H'):SpBegR vs H Q
def spBeg:Sp:=fun vs H Q _=>SpBegR vs H Q
theorem scBe:FnScope ["turn","cut"] ["turn"] (defScope s_begun_least):=⟨rfl,rfl,rfl,by decide +kernel,rfl,by decide +kernel,by decide +kernel⟩
theorem ok_beg (F:Fun K "begun_least" "begun_least" s_begun_least f fd) (mn:mg "min" = none):FnOk P w K mg base CX0 1 f fd ["turn"] spBeg:=by
 refine F.ok scBe (fun vs H Q E h=>?_) (fun cdv A outer s H vs Q E hr h=>?_)
 ·obtain ⟨a,t,rfl,_⟩:=h
  rfl
 obtain ⟨a,t,rfl,ha,ht,hl,q⟩:=h
 refine ⟨_,pss_cons (ps_set (i:=1) scBe.nd rfl (Or.inl rfl) (pe_bmT PySem.F.plainAttrs_tuple PySem.F.slot_tuple_index PySem.F.type_tuple_index mt_indexT (pv 0) (pa_cons (pe_callB (call_minT rfl) (by rfl) mn bt_min (pa_cons (pv 0) pa_nil)) pa_nil)))
  (pss_one (ps_ret (pe_op op_catT (pe_slice (slTA (K:=K)) (pv 0) (po_some (pv 1)) po_none) (pe_slice (slTA (K:=K)) (pv 0) po_none (po_some (pv 1)))))),?_⟩
 have tl:0<t.length:=List.length_pos_iff.mpr ht
 refine ⟨_,rfl,⟨a,_,rfl,ha⟩,_,rfl,a,t,rfl,ha,tl,fun m mm mle=>?_⟩
 refine ⟨a,t,m,rfl,rfl,ha,mm,?_⟩
 have em:=leastL_is mm mle
 have hc:t.idxOf m<t.length:=List.idxOf_lt_length_iff.mpr mm
 have eb:begL t=t.drop (t.idxOf m)++t.take (t.idxOf m):=by unfold begL; rw [em]
 generalize t.idxOf m=c at hc eb
 refine ⟨_,rfl,_,rfl,_,rfl,a,_,rfl,SqT.of ha,fun z=>?_,fun z p hp=>?_⟩
 ·-- the whole turn
  have c0:c=0:=by rw [sIx_nat (by rw [List.length_map]; omega)] at z; exact z.1
  subst c0
  refine ⟨_,rfl,_,rfl,_,rfl,a,_,rfl,SqT.of ha,fun z2=>?_,fun z2 p2 hp2=>?_⟩
  ·have:=z2.2
   rw [sIx_nat (Nat.zero_le _),List.length_map] at this
   omega
  ·refine ⟨a,p2,_,[],rfl,rfl,SqT.of (same_new hp2 _ _ _ ha),?_,?_,?_,fun _=>?_,fun z3=>absurd rfl z3⟩
   ·rw [show cutV (t.map V.int) none (some ((0:Nat):Int))=[] by rw [cut_take _ (Nat.zero_le _)]; rfl]; exact SqT.of upd_same
   ·intro z4
    have:=congrArg List.length z4
    simp at this
    exact ht this
   ·rw [List.length_map]; exact szle (by simp; omega)
   ·refine q a _ (same_new hp2 _) ?_
    rw [eb]
    simpa using same_new hp2 _ _ _ ha
 ·have ec:cutV (t.map V.int) (some (c:Int)) none=(t.drop c).map V.int:=by rw [cut_drop _ (by rw [List.length_map]; omega),List.map_drop]
  rw [ec]
  have s1:=same_new hp (.tup ((t.drop c).map V.int))
  have g1:(upd H p (.tup ((t.drop c).map V.int))) p=some (.tup ((t.drop c).map V.int)):=upd_same
  generalize upd H p (.tup ((t.drop c).map V.int))=H1 at s1 g1
  have cn:c≠0:=fun e=>z (by subst e; rw [sIx_nat (Nat.zero_le _)]; exact ⟨rfl,rfl⟩)
  refine ⟨_,rfl,_,rfl,_,rfl,a,_,rfl,SqT.of (s1 _ _ ha),fun z2=>?_,fun z2 p2 hp2=>?_⟩
  ·have:=z2.2
   rw [sIx_nat (by rw [List.length_map]; omega),List.length_map] at this
   omega
  ·have ec2:cutV (t.map V.int) none (some (c:Int))=(t.take c).map V.int:=by rw [cut_take _ (by rw [List.length_map]; omega),List.map_take]
   rw [ec2]
   have s2:=same_new hp2 (.tup ((t.take c).map V.int))
   have g2:(upd H1 p2 (.tup ((t.take c).map V.int))) p2=some (.tup ((t.take c).map V.int)):=upd_same
   generalize upd H1 p2 (.tup ((t.take c).map V.int))=H2 at s2 g2
   refine ⟨p,p2,_,_,rfl,rfl,SqT.of (s2 _ _ g1),SqT.of g2,?_,?_,fun z3=>?_,fun _ p3 hp3=>?_⟩
   ·intro z4
    have:=congrArg List.length z4
    simp at this
    omega
   ·simp; exact szle (by omega)
   ·have:=congrArg List.length z3
    rw [List.length_map,List.length_take] at this
    have e0:([]:List V).length=0:=rfl
    omega
   ·refine q p3 _ (s1.trans (s2.trans (same_new hp3 _))) ?_
    rw [upd_same,eb,List.map_append]
end
end My
namespace My
open PySem L2 Mth
def IntsT (H:Hp) (b:Addr) (ns:List Int):Prop:=H b=some (.tup (ns.map V.int))
theorem mo_intsT:Mo IntsT:=fun s h=>s _ _ h
theorem IntsT.del {H:Hp} {a b:Addr} {t:List Int} {ys:List V} (h:IntsT H b t) (e:H a=some (.lst ys)):IntsT (del H a) b t:=del_at h fun z=>by rw [z] at h; unfold IntsT at h; rw [e] at h; cases h
def addT (l:List Int) (e:Int):List Int:=if e∈l then l else l++[e]
theorem put_addT (l:List Int) (e:Int):putK (kvT l) (Sum.inl e:Key) (.bl true)=kvT (addT l e):=by
 unfold addT
 by_cases h:e∈l
 ·rw [if_pos h]
  have a:valV (kvT l) (Sum.inl e:Key)=some (.bl true):=by rw [val_kvT,if_pos h]
  unfold putK
  rw [valV_any,a,if_pos (show (some (V.bl true)).isSome=true from rfl)]
  unfold kvT
  rw [List.map_map]
  refine List.map_congr_left fun x _=>?_
  show (if (Sum.inl x:Key)=Sum.inl e then ((Sum.inl x:Key),V.bl true) else (Sum.inl x,V.bl true))=_
  split <;> rfl
 ·rw [if_neg h,put_kvT h]
theorem mem_addT {l:List Int} {e x:Int}:x∈addT l e↔x∈l∨x=e:=by
 unfold addT
 split
 ·rename_i h
  constructor
  ·exact .inl
  ·rintro (z | rfl)
   ·exact z
   ·exact h
 ·simp
theorem nd_addT {l:List Int} {e:Int} (h:l.Nodup):(addT l e).Nodup:=by
 unfold addT
 split
 ·exact h
 ·rename_i z
  rw [List.nodup_append]
  exact ⟨h,by simp,fun a ha b hb=>by rw [List.mem_singleton] at hb; subst hb; exact fun q=>z (q ▸ ha)⟩
theorem len_addT (l:List Int) (e:Int):l.length≤(addT l e).length∧((addT l e).length=l.length->addT l e=l):=by
 unfold addT
 split
 ·exact ⟨Nat.le_refl _,fun _=>rfl⟩
 ·refine ⟨by simp,fun h=>?_⟩
  simp at h
structure LedK (n:Nat) (s:Int) (rs:List Rope) (l:List Int):Prop where
 nd:l.Nodup
 inn:∀ x∈l,InR n x
 st:s∈l
 least:∀ S:Int->Prop,S s->(∀ r∈rs,(S r.1↔S r.2.1))->∀ x∈l,S x
theorem LedK.len {n:Nat} {s:Int} {rs:List Rope} {l:List Int} (k:LedK n s rs l):l.length≤n:=len_le n _ k.nd k.inn
theorem LedK.add {n:Nat} {s:Int} {rs:List Rope} {l:List Int} (k:LedK n s rs l) {r:Rope} (hr:r∈rs) (h:(r.1:Int)∈l∨(r.2.1:Int)∈l) {e:Int} (he:e=r.1∨e=r.2.1) (hi:InR n e):LedK n s rs (addT l e):=by
 refine ⟨nd_addT k.nd,fun x hx=>?_,mem_addT.mpr (.inl k.st),fun S h0 hc x hx=>?_⟩
 ·rcases mem_addT.mp hx with z | rfl
  ·exact k.inn x z
  ·exact hi
 ·rcases mem_addT.mp hx with z | rfl
  ·exact k.least S h0 hc x z
  ·have:=hc r hr
   rcases h with h | h <;> have h2:=k.least S h0 hc _ h <;> rcases he with rfl | rfl
   ·exact h2
   ·exact this.mp h2
   ·exact this.mpr h2
   ·exact h2
section
variable {P:Program} {w:World} {K:PySem.W.Frag} {mg:Str->Option Value} {base:Heap} {f g h f1 f2 f3 f4:Addr} {fd gd hd d1 d2 d3 d4:FuncData}
inductive SpToldR (vs:List V) (H:Hp) (Q:VK):Prop
 | mk (a:Addr) (ts:List (List Int)) (h_0:vs=[.ref a]) (h_1:TupR IntsT H a ts) (h_2:ts.length≤1000) (h_3:(∀ t∈ts,t≠[]∧t.length≤1000)) (h_4:∀ p H',Same H H'->TupR IntsT H' p (ts.map begL)->Q (.ref p) H'):SpToldR vs H Q
def spTold:Sp:=fun vs H Q _=>SpToldR vs H Q
theorem scTo:FnScope ["turns"] ["turns"] (defScope s_told_turns):=⟨rfl,rfl,rfl,by decide +kernel,rfl,by decide +kernel,by decide +kernel⟩
theorem ndTurn:(["turn"]:List Str).Nodup:=by decide +kernel
theorem ok_told (F:Fun K "told_turns" "told_turns" s_told_turns f fd) (G:FnOk P w K mg base CX0 1 g gd ["turn"] spBeg) (bG:Binds K gd ["turn"] []) (kG:PySem.W.keepIn K (.ref g)=true) (mG:mg "begun_least" = some (.ref g)) (mt:mg "tuple" = none):FnOk P w K mg base CX0 2 f fd ["turns"] spTold:=by
 refine F.ok scTo (fun vs H Q E h=>?_) (fun cdv A outer s H vs Q E hr h=>?_)
 ·obtain ⟨a,ts,rfl,_⟩:=h
  rfl
 obtain ⟨a,ts,rfl,⟨bs,ha,hB⟩,hl,ht,q⟩:=h
 refine ⟨_,pss_one (ps_ret (pe_callTy (callTup (K:=K)) (by rfl) mt bt_tuple (pa_cons (pe_comp (Nc:=["turn"]) (cap:=[]) (g:=gName 0) (te:=tCall spBeg [] E0 (tCons (tVar 0) tNil)) rfl (piTup (K:=K) (pv 0))
   (comp_mk rfl rfl (by decide +kernel) (by decide +kernel) (List.forall_mem_nil _) rfl (List.forall_mem_nil _)) (fun C fp pins s' H'=>pg_name (i:=0) ndTurn rfl (Or.inl rfl))
   (fun C fp pins s' H'=>pe_call G hr (by rfl) mG kG bG .nil pass0 (pa_cons (pv 0) pa_nil))) pa_nil))),?_⟩
 have lb:bs.length=ts.length:=hB.1
 refine ⟨_,rfl,a,rfl,⟨_,SqT.of ha⟩,fun acc hacc=>?_⟩
 refine comp_run (run_tup ha) (by rw [List.length_map]; omega) hacc (fun i ys σ hp=>∃ ds:List Addr,ys=ds.map V.ref∧At IntsT hp ds ((ts.map begL).take i)∧∃ u,σ=[u]) ⟨[],rfl,At.nil,none,rfl⟩ ?_ ?_
 ·rintro i ys σ H3 x H4 hi sm hacc2 ⟨ds,rfl,hD,u,rfl⟩ ⟨rfl,hx⟩ Cc hC
  obtain ⟨c,t,rfl,_,hy,hc⟩:=hB.ref hx
  obtain ⟨t1,t2⟩:=ht t (List.mem_of_getElem? hy)
  refine ⟨_,rfl,c,t,rfl,sm _ _ hc,t1,t2,fun p H5 s5 hp=>?_⟩
  refine hC _ _ _ s5 ⟨ds++[p],by simp,?_,_,rfl⟩
  have ec:(ts.map begL)[i]?=some (begL t):=by rw [List.getElem?_map,hy]; rfl
  rw [take_snoc ec]
  exact (hD.keep mo_intsT (del_mono acc s5)).snoc (IntsT.del (t:=begL t) hp (s5 _ _ hacc2))
 ·rintro ys σ H4 s4 ha4 hl4 ⟨gs,rfl,hG,u,rfl⟩
  rw [List.length_map,lb,List.take_of_length_le (by rw [List.length_map]; exact Nat.le_refl _)] at hG
  refine ⟨acc,_,rfl,.inl ⟨SqL.of ha4,fun p hp=>?_⟩⟩
  have sp:=same_new hp (.tup (gs.map V.ref))
  exact q p _ (s4.trans sp) ⟨gs,upd_same,(hG.keep mo_intsT (del_sub H4 acc)).keep mo_intsT sp⟩
theorem scFl:FnScope ["places","ropes","turns","lands"] ["places","ropes","turns"] (defScope s_check_flat):=⟨rfl,rfl,rfl,by decide +kernel,rfl,by decide +kernel,by decide +kernel⟩
inductive SpLedR (vs:List V) (H:Hp) (Q:VK):Prop
 | mk (s:Int) (a:Addr) (n:Nat) (rs:List Rope) (h_0:vs=[.int s,.ref a]) (h_1:InR n s) (h_2:n≤100) (h_3:TupR RopeR H a rs) (h_4:(∀ r∈rs,r.1<n∧r.2.1<n)) (h_5:∀ d l H',Same H H'->H' d=some (.dK (kvT l))->LedK n s rs l->(∀ r∈rs,((r.1:Int)∈l↔(r.2.1:Int)∈l))->Q (.ref d) H'):SpLedR vs H Q
def spLed:Sp:=fun vs H Q _=>SpLedR vs H Q
theorem scLd:FnScope ["start","ropes","met","before","rope"] ["start","ropes"] (defScope s_led_to):=⟨rfl,rfl,rfl,by decide +kernel,rfl,by decide +kernel,by decide +kernel⟩
theorem ok_led (F:Fun K "led_to" "led_to" s_led_to f fd) (ml:mg "len" = none):FnOk P w K mg base CX0 1 f fd ["start","ropes"] spLed:=by
 refine F.ok scLd (fun vs H Q E h=>?_) (fun cdv A outer s H vs Q E hr h=>?_)
 ·obtain ⟨s,a,n,rs,rfl,_⟩:=h
  rfl
 obtain ⟨s0,a,n,rs,rfl,hs,hn,⟨bs,ha,hB⟩,hrs,q⟩:=h
 have hu:=hu_of hr
 refine ⟨_,pss_cons (ps_set (i:=2) scLd.nd rfl (Or.inl rfl) (pe_disp (pps_cons (pv 0) pe_bl pps_nil) rfl rfl (by simp) (by decide)))
  (pss_cons (ps_set (i:=3) scLd.nd rfl (Or.inl rfl) pe_int)
  (pss_cons (ps_while PassesOwn.never (pt_cmpR op_lt (pv 3) (pe_callB call_lenD (by rfl) ml bt_len (pa_cons (pv 2) pa_nil)) (nomark _))
   (pss_cons (ps_set (i:=3) scLd.nd rfl (Or.inl rfl) (pe_callB call_lenD (by rfl) ml bt_len (pa_cons (pv 2) pa_nil)))
   (pss_one (ps_for PassesOwn.never rfl (piTup (K:=K) (pv 1)) (pg_name (i:=4) scLd.nd rfl (Or.inl rfl))
    (pss_one (ps_if (PW.pt (pw_or (pt_cmp (pc_din hu (pe_ix (ixT (K:=K)) (pv 4) pe_int (fun _ _=>rfl)) (pv 2))) (pw_or1 (pt_cmp (pc_din hu (pe_ix (ixT (K:=K)) (pv 4) pe_int (fun _ _=>rfl)) (pv 2))))))
     (pss_cons (ps_dput hu (pv 2) (pe_ix (ixT (K:=K)) (pv 4) pe_int (fun _ _=>rfl)) pe_bl rfl) (pss_one (ps_dput hu (pv 2) (pe_ix (ixT (K:=K)) (pv 4) pe_int (fun _ _=>rfl)) pe_bl rfl))) pss_nil))))))
  (pss_one (ps_ret (pv 2))))),?_⟩
 intro d hd
 refine ⟨_,rfl,upd_same,[(Sum.inl s0,.bl true)],rfl,by show 1≤15; decide,?_⟩
 have s1:Same H (upd (upd H d (.dK [])) d (.dK (mergeK [] [(Sum.inl s0,.bl true)]))):=(same_new hd _).up hd _
 have e1:(upd (upd H d (.dK [])) d (.dK (mergeK [] [((Sum.inl s0:Key),V.bl true)]))) d=some (.dK (kvT [s0])):=upd_same
 generalize upd (upd H d (.dK [])) d (.dK (mergeK [] [((Sum.inl s0:Key),V.bl true)]))=H1 at s1 e1
 refine while_by (fun σ H2=>∃ (l:List Int) (b:Nat) (u:Option V),σ=[some (.int s0),some (.ref a),some (.ref d),some (.int (b:Int)),u]∧Same H H2∧H2 d=some (.dK (kvT l))∧LedK n s0 rs l∧b≤l.length∧(b=l.length->∀ r∈rs,((r.1:Int)∈l↔(r.2.1:Int)∈l)))
  (fun σ _=>match σ with | [_,_,_,some (.int b),_]=>n+1-b.toNat | _=>0) ⟨[s0],0,none,rfl,s1,e1,⟨by simp,fun x hx=>by rw [List.mem_singleton] at hx; subst hx; exact hs,by simp,fun S h0 _ x hx=>by rw [List.mem_singleton] at hx; subst hx; exact h0⟩,Nat.zero_le _,fun z=>by simp at z⟩ ?_ ?_
 ·rintro σ H2 ⟨l,b,u,rfl,sm,hd2,k,hb,hcl⟩
  refine ⟨_,rfl,_,rfl,d,_,rfl,hd2,_,_,rfl,rfl,_,rfl,?_⟩
  rw [List.length_map]
  by_cases hlt:b<l.length
  ·refine iteDT (by omega) ?_
   refine ⟨_,rfl,d,_,rfl,hd2,?_⟩
   rw [List.length_map]
   try dsimp only
   try refine name_goH ?_
   first | refine seq_hide fun UL2 hUL2=>?_ | refine nx_hide fun UL2 hUL2=>?_
   refine ⟨_,rfl,a,rfl,⟨_,SqT.of (sm _ _ ha)⟩,?_⟩
   refine for_tup (xs:=bs.map V.ref) (fun i σ H3=>∃ (l':List Int) (u:Option V),σ=[some (.int s0),some (.ref a),some (.ref d),some (.int ((l.length:Nat):Int)),u]∧Same H H3∧H3 d=some (.dK (kvT l'))∧LedK n s0 rs l'∧l.length≤l'.length∧(l.length=l'.length->l'=l∧∀ r∈rs.take i,((r.1:Int)∈l↔(r.2.1:Int)∈l)))
    ⟨l,u,rfl,sm,hd2,k,Nat.le_refl _,fun _=>⟨rfl,by simp⟩⟩ (fun i σ H3 _ ⟨_,_,_,s3,_⟩=>SqT.of (s3 _ _ ha)) ?_ ?_
   ·rintro i x σ H3 hx ⟨l',u',rfl,s3,hd3,k3,le3,cl3⟩
    obtain ⟨c,r,rfl,_,hy,e,hc,he⟩:=hB.ref hx
    have hrm:r∈rs:=List.mem_of_getElem? hy
    obtain ⟨r1,r2⟩:=hrs r hrm
    have hc3:=s3 _ _ hc
    have in1:InR n (r.1:Int):=⟨by omega,by omega⟩
    have in2:InR n (r.2.1:Int):=⟨by omega,by omega⟩
    have go:∀ (hin:(r.1:Int)∈l'∨(r.2.1:Int)∈l'),∃ l2,LedK n s0 rs (addT l' r.1)∧(addT (addT l' r.1) r.2.1)=l2∧LedK n s0 rs l2∧l.length≤l2.length∧(l.length=l2.length->l2=l∧∀ r∈rs.take (i+1),((r.1:Int)∈l↔(r.2.1:Int)∈l)):=by
     intro hin
     have ka:=k3.add hrm hin (.inl rfl) in1
     have kb:=ka.add hrm (.inl (mem_addT.mpr (.inr rfl))) (.inr rfl) in2
     refine ⟨_,ka,rfl,kb,?_,fun hl=>?_⟩
     ·have:=(len_addT l' r.1).1
      have:=(len_addT (addT l' r.1) r.2.1).1
      omega
     ·have a1:=len_addT l' r.1
      have a2:=len_addT (addT l' r.1) r.2.1
      have b1:=a1.2 (by omega)
      have b2:=a2.2 (by omega)
      obtain ⟨rfl,c2⟩:=cl3 (by omega)
      refine ⟨by rw [b2,b1],fun r' hr'=>?_⟩
      rw [take_snoc hy] at hr'
      rcases List.mem_append.mp hr' with z | z
      ·exact c2 r' z
      ·rw [List.mem_singleton] at z
       subst z
       have m1:(r'.1:Int)∈l':=by rw [←b1]; exact mem_addT.mpr (.inr rfl)
       have m2:(r'.2.1:Int)∈l':=by rw [b1] at b2; rw [←b2]; exact mem_addT.mpr (.inr rfl)
       exact ⟨fun _=>m2,fun _=>m1⟩
    refine ⟨_,rfl,c,_,_,_,rfl,rfl,SqT.of hc3,t3_0 _ _ _,_,rfl,d,_,rfl,DGet.k (k:=Sum.inl (r.1:Int)) hd3,_,rfl,?_⟩
    have cd:c≠d:=fun z=>by rw [z,hd3] at hc3; cases hc3
    have sz3:(kvT l').length<sizeLine:=by rw [List.length_map]; have:=k3.len; exact szl (by omega)
    have fin:∀ (hin:(r.1:Int)∈l'∨(r.2.1:Int)∈l') (o:HO),∃ (l'':List Int) (u:Option V),[some (.int s0),some (.ref a),some (.ref d),some (.int ((l.length:Nat):Int)),some (V.ref c)]=[some (.int s0),some (.ref a),some (.ref d),some (.int ((l.length:Nat):Int)),u]∧Same H (upd (upd H3 d o) d (.dK (putK (kvT (addT l' r.1)) (Sum.inl (r.2.1:Int):Key) (.bl true))))∧(upd (upd H3 d o) d (.dK (putK (kvT (addT l' r.1)) (Sum.inl (r.2.1:Int):Key) (.bl true)))) d=some (.dK (kvT l''))∧LedK n s0 rs l''∧l.length≤l''.length∧(l.length=l''.length->l''=l∧∀ r∈rs.take (i+1),((r.1:Int)∈l↔(r.2.1:Int)∈l)):=by
     intro hin o
     obtain ⟨l2,ka,e2,kb,c1,c2⟩:=go hin
     refine ⟨l2,_,rfl,(s3.up hd _).up hd _,?_,kb,c1,c2⟩
     rw [upd_same,put_addT,e2]
    have puts:∀ (hin:(r.1:Int)∈l'∨(r.2.1:Int)∈l'),LedK n s0 rs (addT l' r.1):=fun hin=>(go hin).elim fun _ z=>z.1
    rw [val_kvT]
    by_cases h1:(r.1:Int)∈l'
    ·rw [if_pos h1]
     refine iteT (iteT ?_)
     refine ⟨_,rfl,_,rfl,c,_,_,_,rfl,rfl,SqT.of hc3,t3_0 _ _ _,d,_,rfl,DPut.k (k:=Sum.inl (r.1:Int)) hd3 sz3,?_⟩
     rw [put_addT]
     refine ⟨_,rfl,_,rfl,c,_,_,_,rfl,rfl,SqT.of (by rw [upd_ne cd]; exact hc3),t3_1 _ _ _,d,_,rfl,DPut.k (k:=Sum.inl (r.2.1:Int)) upd_same (by rw [List.length_map]; have:=(puts (.inl h1)).len; exact szl (by omega)),?_⟩
     exact fin (.inl h1) _
    ·rw [if_neg h1]
     refine iteF ?_
     refine ⟨_,rfl,c,_,_,_,rfl,rfl,SqT.of hc3,t3_1 _ _ _,_,rfl,d,_,rfl,DGet.k (k:=Sum.inl (r.2.1:Int)) hd3,_,rfl,?_⟩
     rw [val_kvT]
     by_cases h2:(r.2.1:Int)∈l'
     ·rw [if_pos h2]
      refine iteT ?_
      refine ⟨_,rfl,_,rfl,c,_,_,_,rfl,rfl,SqT.of hc3,t3_0 _ _ _,d,_,rfl,DPut.k (k:=Sum.inl (r.1:Int)) hd3 sz3,?_⟩
      rw [put_addT]
      refine ⟨_,rfl,_,rfl,c,_,_,_,rfl,rfl,SqT.of (by rw [upd_ne cd]; exact hc3),t3_1 _ _ _,d,_,rfl,DPut.k (k:=Sum.inl (r.2.1:Int)) upd_same (by rw [List.length_map]; have:=(puts (.inr h2)).len; exact szl (by omega)),?_⟩
      exact fin (.inr h2) _
     ·rw [if_neg h2]
      refine iteF ?_
      refine ⟨l',_,rfl,s3,hd3,k3,le3,fun z=>?_⟩
      obtain ⟨rfl,c2⟩:=cl3 z
      refine ⟨rfl,fun r' hr'=>?_⟩
      rw [take_snoc hy] at hr'
      rcases List.mem_append.mp hr' with z | z
      ·exact c2 r' z
      ·rw [List.mem_singleton] at z
       subst z
       exact ⟨fun z=>absurd z h1,fun z=>absurd z h2⟩
   ·rintro σ H3 ⟨l',u',rfl,s3,hd3,k3,le3,cl3⟩
    subst hUL2
    rw [List.length_map,hB.1,List.take_length] at cl3
    refine ⟨⟨l',l.length,_,rfl,s3,hd3,k3,le3,fun z=>?_⟩,?_⟩
    ·obtain ⟨rfl,c2⟩:=cl3 z
     exact c2
    ·have:=k.len
     show n+1-((l.length:Nat):Int).toNat<n+1-((b:Nat):Int).toNat
     omega
  ·refine iteDF (by omega) ?_
   exact ⟨_,rfl,q d l H2 sm hd2 k (hcl (by omega))⟩
 ·rintro σ H2 Q1 Q2 hq ⟨v,e,v',e',d',kv,z1,z2,y,y2,z3,z4,b,z5,z⟩
  exact ⟨v,e,v',e',d',kv,z1,z2,y,y2,z3,z4,b,z5,hq _ _ z⟩
theorem scHa:FnScope ["places","ropes","met","place"] ["places","ropes"] (defScope s_check_hanging):=⟨rfl,rfl,rfl,by decide +kernel,rfl,by decide +kernel,by decide +kernel⟩
end
end My
namespace My
open PySem L2 Mth
theorem nd_at {l:List Addr} (h:l.Nodup) {i j:Nat} {b:Addr} (h1:l[i]?=some b) (h2:l[j]?=some b):i=j:=by
 obtain ⟨i1,e1⟩:=List.getElem?_eq_some_iff.mp h1
 obtain ⟨j1,e2⟩:=List.getElem?_eq_some_iff.mp h2
 have hp:=List.pairwise_iff_getElem.mp h
 rcases Nat.lt_trichotomy i j with z | z | z
 ·exact absurd (e1.trans e2.symm) (hp i j i1 j1 z)
 ·exact z
 ·exact absurd (e2.trans e1.symm) (hp j i j1 i1 z)
structure TurnsM (H:Hp) (T:Addr) (bs:List Addr) (ts:List (List Int)):Prop where
 h1:H T=some (.lst (bs.map V.ref))
 rows:At IntsL H bs ts
 nd:(T :: bs).Nodup
theorem TurnsM.keep {H H':Hp} {T:Addr} {bs:List Addr} {ts:List (List Int)} (M:TurnsM H T bs ts) (s:Same H H'):TurnsM H' T bs ts:=⟨s _ _ M.h1,M.rows.keep mo_ints s,M.nd⟩
theorem TurnsM.put {H:Hp} {T b:Addr} {bs:List Addr} {ts:List (List Int)} {i:Nat} {t:List Int} (M:TurnsM H T bs ts) (hb:bs[i]?=some b):TurnsM (upd H b (.lst (t.map V.int))) T bs (ts.set i t):=by
 have bm:b∈bs:=List.mem_of_getElem? hb
 obtain ⟨n1,n2⟩:=List.nodup_cons.mp M.nd
 have e1:T≠b:=fun z=>n1 (by rw [z]; exact bm)
 refine ⟨by rw [upd_ne e1]; exact M.h1,⟨by rw [List.length_set]; exact M.rows.1,fun k c x q1 q2=>?_⟩,M.nd⟩
 by_cases hk:i=k
 ·subst hk
  rw [hb] at q1
  cases q1
  have hl:i<ts.length:=by rw [←M.rows.1]; exact (List.getElem?_eq_some_iff.mp hb).1
  rw [List.getElem?_set_self hl] at q2
  cases q2
  exact upd_same
 ·rw [List.getElem?_set_ne hk] at q2
  have ne:c≠b:=fun z=>hk (nd_at n2 hb (by rw [q1,z]))
  show upd H b _ c=_
  rw [upd_ne ne]
  exact M.rows.2 k c x q1 q2
def endsL (hs:List Nat) (i:Nat):List Int:=((List.range hs.length).filter fun e=>decide (hs[e]?=some i)).map (fun e:Nat=>(e:Int))
theorem endsL_snoc (hs:List Nat) (p i:Nat):endsL (hs++[p]) i=if p=i then endsL hs i++[(hs.length:Int)] else endsL hs i:=by
 unfold endsL
 rw [List.length_append,List.length_singleton,List.range_succ,List.filter_append,List.map_append]
 have e1:(List.range hs.length).filter (fun e=>decide ((hs++[p])[e]?=some i))=(List.range hs.length).filter fun e=>decide (hs[e]?=some i) :=
  List.filter_congr fun x hx=>by rw [List.getElem?_append_left (List.mem_range.mp hx)]
 have e2:(hs++[p])[hs.length]?=some p:=by simp
 rw [e1]
 by_cases h:p=i
 ·rw [if_pos h,List.filter_cons_of_pos (by rw [e2,h]; simp)]; rfl
 ·rw [if_neg h,List.filter_cons_of_neg (by rw [e2]; simpa using h)]; simp
theorem mem_endsL {hs:List Nat} {i:Nat} {x:Int}:x∈endsL hs i↔0≤x∧hs[x.toNat]?=some i:=by
 unfold endsL
 rw [List.mem_map]
 constructor
 ·rintro ⟨e,he,rfl⟩
  rw [List.mem_filter] at he
  exact ⟨by omega,by simpa using he.2⟩
 ·rintro ⟨h0,h1⟩
  refine ⟨x.toNat,List.mem_filter.mpr ⟨List.mem_range.mpr (List.getElem?_eq_some_iff.mp h1).1,by simpa using h1⟩,by omega⟩
theorem endsL_lt (hs:List Nat) (i:Nat):(endsL hs i).Pairwise (· < ·):=by
 unfold endsL
 rw [List.pairwise_map]
 refine List.Pairwise.imp (fun h=>by omega) (List.Pairwise.filter _ (List.pairwise_lt_range))
theorem endsL_len (hs:List Nat) (i:Nat):(endsL hs i).length≤hs.length:=by
 unfold endsL
 rw [List.length_map]
 exact Nat.le_trans (List.length_filter_le _ _) (by simp)
theorem ends_step (hs:List Nat) {p n:Nat} (hp:p<n):(List.range n).map (endsL (hs++[p]))=((List.range n).map (endsL hs)).set p (endsL hs p++[(hs.length:Int)]):=by
 refine List.ext_getElem? fun k=>?_
 by_cases hk:p=k
 ·subst hk
  rw [List.getElem?_set_self (by simpa using hp),List.getElem?_map,List.getElem?_range hp]
  show some _=_
  rw [endsL_snoc,if_pos rfl]
 ·rw [List.getElem?_set_ne hk,List.getElem?_map,List.getElem?_map]
  rcases Nat.lt_or_ge k n with h | h
  ·rw [List.getElem?_range h]
   show some _=some _
   rw [endsL_snoc,if_neg hk]
  ·rw [List.getElem?_eq_none (by simpa using h)]
   rfl
theorem sorted_eq:∀ {l m:List Int},l.Pairwise (·≤·)->m.Pairwise (· < ·)->l.Perm m->l=m
 | [],m,_,_,p=>(List.nil_perm.mp p).symm
 | a :: l,[],_,_,p=>by have:=p.length_eq; simp at this
 | a :: l,b :: m,h1,h2,p=>by
  obtain ⟨a1,a2⟩:=List.pairwise_cons.mp h1
  obtain ⟨b1,b2⟩:=List.pairwise_cons.mp h2
  have e:a=b:=by
   rcases List.mem_cons.mp (p.mem_iff.mp (List.mem_cons_self ..):a∈b :: m) with z | z
   ·exact z
   ·have hb:=b1 a z
    rcases List.mem_cons.mp (p.mem_iff.mpr (List.mem_cons_self ..):b∈a :: l) with y | y
    ·exact y.symm
    ·have:=a1 b y; omega
  subst e
  rw [sorted_eq a2 b2 ((List.perm_cons a).mp p)]
def hm0 (rs:List Rope):List Nat:=rs.flatMap fun r=>[r.1,r.2.1]
def hm (rs:List Rope):List Nat:=hm0 rs++[0,1]
theorem hm0_len:∀ rs:List Rope,(hm0 rs).length=2*rs.length
 | []=>rfl
 | r :: rs=>by show (r.1 :: r.2.1 :: hm0 rs).length=_; simp [hm0_len rs]; omega
theorem hm_len (rs:List Rope):(hm rs).length=2*rs.length+2:=by unfold hm; rw [List.length_append,hm0_len]; rfl
theorem hm0_snoc (rs:List Rope) (r:Rope):hm0 (rs++[r])=hm0 rs++[r.1]++[r.2.1]:=by unfold hm0; simp
structure NetW (n:Nat) (rs:List Rope) (ts:List (List Int)):Prop where
 m1:1≤rs.length
 m14:rs.length≤14
 n2:2≤n
 n15:n≤15
 len:ts.length=n
 tn:Turns (2*rs.length+2) ts
 ne:∀ t∈ts,t≠[]
 ease:∀ r∈rs,EaseK r.2.2∧r.1<n∧r.2.1<n
 home:∀ (p:Nat) (t:List Int),ts[p]?=some t->∀ x:Int,x∈t->(hm rs)[x.toNat]?=some p
 hang:∀ S:Nat->Prop,S 0->(∀ r∈rs,(S r.1↔S r.2.1))->∀ p,p<n->S p
 flat:(n:Int)-rs.length-1+(landsF (nxt ts) (2*rs.length+2)).length=2
theorem flat_sub {ts:List (List Int)} {t:List Int} (h:t∈ts):t.length≤ts.flatten.length:=by
 obtain ⟨A,B,rfl⟩:=List.append_of_mem h
 simp; omega
theorem NetW.tlen {n:Nat} {rs:List Rope} {ts:List (List Int)} (k:NetW n rs ts) {t:List Int} (h:t∈ts):t.length≤30:=by
 have:=flat_sub h
 rw [k.tn.len] at this
 have:=k.m14
 omega
theorem nd_sub {ts:List (List Int)} {t:List Int} (nd:ts.flatten.Nodup) (h:t∈ts):t.Nodup:=by
 obtain ⟨A,B,rfl⟩:=List.append_of_mem h
 rw [List.flatten_append,List.flatten_cons,List.nodup_append,List.nodup_append] at nd
 exact nd.2.1.1
theorem NetW.perm {n:Nat} {rs:List Rope} {ts:List (List Int)} (k:NetW n rs ts) {p:Nat} {t:List Int} (h:ts[p]?=some t):t.Perm (endsL (hm rs) p):=by
 have tm:=List.mem_of_getElem? h
 refine (List.perm_ext_iff_of_nodup (nd_sub k.tn.nd tm) ((endsL_lt _ _).imp fun h=>by omega)).mpr fun x=>?_
 rw [mem_endsL]
 constructor
 ·intro hx
  exact ⟨((k.tn.mem x).mp (List.mem_flatten.mpr ⟨t,tm,hx⟩)).1,k.home p t h x hx⟩
 ·rintro ⟨h0,h1⟩
  have hl:=(List.getElem?_eq_some_iff.mp h1).1
  rw [hm_len] at hl
  obtain ⟨t',ht',hx⟩:=List.mem_flatten.mp ((k.tn.mem x).mpr ⟨h0,by omega⟩)
  obtain ⟨j,hj,e⟩:=List.getElem_of_mem ht'
  have hj2:ts[j]?=some t':=by rw [List.getElem?_eq_getElem hj,e]
  have:=k.home j t' hj2 x hx
  rw [h1] at this
  obtain rfl:p=j:=Option.some.inj this
  rw [h] at hj2
  cases hj2
  exact hx
section
variable {P:Program} {w:World} {K:PySem.W.Frag} {mg:Str->Option Value} {base:Heap} {f g h f1 f2 f3 f4 f5 f6:Addr} {fd gd hd d1 d2 d3 d4 d5 d6:FuncData}
inductive SpEndsR (vs:List V) (H:Hp) (Q:VK):Prop
 | mk (n:Nat) (a:Addr) (rs:List Rope) (h_0:vs=[.int (n:Int),.ref a]) (h_1:2≤n) (h_2:n≤100) (h_3:rs.length≤100) (h_4:TupR RopeR H a rs) (h_5:(∀ r∈rs,r.1<n∧r.2.1<n)) (h_6:∀ p bs H',Same H H'->TurnsM H' p bs ((List.range n).map (endsL (hm rs)))->Q (.ref p) H'):SpEndsR vs H Q
def spEnds:Sp:=fun vs H Q _=>SpEndsR vs H Q
theorem scEn:FnScope ["places","ropes","ends","k","rope","outer"] ["places","ropes"] (defScope s_ends_at):=⟨rfl,rfl,rfl,by decide +kernel,rfl,by decide +kernel,by decide +kernel⟩
theorem ndPl:(["place"]:List Str).Nodup:=by decide +kernel
theorem ok_ends (F:Fun K "ends_at" "ends_at" s_ends_at f fd) (ml:mg "len" = none) (mr:mg "range" = none) (me:mg "enumerate" = none):FnOk P w K mg base CX0 1 f fd ["places","ropes"] spEnds:=by
 refine F.ok scEn (fun vs H Q E h=>?_) (fun cdv A outer s H vs Q E hr h=>?_)
 ·obtain ⟨n,a,rs,rfl,_⟩:=h
  rfl
 obtain ⟨n,a,rs,rfl,n2,n100,hm100,⟨bs,ha,hB⟩,hrs,q⟩:=h
 refine ⟨_,pss_cons (ps_setComp (i:=2) scEn.nd rfl (Or.inl rfl) (Nc:=["place"]) (cap:=[]) (g:=gName 0) (te:=tLst tNil) rfl (pi_range1 (by rfl) mr (pa_cons (pv 0) pa_nil))
   (comp_mk rfl rfl (by decide +kernel) (by decide +kernel) (List.forall_mem_nil _) rfl (List.forall_mem_nil _)) (fun C fp pins s' H'=>pg_name (i:=0) ndPl rfl (Or.inl rfl)) (fun C fp pins s' H'=>pe_lst pa_nil))
  (pss_cons (ps_for PassesOwn.never rfl (pi_enum (by rfl) me (pa_cons (pv 1) pa_nil)) (pgTup (n:=2) (K:=K) rfl (pgs_cons (pg_name (i:=3) scEn.nd rfl (Or.inl rfl)) (pgs_cons (pg_name (i:=4) scEn.nd rfl (Or.inl rfl)) pgs_nil)))
   (pss_cons (ps_expr (pe_bmK K PySem.F.plainAttrs_list PySem.F.slot_list_append PySem.F.type_list_append mt_append (pe_ix (ixL (K:=K)) (pv 2) (pe_ix (ixT (K:=K)) (pv 4) pe_int (fun _ _=>rfl)) (fun _ _=>rfl)) (pa_cons (pe_op op_mul pe_int (pv 3)) pa_nil)))
    (pss_one (ps_expr (pe_bmK K PySem.F.plainAttrs_list PySem.F.slot_list_append PySem.F.type_list_append mt_append (pe_ix (ixL (K:=K)) (pv 2) (pe_ix (ixT (K:=K)) (pv 4) pe_int (fun _ _=>rfl)) (fun _ _=>rfl)) (pa_cons (pe_op op_add (pe_op op_mul pe_int (pv 3)) pe_int) pa_nil))))))
  (pss_cons (ps_set (i:=5) scEn.nd rfl (Or.inl rfl) (pe_callB (callLen (K:=K)) (by rfl) ml bt_len (pa_cons (pv 1) pa_nil)))
  (pss_cons (ps_expr (pe_bmK K PySem.F.plainAttrs_list PySem.F.slot_list_append PySem.F.type_list_append mt_append (pe_ix (ixL (K:=K)) (pv 2) pe_int (fun _ _=>rfl)) (pa_cons (pe_op op_mul pe_int (pv 5)) pa_nil)))
  (pss_cons (ps_expr (pe_bmK K PySem.F.plainAttrs_list PySem.F.slot_list_append PySem.F.type_list_append mt_append (pe_ix (ixL (K:=K)) (pv 2) pe_int (fun _ _=>rfl)) (pa_cons (pe_op op_add (pe_op op_mul pe_int (pv 5)) pe_int) pa_nil)))
  (pss_one (ps_ret (pv 2))))))),?_⟩
 refine ⟨_,rfl,(n:Int),rfl,by omega,by omega,fun acc hacc=>?_⟩
 rw [show ((n:Nat):Int).toNat=n by omega]
 refine comp_run run_range (by omega) hacc (fun i ys σ hp=>∃ ds:List Addr,ys=ds.map V.ref∧At IntsL hp ds (List.replicate i [])∧ds.Nodup∧(∀ d∈ds,H d=none)∧∃ u,σ=[u]) ⟨[],rfl,At.nil,by simp,by simp,none,rfl⟩ ?_ ?_
 ·rintro i ys σ H2 x H3 hi sm hacc2 ⟨ds,rfl,hD,nd,fr,u,rfl⟩ ⟨rfl,rfl⟩ Cc hC
  refine ⟨by show 0≤sizeLine; decide,fun l hl=>?_⟩
  have s1:=same_new hl (.lst [])
  have lacc:l≠acc:=fun z=>by rw [z,hacc2] at hl; cases hl
  refine hC _ _ _ s1 ⟨ds++[l],by simp,?_,?_,?_,_,rfl⟩
  ·rw [List.replicate_succ']
   exact (hD.keep mo_ints (del_mono acc s1)).snoc (show IntsL _ l [] from by unfold IntsL; rw [del_ne lacc]; exact upd_same)
  ·rw [List.nodup_append]
   refine ⟨nd,by simp,fun x hx y hy z=>?_⟩
   rw [List.mem_singleton] at hy
   subst hy
   subst z
   obtain ⟨k,hk,ek⟩:=List.getElem_of_mem hx
   have hl2:k<(List.replicate i ([]:List Int)).length:=by rw [←hD.1]; exact hk
   have h1:=hD.2 k x _ (by rw [List.getElem?_eq_getElem hk,ek]) (List.getElem?_eq_getElem hl2)
   rw [del_sub _ _ _ _ h1] at hl; cases hl
  ·intro d hd'
   rcases List.mem_append.mp hd' with h' | h'
   ·exact fr d h'
   ·rw [List.mem_singleton] at h'; rw [h']; exact sm.free hl
 rintro ys σ1 H2 s2 hacc2 hl2 ⟨ds,rfl,hD,nd,fr,u,rfl⟩
 have e0:(List.range n).map (endsL (hm0 []))=List.replicate n []:=by
  refine List.ext_getElem (by simp) fun i h1 h2=>?_
  simp [endsL,hm0]
 have M0:TurnsM H2 acc ds ((List.range n).map (endsL (hm0 []))):=by
  rw [e0]
  refine ⟨hacc2,hD.keep mo_ints (del_sub H2 acc),List.nodup_cons.mpr ⟨fun z=>?_,nd⟩⟩
  obtain ⟨k,hk,ek⟩:=List.getElem_of_mem z
  have hl2:k<(List.replicate n ([]:List Int)).length:=by rw [←hD.1]; exact hk
  have h1:=hD.2 k acc _ (by rw [List.getElem?_eq_getElem hk,ek]) (List.getElem?_eq_getElem hl2)
  unfold IntsL at h1
  rw [del_self] at h1; cases h1
 have far:∀ {H3:Hp} {b:Addr} {o:HO},Same H H3->b∈ds->Same H (upd H3 b o):=fun s hb=>s.up (fr _ hb) _
 have mul2:∀ x:Int,CMul 2 x:=fun x=>.inl ⟨by decide,by decide⟩
 have one:∀ {H3:Hp} {hs:List Nat} {p:Nat} (z:Int),z=hs.length->p<n->hs.length≤1000->TurnsM H3 acc ds ((List.range n).map (endsL hs))->∃ b,atI (ds.map V.ref) (p:Int)=some (.ref b)∧b∈ds∧H3 b=some (.lst ((endsL hs p).map V.int))∧((endsL hs p).map V.int).length<sizeLine ∧
   TurnsM (upd H3 b (.lst ((endsL hs p).map V.int++[.int z]))) acc ds ((List.range n).map (endsL (hs++[p]))):=by
  intro H3 hs p z ez hp hl M
  subst ez
  obtain ⟨b,hb,hB⟩:=M.rows.get (show ((List.range n).map (endsL hs))[p]?=some (endsL hs p) by rw [List.getElem?_map,List.getElem?_range hp]; rfl)
  refine ⟨b,atI_nat (ref_at hb),List.mem_of_getElem? hb,hB,?_,?_⟩
  ·rw [List.length_map]; have:=endsL_len hs p; exact szl (by omega)
  ·rw [ends_step hs hp]
   have:=M.put (t:=endsL hs p++[(hs.length:Int)]) hb
   rw [List.map_append] at this
   exact this
 try dsimp only
 try refine name_goH ?_
 first | refine seq_hide fun UL1 hUL1=>?_ | refine nx_hide fun UL1 hUL1=>?_
 refine ⟨_,rfl,a,_,rfl,s2 _ _ ha,?_⟩
 refine for_enum (xs:=bs.map V.ref) (fun i σ H3=>∃ u v,σ=[some (.int n),some (.ref a),some (.ref acc),u,v,none]∧Same H H3∧TurnsM H3 acc ds ((List.range n).map (endsL (hm0 (rs.take i))))) ⟨none,none,rfl,s2,M0⟩ (fun i σ H3 _ ⟨_,_,_,s3,_⟩=>s3 _ _ ha) ?_ ?_
 ·rintro i x σ H3 p hx ⟨u1,u2,rfl,s3,M⟩ hp
  obtain ⟨c,r,rfl,_,hy,e,hc,he⟩:=hB.ref hx
  obtain ⟨r1,r2⟩:=hrs r (List.mem_of_getElem? hy)
  have sp:=same_new hp (.tup [.int i,.ref c])
  have s4:=s3.trans sp
  have hi:i<rs.length:=(List.getElem?_eq_some_iff.mp hy).1
  have le:(hm0 (rs.take i)).length=2*i:=by rw [hm0_len,List.length_take]; omega
  obtain ⟨b1,g1,g2,g3,g4,M1⟩:=one (2*(i:Int)) (by rw [le]; push_cast; rfl) r1 (by omega) (M.keep sp)
  obtain ⟨b2,k1,k2,k3,k4,M2⟩:=one (2*(i:Int)+1) (by rw [List.length_append,le]; simp) r2 (by rw [List.length_append,le]; simp; omega) M1
  refine ⟨p,_,rfl,SqT.of upd_same,rfl,_,_,rfl,_,_,rfl,rfl,?_⟩
  refine ⟨_,rfl,_,rfl,c,_,_,_,rfl,rfl,SqT.of (s4 _ _ hc),t3_0 _ _ _,acc,_,_,_,rfl,rfl,SqL.of (M.keep sp).h1,g1,.inl ⟨rfl,_,SqL.of g3⟩,_,rfl,_,_,rfl,rfl,mul2 _,b1,_,_,rfl,rfl,g3,g4,?_⟩
  refine ⟨_,rfl,_,rfl,c,_,_,_,rfl,rfl,SqT.of (far s4 g2 _ _ hc),t3_1 _ _ _,acc,_,_,_,rfl,rfl,SqL.of M1.h1,k1,.inl ⟨rfl,_,SqL.of k3⟩,_,rfl,_,_,rfl,rfl,mul2 _,_,_,rfl,rfl,b2,_,_,rfl,rfl,k3,k4,?_⟩
  refine ⟨_,_,rfl,far (far s4 g2) k2,?_⟩
  rw [take_snoc hy,hm0_snoc]
  exact M2
 ·rintro σ H3 ⟨u1,u2,rfl,s3,M⟩
  subst hUL1
  rw [List.length_map,hB.1,List.take_length] at M
  have le:(hm0 rs).length=2*rs.length:=hm0_len rs
  obtain ⟨b1,g1,g2,g3,g4,M1⟩:=one (p:=0) (2*((bs.map V.ref).length:Int)) (by rw [le,List.length_map,hB.1]; push_cast; rfl) (by omega) (by omega) M
  obtain ⟨b2,k1,k2,k3,k4,M2⟩:=one (p:=1) (2*((bs.map V.ref).length:Int)+1) (by rw [List.length_append,le,List.length_map,hB.1]; simp) (by omega) (by rw [List.length_append,le]; simp; omega) M1
  refine ⟨_,rfl,a,_,rfl,.inr (SqT.of (s3 _ _ ha)),?_⟩
  refine ⟨_,rfl,acc,_,_,_,rfl,rfl,SqL.of M.h1,g1,.inl ⟨rfl,_,SqL.of g3⟩,_,rfl,_,_,rfl,rfl,mul2 _,b1,_,_,rfl,rfl,g3,g4,?_⟩
  refine ⟨_,rfl,acc,_,_,_,rfl,rfl,SqL.of M1.h1,k1,.inl ⟨rfl,_,SqL.of k3⟩,_,rfl,_,_,rfl,rfl,mul2 _,_,_,rfl,rfl,b2,_,_,rfl,rfl,k3,k4,?_⟩
  refine ⟨_,rfl,q acc ds _ (far (far s3 g2) k2) ?_⟩
  have:hm rs=hm0 rs++[0]++[1]:=by unfold hm; simp
  rw [this]
  exact M2
theorem bt_sorted:bootBuiltins "sorted" = some (.builtin "sorted"):=by decide +kernel
theorem mo_tt {H H':Hp} {a:Addr} {ts:List (List Int)} (s:Same H H') (h:TupR IntsT H a ts):TupR IntsT H' a ts:=mo_tup (R:=IntsT) (fun s h=>mo_intsT s h) s h
theorem scTu:FnScope ["places","ropes","turns","place","ends","turn"] ["places","ropes","turns"] (defScope s_check_turns):=⟨rfl,rfl,rfl,by decide +kernel,rfl,by decide +kernel,by decide +kernel⟩
theorem scCk:FnScope ["places","ropes","turns","k","rope"] ["places","ropes","turns"] (defScope s_checked):=⟨rfl,rfl,rfl,by decide +kernel,rfl,by decide +kernel,by decide +kernel⟩
end
end My
namespace My
open PySem L2 Mth
theorem big_of {i:Int} {n:Nat} (h:i.natAbs<2 ^ n) (hn:n≤8000):Big i:=Nat.lt_of_lt_of_le h (Nat.pow_le_pow_right (by decide) hn)
abbrev Gives (H:Hp) (Q:VK) (t b:Int):Prop:=∀ p,H p=none->Q (.ref p) (upd H p (.tup [.int (frac t b).1,.int (frac t b).2]))
section
variable {P:Program} {w:World} {K:PySem.W.Frag} {mg:Str->Option Value} {base:Heap} {f g h:Addr} {fd gd hd:FuncData}
theorem abs_gcd {x:Int} {n:Nat} (h:Int.gcd x 0=n):(if x<0 then -x else x)=(n:Int):=by
 rw [←h,Int.gcd_zero_right]
 split <;> omega
theorem scCP:FnScope ["one","other","rest"] ["one","other"] (defScope sCommon):=⟨rfl,rfl,rfl,by decide +kernel,rfl,by decide +kernel,by decide +kernel⟩
theorem ok_common {f:Addr} {fd:FuncData} (F:Fun K "common_part" "common_part" sCommon f fd) (ma:mg "abs" = none):FnOk P w K mg base CX0 1 f fd ["one","other"] spGcd:=by
 refine F.ok scCP (fun vs H Q E h=>?_) (fun cdv A outer s H vs Q E hr h=>?_)
 ·obtain ⟨a,b,rfl,_⟩:=h
  rfl
 obtain ⟨a,b,rfl,q⟩:=h
 refine ⟨_,pss_cons (ps_while PassesOwn.never (pt_cmpR op_ne (pv 1) pe_int (nomark _))
   (pss_cons (ps_set (i:=2) scCP.nd rfl (Or.inl rfl) (pe_op op_modN (pv 0) (pv 1)))
   (pss_cons (ps_set (i:=0) scCP.nd rfl (Or.inl rfl) (pv 1))
   (pss_one (ps_set (i:=1) scCP.nd rfl (Or.inl rfl) (pv 2))))))
  (pss_one (ps_ret (pe_callB call_abs (by rfl) ma PyProof.Rows.boot_abs (pa_cons (pv 0) pa_nil)))),?_⟩
 refine while_by (fun σ H2=>∃ x y r,σ=[some (.int x),some (.int y),r]∧H2=H∧Int.gcd x y=Int.gcd a b) (fun σ _=>match σ with | [_,some (.int y),_]=>y.natAbs | _=>0) ⟨a,b,none,rfl,rfl,rfl⟩ ?_ ?_
 ·rintro σ H2 ⟨x,y,r,rfl,rfl,g⟩
  refine ⟨_,rfl,rfl,_,rfl,?_⟩
  by_cases hy:y=0
  ·refine iteNS (iv hy) ?_
   subst hy
   refine ⟨_,rfl,x,rfl,?_⟩
   rw [abs_gcd g]
   exact q
  ·refine iteNN (ivn hy) ?_
   exact ⟨_,rfl,_,rfl,_,_,rfl,rfl,hy,_,rfl,_,rfl,⟨y,x.fmod y,some (.int (x.fmod y)),rfl,rfl,(gcd_fmod x y).trans g⟩,fmod_lt x y hy⟩
 ·rintro σ H2 Q1 Q2 hq ⟨v,e,sc,b,eb,z⟩
  exact ⟨v,e,sc,b,eb,hq _ _ z⟩
abbrev ScA (K:PySem.W.Frag) (H:Hp) (a:Addr) (ns:List Int):Prop:=SqL K H a (ns.map V.int)∧ns.length≤63
inductive SpCellR (K:PySem.W.Frag) (vs:List V) (H:Hp) (Q:VK):Prop
 | mk (a:Addr) (ns:List Int) (k:Int) (h_0:vs=[.ref a,.int k]) (h_1:ScA K H a ns) (h_2:0≤k) (h_3:∀ z,Q (.int z) H):SpCellR K vs H Q
def spCell (K:PySem.W.Frag):Sp:=fun vs H Q _=>SpCellR K vs H Q
theorem scCe:FnScope ["_law_script","_law_k"] ["_law_script","_law_k"] (defScope s_law_cell_at):=⟨rfl,rfl,rfl,by decide +kernel,rfl,by decide +kernel,by decide +kernel⟩
theorem ok_cell (F:Fun K "_law_cell_at" "_law_cell_at" s_law_cell_at f fd) (ml:mg "len" = none):FnOk P w K mg base CX0 1 f fd ["_law_script","_law_k"] (spCell K):=by
 refine F.ok scCe (fun vs H Q E h=>?_) (fun cdv A outer s H vs Q E hr h=>?_)
 ·obtain ⟨a,ns,k,rfl,_⟩:=h
  rfl
 obtain ⟨a,ns,k,rfl,⟨hS,hl⟩,h0,q⟩:=h
 refine ⟨_,pss_cons (ps_if (pt_cmpR op_lt (pv 1) (pe_callB (callLen (K:=K)) (by rfl) ml bt_len (pa_cons (pv 0) pa_nil)) (nomark _)) (pss_one (ps_ret (pe_ix (ixL (K:=K)) (pv 0) (pv 1) (fun _ _=>rfl)))) pss_nil)
  (pss_one (ps_ret pe_int)),?_⟩
 refine ⟨_,rfl,_,rfl,a,_,rfl,.inl hS,_,_,rfl,rfl,_,rfl,?_⟩
 by_cases hk:k<(((ns.map V.int).length:Nat):Int)
 ·refine iteDT hk ?_
  rw [List.length_map] at hk
  have hk':k.toNat<ns.length:=by omega
  have e:atI (ns.map V.int) ((k.toNat:Nat):Int)=some (.int ns[k.toNat]):=atI_nat (by rw [List.getElem?_map,List.getElem?_eq_getElem hk']; rfl)
  rw [show ((k.toNat:Nat):Int)=k by omega] at e
  exact ⟨_,rfl,_,rfl,a,_,_,_,rfl,rfl,hS,e,q _⟩
 ·refine iteDF hk ?_
  exact q 0
abbrev Dr (z:Int):Prop:=0≤z∧z<2 ^ 300
inductive SpDrawnR (K:PySem.W.Frag) (vs:List V) (H:Hp) (Q:VK):Prop
 | mk (a:Addr) (ns:List Int) (k:Int) (h_0:vs=[.ref a,.int k]) (h_1:ScA K H a ns) (h_2:0≤k) (h_3:k<1000) (h_4:∀ z H',Same H H'->Dr z->Q (.int z) H'):SpDrawnR K vs H Q
def spDrawn (K:PySem.W.Frag):Sp:=fun vs H Q _=>SpDrawnR K vs H Q
theorem scDr:FnScope ["_law_script","_law_k","_law_cell","_law_found"] ["_law_script","_law_k"] (defScope s_law_drawn):=⟨rfl,rfl,rfl,by decide +kernel,rfl,by decide +kernel,by decide +kernel⟩
theorem p60:(10:Int) ^ ((60:Int).toNat)=1000000000000000000000000000000000000000000000000000000000000:=by decide
theorem ok_drawn (F:Fun K "_law_drawn" "_law_drawn" s_law_drawn f fd) (G:FnOk P w K mg base CX0 1 g gd ["_law_script","_law_k"] (spCell K)) (bG:Binds K gd ["_law_script","_law_k"] []) (kG:PySem.W.keepIn K (.ref g)=true) (mG:mg "_law_cell_at" = some (.ref g)) (mi:mg "int" = none) :
  FnOk P w K mg base CX0 2 f fd ["_law_script","_law_k"] (spDrawn K):=by
 refine F.ok scDr (fun vs H Q E h=>?_) (fun cdv A outer s H vs Q E hr h=>?_)
 ·obtain ⟨a,ns,k,rfl,_⟩:=h
  rfl
 obtain ⟨a,ns,k,rfl,hS,h0,h1,q⟩:=h
 refine ⟨_,pss_cons (ps_set (i:=2) scDr.nd rfl (Or.inl rfl) (pe_op op_mod (pe_call G hr (by rfl) mG kG bG .nil pass0 (pa_cons (pv 0) (pa_cons (pv 1) pa_nil))) (pe_op op_pow pe_int pe_int)))
  (pss_cons (ps_if (pt_cmpR op_eq (pe_op op_mod (pe_call G hr (by rfl) mG kG bG .nil pass0 (pa_cons (pv 0) (pa_cons pe_int pa_nil))) pe_int) pe_int (nomark _))
   (pss_one (ps_ret (pe_ix (ixL (K:=K)) (pe_lst (pa_cons (pv 2) (pa_cons (pe_op op_fdiv (pv 2) pe_int) pa_nil))) (pe_callTy call_int1 (by rfl) mi bt_int (pa_cons (pe_cmpR op_eq (pv 1) pe_int (nomark _)) pa_nil)) (fun _ _=>rfl)))) pss_nil)
  (pss_cons (ps_set (i:=3) scDr.nd rfl (Or.inl rfl) (pe_op op_mod (pe_op op_mul (pe_op op_add (pe_op op_add (pv 2) (pe_op op_mul pe_int (pv 1))) pe_int) pe_int) pe_int))
  (pss_one (ps_ret (pe_op op_add (pe_op op_mul (pv 2) pe_int) (pe_op op_mod (pe_op op_mul (pv 3) pe_int) pe_int)))))),?_⟩
 refine ⟨_,rfl,_,rfl,a,ns,k,rfl,hS,h0,fun z0=>?_⟩
 refine ⟨_,_,rfl,rfl,⟨by decide,by decide,by decide⟩,_,_,rfl,rfl,(show (0:Int)<10 ^ ((60:Int).toNat) by decide),?_⟩
 (try dsimp only)
 rw [p60]
 have c0:0≤z0 % 1000000000000000000000000000000000000000000000000000000000000:=Int.emod_nonneg _ (by decide)
 have c1:z0 % 1000000000000000000000000000000000000000000000000000000000000<1000000000000000000000000000000000000000000000000000000000000:=Int.emod_lt_of_pos _ (by decide)
 generalize z0 % 1000000000000000000000000000000000000000000000000000000000000=c at c0 c1
 have p300:(2:Int) ^ 300=2037035976334486086268445688409378161051468393665936250636140449354381299763336706183397376:=by decide
 refine ⟨_,rfl,a,ns,0,rfl,hS,Int.le_refl 0,fun z1=>?_⟩
 refine ⟨_,_,rfl,rfl,(show (0:Int)<2 by decide),rfl,_,rfl,?_⟩
 refine ite2 (fun _=>?_) (fun _=>?_)
 ·refine ⟨_,rfl,_,rfl,_,_,rfl,rfl,⟨by decide,by decide⟩,by show 2≤sizeLine; decide,fun l hl=>?_⟩
  refine ⟨_,rfl,rfl,.inr ⟨_,rfl,?_⟩⟩
  have fin:∀ (j:Int) (v:Int),atI [V.int c,V.int (c / 2)] j=some (.int v)->Dr v->rIxL K (.ref l) (.int j) (upd H l (.lst [.int c,.int (c / 2)])) Q:=fun j v e d =>
   ⟨l,_,j,_,rfl,rfl,SqL.of upd_same,e,q v _ (same_new hl _) d⟩
  by_cases hk:k=0
  ·rw [decide_eq_true (iv hk)]
   exact fin 1 (c / 2) at1 ⟨by omega,by rw [p300]; omega⟩
  ·rw [decide_eq_false (ivn hk)]
   exact fin 0 c at0 ⟨c0,by rw [p300]; omega⟩
 ·refine ⟨_,rfl,_,rfl,_,_,rfl,rfl,.inl ⟨by decide,by decide⟩,_,_,rfl,rfl,_,_,rfl,rfl,_,_,rfl,rfl,.inr ⟨by decide,by decide⟩,_,_,rfl,rfl,(show (0:Int)<2147483647 by decide),?_⟩
  refine ⟨_,rfl,_,_,rfl,rfl,.inr ⟨by decide,by decide⟩,_,rfl,_,_,rfl,rfl,.inr ⟨by decide,by decide⟩,_,_,rfl,rfl,(show (0:Int)<2147483647 by decide),_,_,rfl,rfl,?_⟩
  have d0:∀ z:Int,0≤z % 2147483647:=fun z=>Int.emod_nonneg _ (by decide)
  have d1:∀ z:Int,z % 2147483647<2147483647:=fun z=>Int.emod_lt_of_pos _ (by decide)
  refine q _ _ (Same.refl H) ⟨?_,?_⟩
  ·have:=d0 ((c+7919*k+1)*48271 % 2147483647*69621)
   omega
  ·have:=d1 ((c+7919*k+1)*48271 % 2147483647*69621)
   rw [p300]
   omega
theorem scCo:FnScope ["_law_one","_law_other","_law_rest"] ["_law_one","_law_other"] (defScope s_law_common):=⟨rfl,rfl,rfl,by decide +kernel,rfl,by decide +kernel,by decide +kernel⟩
theorem abs_eq (a:Int):(if a<0 then -a else a)=(a.natAbs:Int):=by split <;> omega
theorem gcd_abs (a b:Int):Int.gcd (a.natAbs:Int) (b.natAbs:Int)=Int.gcd a b:=by
 unfold Int.gcd
 simp
theorem emod_gcd {x y:Int} (hy:0<y):Int.gcd y (x % y)=Int.gcd x y:=by
 have:=gcd_fmod x y
 rwa [Int.fmod_eq_emod_of_nonneg x (Int.le_of_lt hy)] at this
theorem ok_lcommon (F:Fun K "_law_common" "_law_common" s_law_common f fd) (ma:mg "abs" = none):FnOk P w K mg base CX0 1 f fd ["_law_one","_law_other"] spGcd:=by
 refine F.ok scCo (fun vs H Q E h=>?_) (fun cdv A outer s H vs Q E hr h=>?_)
 ·obtain ⟨a,b,rfl,_⟩:=h
  rfl
 obtain ⟨a,b,rfl,q⟩:=h
 refine ⟨_,pss_cons (ps_set (i:=0) scCo.nd rfl (Or.inl rfl) (pe_callB call_abs (by rfl) ma bt_abs (pa_cons (pv 0) pa_nil)))
  (pss_cons (ps_set (i:=1) scCo.nd rfl (Or.inl rfl) (pe_callB call_abs (by rfl) ma bt_abs (pa_cons (pv 1) pa_nil)))
  (pss_cons (ps_while PassesOwn.never (pt_cmpR op_gt (pv 1) pe_int (nomark _))
   (pss_cons (ps_set (i:=2) scCo.nd rfl (Or.inl rfl) (pe_op op_mod (pv 0) (pv 1)))
   (pss_cons (ps_set (i:=0) scCo.nd rfl (Or.inl rfl) (pv 1))
   (pss_one (ps_set (i:=1) scCo.nd rfl (Or.inl rfl) (pv 2))))))
  (pss_one (ps_ret (pv 0))))),?_⟩
 refine ⟨_,rfl,a,rfl,_,rfl,b,rfl,?_⟩
 rw [abs_eq,abs_eq]
 refine while_by (fun σ H2=>∃ x y r,σ=[some (.int x),some (.int y),r]∧H2=H∧0≤x∧0≤y∧Int.gcd x y=Int.gcd a b) (fun σ _=>match σ with | [_,some (.int y),_]=>y.natAbs | _=>0) ⟨_,_,none,rfl,rfl,by omega,by omega,gcd_abs a b⟩ ?_ ?_
 ·rintro σ H2 ⟨x,y,r,rfl,rfl,x0,y0,gg⟩
  refine ⟨_,rfl,_,_,rfl,rfl,_,rfl,?_⟩
  by_cases hy:0<y
  ·refine iteDT hy ?_
   have m0:=Int.emod_nonneg x (Int.ne_of_gt hy)
   have m1:=Int.emod_lt_of_pos x hy
   refine ⟨_,rfl,_,rfl,_,_,rfl,rfl,hy,_,rfl,_,rfl,⟨y,x % y,some (.int (x % y)),rfl,rfl,y0,m0,(emod_gcd hy).trans gg⟩,?_⟩
   show (x % y).natAbs<y.natAbs
   omega
  ·refine iteDF hy ?_
   have e:y=0:=by omega
   subst e
   refine ⟨_,rfl,?_⟩
   have:=abs_gcd gg
   rw [if_neg (by omega)] at this
   rw [this]
   exact q
 ·rintro σ H2 Q1 Q2 hq ⟨v,e,i,j,e1,e2,b,eb,z⟩
  exact ⟨v,e,i,j,e1,e2,b,eb,hq _ _ z⟩
inductive SpLowR (vs:List V) (H:Hp) (Q:VK):Prop
 | mk (t b:Int) (h_0:vs=[.int t,.int b]) (h_1:Big b) (h_2:b≠0) (h_3:Gives H Q t b):SpLowR vs H Q
def spLow:Sp:=fun vs H Q _=>SpLowR vs H Q
theorem scLo:FnScope ["_law_top","_law_bottom","_law_shared"] ["_law_top","_law_bottom"] (defScope s_law_lowest):=⟨rfl,rfl,rfl,by decide +kernel,rfl,by decide +kernel,by decide +kernel⟩
theorem ok_lowest (F:Fun K "_law_lowest" "_law_lowest" s_law_lowest f fd) (G:FnOk P w K mg base CX0 1 g gd ["_law_one","_law_other"] spGcd) (bG:Binds K gd ["_law_one","_law_other"] []) (kG:PySem.W.keepIn K (.ref g)=true) (mG:mg "_law_common" = some (.ref g)) :
  FnOk P w K mg base CX0 2 f fd ["_law_top","_law_bottom"] spLow:=by
 refine F.ok scLo (fun vs H Q E h=>?_) (fun cdv A outer s H vs Q E hr h=>?_)
 ·obtain ⟨a,b,rfl,_⟩:=h
  rfl
 obtain ⟨t,b,rfl,hb,hz,h1⟩:=h
 refine ⟨_,pss_cons (ps_set (i:=2) scLo.nd rfl (Or.inl rfl) (pe_call G hr (by rfl) mG kG bG .nil pass0 (pa_cons (pv 0) (pa_cons (pv 1) pa_nil))))
  (pss_cons (ps_if (pt_cmpR op_lt (pv 1) pe_int (nomark _)) (pss_one (ps_set (i:=2) scLo.nd rfl (Or.inl rfl) (pe_un un_neg (pv 2)))) pss_nil)
  (pss_one (ps_ret (pe_tup (pa_cons (pe_op op_fdivB (pv 0) (pv 2)) (pa_cons (pe_op op_fdivB (pv 1) (pv 2)) pa_nil)))))),?_⟩
 refine ⟨_,rfl,_,rfl,t,b,rfl,?_⟩
 refine ⟨_,rfl,_,_,rfl,rfl,_,rfl,?_⟩
 have fin:∀ part,part=Mth.part t b->tRet (tTup (tCons (tOp (rI CDivB fun i j=>V.int (i.fdiv j)) (tVar 0) (tVar 2)) (tCons (tOp (rI CDivB fun i j=>V.int (i.fdiv j)) (tVar 1) (tVar 2)) tNil)))
   { nx:=fun _ H'=>Q .non H',rt:=Q } [some (.int t),some (.int b),some (.int part)] H:=by
  rintro part rfl
  have hp:CDivB t (Mth.part t b):=⟨part_ne t b hz,Nat.lt_of_le_of_lt (part_le t b hz) hb⟩
  exact ⟨_,rfl,_,rfl,_,_,rfl,rfl,hp,_,rfl,_,rfl,_,_,rfl,rfl,hp,by show 2≤sizeLine; decide,h1⟩
 by_cases hn:b<0
 ·refine iteDT hn ?_
  exact ⟨_,rfl,_,rfl,fin _ (by unfold Mth.part; rw [if_pos hn])⟩
 ·refine iteDF hn ?_
  exact fin _ (by unfold Mth.part; rw [if_neg hn])
def AlkD (H:Hp):Nat->V->V->Prop
 | 0,v,u=>∃ i:Int,v=.int i∧u=.int i
 | n+1,v,u=>(∃ i:Int,v=.int i∧u=.int i)∨∃ (p q:Addr) (xs ys:List V),v=.ref p∧u=.ref q∧H p=some (.tup xs)∧H q=some (.tup ys)∧xs.length=ys.length∧xs.length≤1000∧∀ (i:Nat) (x y:V),xs[i]?=some x->ys[i]?=some y->AlkD H n x y
theorem AlkD.keep {H H':Hp} (s:Same H H'):∀ {n:Nat} {v u:V},AlkD H n v u->AlkD H' n v u
 | 0,_,_,h=>h
 | n+1,v,u,h=>by
  rcases h with h | ⟨p,q,xs,ys,e1,e2,hp,hq,l1,l2,hh⟩
  ·exact .inl h
  ·exact .inr ⟨p,q,xs,ys,e1,e2,s _ _ hp,s _ _ hq,l1,l2,fun i x y a b=>(hh i x y a b).keep s⟩
theorem AlkD.up {H:Hp}:∀ {n:Nat} {v u:V},AlkD H n v u->AlkD H (n+1) v u
 | 0,_,_,h=>.inl h
 | n+1,v,u,h=>by
  rcases h with h | ⟨p,q,xs,ys,e1,e2,hp,hq,l1,l2,hh⟩
  ·exact .inl h
  ·exact .inr ⟨p,q,xs,ys,e1,e2,hp,hq,l1,l2,fun i x y a b=>(hh i x y a b).up⟩
structure EaseS (q:Rat):Prop where
 k:EaseK q
 n:q.num<10 ^ 39
 d:(q.den:Int)<10 ^ 39
inductive SpLEaseR (vs:List V) (H:Hp) (Q:VK):Prop
 | mk (z:Int) (h_0:vs=[.int z]) (h_1:0≤z) (h_2:∀ p H' q,Same H H'->FrR H' p q->EaseS q->Q (.ref p) H'):SpLEaseR vs H Q
def spLEase:Sp:=fun vs H Q _=>SpLEaseR vs H Q
theorem ease_of {t b:Int} (ht:0<t) (ht2:t<10 ^ 39) (hb:0<b) (hb2:b<10 ^ 39):EaseS ((t:Rat) / (b:Rat)):=by
 have e:=frac_rat t b (by omega)
 have l1:=frac_le_l t b (by omega)
 have l2:=frac_le_r t b (by omega)
 have c:=frac_cross t b
 have d:=frac_pos t b (by omega)
 rw [e] at l1 l2 c d
 dsimp only at l1 l2 c d
 generalize ((t:Rat) / (b:Rat))=q at l1 l2 c d
 have n0:0<q.num:=by
  rcases Int.lt_or_le 0 q.num with h | h
  ·exact h
  ·have h1:0<t*(q.den:Int):=Int.mul_pos ht d
   have h2:q.num*b≤0:=Int.mul_nonpos_of_nonpos_of_nonneg h (by omega)
   omega
 exact ⟨⟨n0,by omega,by omega⟩,by omega,by omega⟩
theorem scLE:FnScope ["_law_cell"] ["_law_cell"] (defScope sLEase):=⟨rfl,rfl,rfl,by decide +kernel,rfl,by decide +kernel,by decide +kernel⟩
theorem ok_lease (F:Fun K "_law_ease" "_law_ease" sLEase f fd) (G:FnOk P w K mg base CX0 2 g gd ["_law_top","_law_bottom"] spLow) (bG:Binds K gd ["_law_top","_law_bottom"] []) (kG:PySem.W.keepIn K (.ref g)=true) (mG:mg "_law_lowest" = some (.ref g)) :
  FnOk P w K mg base CX0 3 f fd ["_law_cell"] spLEase:=by
 refine F.ok scLE (fun vs H Q E h=>?_) (fun cdv A outer s H vs Q E hr h=>?_)
 ·obtain ⟨z,rfl,_⟩:=h
  rfl
 obtain ⟨z,rfl,hz,q⟩:=h
 refine ⟨_,pss_cons (ps_if (pt_cmpR op_eq (pe_op op_mod (pv 0) pe_int) pe_int (nomark _)) (pss_one (ps_ret (pe_tup (pa_cons pe_int (pa_cons pe_int pa_nil))))) pss_nil)
  (pss_cons (ps_if (pt_cmpR op_eq (pe_op op_mod (pv 0) pe_int) pe_int (nomark _))
   (pss_one (ps_ret (pe_call G hr (by rfl) mG kG bG .nil pass0 (pa_cons (pe_op op_add pe_int (pe_op op_mod (pe_op op_fdiv (pv 0) pe_int) (pe_op op_sub (pe_op op_pow pe_int pe_int) pe_int))) (pa_cons (pe_op op_add pe_int (pe_op op_mod (pe_op op_mul (pe_op op_fdiv (pv 0) pe_int) pe_int) (pe_op op_sub (pe_op op_pow pe_int pe_int) pe_int))) pa_nil))))) pss_nil)
  (pss_one (ps_ret (pe_call G hr (by rfl) mG kG bG .nil pass0 (pa_cons (pe_op op_add pe_int (pe_op op_mod (pe_op op_fdiv (pv 0) pe_int) pe_int)) (pa_cons (pe_op op_add pe_int (pe_op op_mod (pe_op op_fdiv (pv 0) pe_int) pe_int)) pa_nil)))))),?_⟩
 have m4:(0:Int)<4:=by decide
 have d4:CDiv z 4:=⟨by decide,by decide⟩
 have gv:∀ t b:Int,0<t->t<10 ^ 39->0<b->b<10 ^ 39->spLow [.int t,.int b] H Q E:=by
  intro t b t0 t1 b0 b1
  refine ⟨t,b,rfl,?_,by omega,fun p hp=>q p _ ((t:Rat) / (b:Rat)) (same_new hp _) ?_ (ease_of t0 t1 b0 b1)⟩
  ·refine big_of (n:=200) ?_ (by decide)
   have:(10:Int) ^ 39<2 ^ 200:=by decide
   have e2:((2:Int) ^ 200)=((2 ^ 200:Nat):Int):=by decide
   omega
  ·unfold FrR
   rw [upd_same,frac_rat t b (by omega)]
 refine ⟨_,rfl,_,_,rfl,rfl,m4,rfl,_,rfl,?_⟩
 refine ite2 (fun _=>?_) (fun _=>?_)
 ·refine ⟨by show 2≤sizeLine; decide,fun p hp=>?_⟩
  exact q p _ 1 (same_new hp _) upd_same ⟨⟨by decide,by decide,by decide⟩,by decide,by decide⟩
 refine ⟨_,rfl,_,_,rfl,rfl,m4,rfl,_,rfl,?_⟩
 refine ite2 (fun _=>?_) (fun _=>?_)
 ·have p39:(0:Int)<10 ^ ((39:Int).toNat)-1:=by decide
  have p40:(10:Int) ^ ((39:Int).toNat)-1<10 ^ 39:=by decide
  refine ⟨_,rfl,_,_,rfl,rfl,d4,_,_,rfl,rfl,⟨by decide,by decide,by decide⟩,_,_,rfl,rfl,_,_,rfl,rfl,p39,_,_,rfl,rfl,?_⟩
  refine ⟨_,rfl,_,_,rfl,rfl,⟨by decide,by decide⟩,_,_,rfl,rfl,.inr ⟨by decide,by decide⟩,_,_,rfl,rfl,⟨by decide,by decide,by decide⟩,_,_,rfl,rfl,_,_,rfl,rfl,p39,_,_,rfl,rfl,?_⟩
  generalize (10:Int) ^ ((39:Int).toNat)-1=m at p39 p40
  have a1:=Int.emod_nonneg (z / 4) (Int.ne_of_gt p39)
  have a2:=Int.emod_lt_of_pos (z / 4) p39
  have b1:=Int.emod_nonneg (z / 32*48271) (Int.ne_of_gt p39)
  have b2:=Int.emod_lt_of_pos (z / 32*48271) p39
  exact gv _ _ (by omega) (by omega) (by omega) (by omega)
 ·refine ⟨_,rfl,_,_,rfl,rfl,d4,_,_,rfl,rfl,(show (0:Int)<9 by decide),_,_,rfl,rfl,_,rfl,_,_,rfl,rfl,⟨by decide,by decide⟩,_,_,rfl,rfl,(show (0:Int)<9 by decide),_,_,rfl,rfl,?_⟩
  have t40:(10:Int)<10 ^ 39:=by decide
  exact gv _ _ (by omega) (by omega) (by omega) (by omega)
end
end My
namespace My
open PySem L2 Mth
abbrev natV (hs:List Nat):List V:=hs.map fun x:Nat=>V.int (x:Int)
structure GrM (H:Hp) (T h:Addr) (bs:List Addr) (ts:List (List Int)) (hs:List Nat):Prop where
 tm:TurnsM H T bs ts
 hh:H h=some (.lst (natV hs))
 hn:h∉T :: bs
theorem GrM.keep {H H':Hp} {T h:Addr} {bs:List Addr} {ts:List (List Int)} {hs:List Nat} (M:GrM H T h bs ts hs) (s:Same H H'):GrM H' T h bs ts hs:=⟨M.tm.keep s,s _ _ M.hh,M.hn⟩
def Fr (T h:Addr) (bs:List Addr) (H H':Hp):Prop:=∀ b o,b∉T :: h :: bs->H b=some o->H' b=some o
theorem Fr.refl {T h:Addr} {bs:List Addr} (H:Hp):Fr T h bs H H:=fun _ _ _ e=>e
theorem Fr.same {T h:Addr} {bs:List Addr} {H H':Hp} (s:Same H H'):Fr T h bs H H':=fun b o _ e=>s b o e
theorem Fr.trans {T h:Addr} {bs:List Addr} {H H1 H2:Hp} (a:Fr T h bs H H1) (b:Fr T h bs H1 H2):Fr T h bs H H2:=fun c o n e=>b c o n (a c o n e)
theorem Fr.up {T h:Addr} {bs:List Addr} {H:Hp} {x:Addr} (hx:x∈T :: h :: bs) (o:HO):Fr T h bs H (upd H x o):=fun c u n e=>by
 rw [upd_ne (fun z=>n (by rw [z]; exact hx))]; exact e
theorem GrM.hne {H:Hp} {T h:Addr} {bs:List Addr} {ts:List (List Int)} {hs:List Nat} (M:GrM H T h bs ts hs) {b:Addr} (hb:b∈bs):h≠b:=fun z=>M.hn (by rw [z]; exact List.mem_cons_of_mem _ hb)
theorem GrM.turn {H:Hp} {T h b:Addr} {bs:List Addr} {ts:List (List Int)} {hs:List Nat} {i:Nat} {t:List Int} (M:GrM H T h bs ts hs) (hb:bs[i]?=some b):GrM (upd H b (.lst (t.map V.int))) T h bs (ts.set i t) hs :=
 ⟨M.tm.put hb,by rw [upd_ne (M.hne (List.mem_of_getElem? hb))]; exact M.hh,M.hn⟩
theorem GrM.homes {H:Hp} {T h:Addr} {bs:List Addr} {ts:List (List Int)} {hs:List Nat} (M:GrM H T h bs ts hs) (hs':List Nat):GrM (upd H h (.lst (natV hs'))) T h bs ts hs':=by
 refine ⟨⟨?_,⟨M.tm.rows.1,fun i b x e1 e2=>?_⟩,M.tm.nd⟩,upd_same,M.hn⟩
 ·rw [upd_ne (fun z=>M.hn (by rw [z]; exact List.mem_cons_self ..))]; exact M.tm.h1
 ·show upd H h _ b=_
  rw [upd_ne (Ne.symm (M.hne (List.mem_of_getElem? e1)))]
  exact M.tm.rows.2 i b x e1 e2
theorem GrM.more {H:Hp} {T h l:Addr} {bs:List Addr} {ts:List (List Int)} {hs:List Nat} {u:List Int} (M:GrM H T h bs ts hs) (hl:H l=none):GrM (upd (upd H l (.lst (u.map V.int))) T (.lst (bs.map V.ref++[.ref l]))) T h (bs++[l]) (ts++[u]) hs:=by
 have s1:=same_new hl (.lst (u.map V.int))
 have e1:(upd H l (.lst (u.map V.int))) l=some (.lst (u.map V.int)):=upd_same
 have M1:=M.keep s1
 generalize upd H l (.lst (u.map V.int))=H1 at s1 e1 M1
 have lT:l≠T:=fun z=>by rw [z,M.tm.h1] at hl; cases hl
 have lh:h≠l:=fun z=>by rw [←z,M.hh] at hl; cases hl
 have hT:h≠T:=fun z=>M.hn (by rw [z]; exact List.mem_cons_self ..)
 obtain ⟨n1,n2⟩:=List.nodup_cons.mp M.tm.nd
 have lb:l∉bs:=fun z=>by
  obtain ⟨k,hk,ek⟩:=List.getElem_of_mem z
  have hl2:k<ts.length:=by rw [←M.tm.rows.1]; exact hk
  have:=M.tm.rows.2 k l ts[k] (by rw [List.getElem?_eq_getElem hk,ek]) (List.getElem?_eq_getElem hl2)
  unfold IntsL at this
  rw [hl] at this; cases this
 refine ⟨⟨by rw [upd_same]; simp,?_,?_⟩,by rw [upd_ne hT]; exact M1.hh,?_⟩
 ·have a1:=M1.tm.rows.snoc (b:=l) (x:=u) e1
  refine ⟨a1.1,fun i b x q1 q2=>?_⟩
  have:=a1.2 i b x q1 q2
  unfold IntsL at this ⊢
  have bT:b≠T:=fun z=>by
   subst z
   rcases List.mem_append.mp (List.mem_of_getElem? q1) with w | w
   ·exact n1 w
   ·exact lT (List.mem_singleton.mp w).symm
  rw [upd_ne bT]; exact this
 ·rw [List.nodup_cons]
  refine ⟨fun z=>?_,?_⟩
  ·rcases List.mem_append.mp z with w | w
   ·exact n1 w
   ·exact lT (List.mem_singleton.mp w).symm
  ·rw [List.nodup_append]
   refine ⟨n2,by simp,fun x hx y hy z=>?_⟩
   rw [List.mem_singleton] at hy
   subst hy; subst z
   exact lb hx
 ·intro z
  rcases List.mem_cons.mp z with w | w
  ·exact hT w
  ·rcases List.mem_append.mp w with w | w
   ·exact M.hn (List.mem_cons_of_mem _ w)
   ·exact lh (List.mem_singleton.mp w)
theorem nat_at {hs:List Nat} {i p:Nat} (h:hs[i]?=some p):atI (natV hs) ((i:Nat):Int)=some (.int (p:Int)):=atI_nat (by rw [List.getElem?_map,h]; rfl)
theorem nat_atI {hs:List Nat} {x:Int} {p:Nat} (h0:0≤x) (h:hs[x.toNat]?=some p):atI (natV hs) x=some (.int (p:Int)):=by
 have:=nat_at h
 rwa [show ((x.toNat:Nat):Int)=x by omega] at this
theorem turn_at {H:Hp} {T:Addr} {bs:List Addr} {ts:List (List Int)} {p:Nat} {t:List Int} (M:TurnsM H T bs ts) (h:ts[p]?=some t):∃ b,bs[p]?=some b∧b∈bs∧atI (bs.map V.ref) ((p:Nat):Int)=some (.ref b)∧H b=some (.lst (t.map V.int)):=by
 obtain ⟨b,hb,hB⟩:=M.rows.get h
 exact ⟨b,hb,List.mem_of_getElem? hb,atI_nat (ref_at hb),hB⟩
theorem first_at {x:Int}:∀ {t:List Int},x∈t->∃ u1 u2,t=u1++x :: u2∧x∉u1
 | a :: t,h=>by
  by_cases e:x=a
  ·subst e; exact ⟨[],t,rfl,by simp⟩
  ·rcases List.mem_cons.mp h with z | z
   ·exact absurd z e
   ·obtain ⟨u1,u2,rfl,n⟩:=first_at z
    exact ⟨a :: u1,u2,rfl,by simp [e,n]⟩
theorem idx_app {x:Int} {u2:List Int}:∀ {u1:List Int},x∉u1->(u1++x :: u2).idxOf x=u1.length
 | [],_=>by simp
 | a :: u,h=>by
  have e:a≠x:=fun z=>h (by rw [z]; exact List.mem_cons_self ..)
  have:=idx_app (u2:=u2) (u1:=u) (fun z=>h (List.mem_cons_of_mem _ z))
  rw [List.cons_append,List.idxOf_cons,this,show (a == x)=false from beq_false_of_ne e]
  rfl
theorem map_keep {x y:Int} {u:List Int} (h:x∉u):(u.map fun z=>if z=x then y else z)=u:=by
 conv=>rhs; rw [←List.map_id u]
 refine List.map_congr_left fun z hz=>?_
 have:z≠x:=fun q=>h (by rw [←q]; exact hz)
 rw [if_neg this]; rfl
theorem set_map {x y:Int} {t:List Int} (nd:t.Nodup) (h:x∈t):t.set (t.idxOf x) y=t.map fun z=>if z=x then y else z:=by
 obtain ⟨u1,u2,rfl,n1⟩:=first_at h
 rw [idx_app n1,List.set_append_right _ _ (Nat.le_refl _),Nat.sub_self,List.set_cons_zero,List.map_append,List.map_cons,if_pos rfl,map_keep n1]
 rw [List.nodup_append,List.nodup_cons] at nd
 rw [map_keep nd.2.1.1]
theorem _root_.Mth.Gn.at {ts:List (List Int)} {hs:List Nat} (g:Gn ts hs) {x:Int} (h:InR hs.length x):∃ p t,ts[p]?=some t∧x∈t∧hs[x.toNat]?=some p:=by
 obtain ⟨t,ht,hx⟩:=List.mem_flatten.mp ((g.mem x).mpr h)
 obtain ⟨p,hp,e⟩:=List.getElem_of_mem ht
 have h2:ts[p]?=some t:=by rw [List.getElem?_eq_getElem hp,e]
 exact ⟨p,t,h2,hx,g.home p t h2 x hx⟩
theorem pr_at {ts:List (List Int)} (nd:ts.flatten.Nodup) {p:Nat} {t:List Int} {x:Int} (h:ts[p]?=some t) (hx:x∈t):pr ts x=prevAt t (t.idxOf x):=by
 refine pr_of nd (List.mem_flatten.mpr ⟨rowP t,List.mem_map.mpr ⟨t,List.mem_of_getElem? h,rfl⟩,?_⟩)
 unfold rowP
 refine List.mem_map.mpr ⟨t.idxOf x,List.mem_range.mpr (List.idxOf_lt_length_iff.mpr hx),?_⟩
 rw [List.getD_eq_getElem?_getD,List.getElem?_eq_getElem (List.idxOf_lt_length_iff.mpr hx),List.getElem_idxOf]
 rfl
theorem itn_add (φ:Int->Int) (s:Int) (i:Nat):∀ k,itn φ k (itn φ i s)=itn φ (k+i) s
 | 0=>by rw [Nat.zero_add]; rfl
 | k+1=>by
  rw [show k+1+i=(k+i)+1 by omega]
  show φ (itn φ k (itn φ i s))=φ (itn φ (k+i) s)
  rw [itn_add φ s i k]
theorem ring_reach {φ:Int->Int} {n:Nat} (PM:Perm1 φ n) {s a b:Int} (hs:InR n s) (ha:a∈ring φ s) (hb:b∈ring φ s):∃ k,itn φ k a=b:=by
 obtain ⟨i,hi,rfl⟩:=ringL_mem.mp ha
 obtain ⟨j,hj,rfl⟩:=ringL_mem.mp hb
 have pp:=per_is PM hs
 refine ⟨(per φ s-i)+j,?_⟩
 have e:itn φ (per φ s-i) (itn φ i s)=s:=by rw [itn_add,show per φ s-i+i=per φ s by omega]; exact pp.2.1
 rw [show per φ s-i+j=j+(per φ s-i) by omega,←itn_add,e]
theorem xor40:∀ k:Nat,k<40->Builtin.bitXor (k:Int) 1=oth (k:Int):=by decide
theorem xorI {x:Int} {n:Nat} (h:InR n x) (hn:n≤40):Builtin.bitXor x 1=oth x:=by
 obtain ⟨h1,h2⟩:=h
 have:=xor40 x.toNat (by omega)
 rwa [show ((x.toNat:Nat):Int)=x by omega] at this
section
variable {P:Program} {w:World} {K:PySem.W.Frag} {mg:Str->Option Value} {base:Heap} {f g h f1 f2 f3 f4:Addr} {fd gd hd d1 d2 d3 d4:FuncData}
inductive SpNextR (vs:List V) (H:Hp) (Q:VK):Prop
 | mk (T hA:Addr) (bs:List Addr) (ts:List (List Int)) (hs:List Nat) (e:Int) (h_0:vs=[.ref T,.ref hA,.int e]) (h_1:GrM H T hA bs ts hs) (h_2:Gn ts hs) (h_3:hs.length≤40) (h_4:InR hs.length e) (h_5:Q (.int (nxt ts e)) H):SpNextR vs H Q
def spNext:Sp:=fun vs H Q _=>SpNextR vs H Q
theorem scNx:FnScope ["_law_turns","_law_homes","_law_end","_law_turn"] ["_law_turns","_law_homes","_law_end"] (defScope sNext):=⟨rfl,rfl,rfl,by decide +kernel,rfl,by decide +kernel,by decide +kernel⟩
theorem ok_next (F:Fun K "_law_next" "_law_next" sNext f fd):FnOk P w K mg base CX0 1 f fd ["_law_turns","_law_homes","_law_end"] spNext:=by
 refine F.ok scNx (fun vs H Q E h=>?_) (fun cdv A outer s H vs Q E hr h=>?_)
 ·obtain ⟨T,hA,bs,ts,hs,e,rfl,_⟩:=h
  rfl
 obtain ⟨T,hA,bs,ts,hs,e,rfl,M,g,hl,he,q⟩:=h
 refine ⟨_,pss_cons (ps_set (i:=3) scNx.nd rfl (Or.inl rfl) (pe_ix (ixL (K:=K)) (pv 0) (pe_ix (ixL (K:=K)) (pv 1) (pe_op op_xor (pv 2) pe_int) (fun _ _=>rfl)) (fun _ _=>rfl)))
  (pss_one (ps_ret (pe_ix (ixL (K:=K)) (pv 3) (pe_op op_sub (pe_bmK K PySem.F.plainAttrs_list PySem.F.slot_list_index PySem.F.type_list_index mt_index (pv 3) (pa_cons (pe_op op_xor (pv 2) pe_int) pa_nil)) pe_int) (fun _ _=>rfl)))),?_⟩
 have ho:=oth_in g.ev he
 obtain ⟨p,t,hp,hx,hm⟩:=g.at ho
 obtain ⟨b,hb,bm,ab,hB⟩:=turn_at M.tm hp
 have ex:=xorI he hl
 have tl:t.length≤1000000:=by have:=flat_sub (List.mem_of_getElem? hp); rw [g.turns.len] at this; omega
 refine ⟨_,rfl,_,rfl,_,rfl,_,_,rfl,rfl,hA,_,_,_,rfl,rfl,SqL.of M.hh,(by rw [ex]; exact nat_atI ho.1 hm),T,_,_,_,rfl,rfl,SqL.of M.tm.h1,ab,?_⟩
 refine ⟨_,rfl,_,rfl,.inl ⟨rfl,_,SqL.of hB⟩,_,rfl,_,_,rfl,rfl,b,t,_,rfl,rfl,hB,(by rw [ex]; exact hx),tl,?_⟩
 rw [ex]
 refine ⟨_,_,rfl,rfl,b,_,_,_,rfl,rfl,SqL.of hB,at_prev (List.idxOf_lt_length_iff.mpr hx),?_⟩
 rw [←pr_at g.nd hp hx,←nxt_pr]
 exact q
inductive SpLRingR (vs:List V) (H:Hp) (Q:VK):Prop
 | mk (T hA:Addr) (bs:List Addr) (ts:List (List Int)) (hs:List Nat) (e:Int) (h_0:vs=[.ref T,.ref hA,.int e]) (h_1:GrM H T hA bs ts hs) (h_2:Gn ts hs) (h_3:hs.length≤40) (h_4:InR hs.length e) (h_5:∀ p H',Same H H'->H' p=some (.lst ((ring (nxt ts) e).map V.int))->Q (.ref p) H'):SpLRingR vs H Q
def spLRing:Sp:=fun vs H Q _=>SpLRingR vs H Q
theorem scLR:FnScope ["_law_turns","_law_homes","_law_start","_law_ring_here","_law_here"] ["_law_turns","_law_homes","_law_start"] (defScope s_law_ring):=⟨rfl,rfl,rfl,by decide +kernel,rfl,by decide +kernel,by decide +kernel⟩
theorem ok_lring (F:Fun K "_law_ring" "_law_ring" s_law_ring f fd) (G:FnOk P w K mg base CX0 1 g gd ["_law_turns","_law_homes","_law_end"] spNext) (bG:Binds K gd ["_law_turns","_law_homes","_law_end"] []) (kG:PySem.W.keepIn K (.ref g)=true) (mG:mg "_law_next" = some (.ref g)) :
  FnOk P w K mg base CX0 2 f fd ["_law_turns","_law_homes","_law_start"] spLRing:=by
 refine F.ok scLR (fun vs H Q E h=>?_) (fun cdv A outer s H vs Q E hr h=>?_)
 ·obtain ⟨T,hA,bs,ts,hs,e,rfl,_⟩:=h
  rfl
 obtain ⟨T,hA,bs,ts,hs,s0,rfl,M,g,hn,hs0,q⟩:=h
 have PM:=g.turns.perm
 have PE:=per_is PM hs0
 refine ⟨_,pss_cons (ps_set (i:=3) scLR.nd rfl (Or.inl rfl) (pe_lst (pa_cons (pv 2) pa_nil)))
  (pss_cons (ps_set (i:=4) scLR.nd rfl (Or.inl rfl) (pe_call G hr (by rfl) mG kG bG .nil pass0 (pa_cons (pv 0) (pa_cons (pv 1) (pa_cons (pv 2) pa_nil)))))
  (pss_cons (ps_while PassesOwn.never (pt_cmpR op_ne (pv 4) (pv 2) (nomark _))
   (pss_cons (ps_expr (pe_bmK K PySem.F.plainAttrs_list PySem.F.slot_list_append PySem.F.type_list_append mt_append (pv 3) (pa_cons (pv 4) pa_nil)))
    (pss_one (ps_set (i:=4) scLR.nd rfl (Or.inl rfl) (pe_call G hr (by rfl) mG kG bG .nil pass0 (pa_cons (pv 0) (pa_cons (pv 1) (pa_cons (pv 4) pa_nil))))))))
  (pss_one (ps_ret (pv 3))))),?_⟩
 refine ⟨_,rfl,by show 1≤sizeLine; decide,fun l hl=>?_⟩
 refine ⟨_,rfl,_,rfl,_,rfl,T,hA,bs,ts,hs,s0,rfl,M.keep (same_new hl _),g,hn,hs0,?_⟩
 refine while_by (fun σ H2=>∃ j,1≤j∧j≤per (nxt ts) s0∧σ=[some (.ref T),some (.ref hA),some (.int s0),some (.ref l),some (.int (itn (nxt ts) j s0))]∧Same H H2∧H2 l=some (.lst ((ringL (nxt ts) s0 j).map V.int)))
  (fun _ H2=>match H2 l with | some (.lst xs)=>per (nxt ts) s0-xs.length | _=>0) ⟨1,Nat.le_refl _,PE.1,rfl,same_new hl _,upd_same⟩ ?_ ?_
 ·rintro σ H2 ⟨j,j1,j2,rfl,sm,hl2⟩
  refine ⟨_,rfl,_,rfl,rfl,_,rfl,?_⟩
  by_cases he:itn (nxt ts) j s0=s0
  ·refine iteNS (iv he) ?_
   have hj:j=per (nxt ts) s0:=by
    rcases Nat.lt_or_ge j (per (nxt ts) s0) with z | z
    ·exact absurd he (PE.2.2 j j1 z)
    ·omega
   subst hj
   exact ⟨_,rfl,q l _ sm hl2⟩
  ·refine iteNN (ivn he) ?_
   have hj:j<per (nxt ts) s0:=by
    rcases Nat.lt_or_ge j (per (nxt ts) s0) with z | z
    ·exact z
    ·exact absurd (by rw [show j=per (nxt ts) s0 by omega]; exact PE.2.1) he
   have hpl:=per_le PM hs0
   have hlen:(ringL (nxt ts) s0 j).length=j:=ringL_len
   refine ⟨_,rfl,.inl ⟨rfl,_,SqL.of hl2⟩,_,rfl,l,_,_,rfl,rfl,hl2,by rw [List.length_map,hlen]; exact szl (by omega),?_⟩
   have sm2:=sm.up hl (.lst ((ringL (nxt ts) s0 j).map V.int++[.int (itn (nxt ts) j s0)]))
   refine ⟨_,rfl,_,rfl,_,rfl,T,hA,bs,ts,hs,_,rfl,M.keep sm2,g,hn,itn_in PM hs0 j,?_⟩
   refine ⟨⟨j+1,by omega,hj,rfl,sm2,?_⟩,?_⟩
   ·rw [upd_same,ringL_snoc,List.map_append]
    rfl
   ·rw [upd_same,hl2]
    show per (nxt ts) s0-((ringL (nxt ts) s0 j).map V.int++[V.int (itn (nxt ts) j s0)]).length<per (nxt ts) s0-((ringL (nxt ts) s0 j).map V.int).length
    rw [List.length_append,List.length_map,hlen,List.length_singleton]
    omega
 ·rintro σ H2 Q1 Q2 hq ⟨v,e,v',e',sc,b,eb,z⟩
  exact ⟨v,e,v',e',sc,b,eb,hq _ _ z⟩
inductive SpPutR (vs:List V) (H:Hp) (Q:VK):Prop
 | mk (T hA:Addr) (bs:List Addr) (ts:List (List Int)) (hs:List Nat) (s e:Int) (p:Nat) (t1 t2:List Int) (h_0:vs=[.ref T,.ref hA,.int s,.int e]) (h_1:GrM H T hA bs ts hs) (h_2:hs.length≤1000) (h_3:0≤s) (h_4:hs[s.toNat]?=some p) (h_5:ts[p]?=some (t1++s :: t2)) (h_6:s∉t1) (h_7:(t1++s :: t2).length≤1000) (h_8:∀ H',Fr T hA bs H H'->GrM H' T hA bs (ts.set p (t1++e :: s :: t2)) (hs++[p])->Q .non H'):SpPutR vs H Q
def spPut:Sp:=fun vs H Q _=>SpPutR vs H Q
theorem scPu:FnScope ["_law_turns","_law_homes","_law_spot","_law_end","_law_turn"] ["_law_turns","_law_homes","_law_spot","_law_end"] (defScope s_law_put_ahead):=⟨rfl,rfl,rfl,by decide +kernel,rfl,by decide +kernel,by decide +kernel⟩
theorem ok_put (F:Fun K "_law_put_ahead" "_law_put_ahead" s_law_put_ahead f fd):FnOk P w K mg base CX0 1 f fd ["_law_turns","_law_homes","_law_spot","_law_end"] spPut:=by
 refine F.ok scPu (fun vs H Q E h=>?_) (fun cdv A outer s H vs Q E hr h=>?_)
 ·obtain ⟨T,hA,bs,ts,hs,s,e,p,t1,t2,rfl,_⟩:=h
  rfl
 obtain ⟨T,hA,bs,ts,hs,s0,e,p,t1,t2,rfl,M,hl,h0,hm,hp,nm,tl,q⟩:=h
 refine ⟨_,pss_cons (ps_set (i:=4) scPu.nd rfl (Or.inl rfl) (pe_ix (ixL (K:=K)) (pv 0) (pe_ix (ixL (K:=K)) (pv 1) (pv 2) (fun _ _=>rfl)) (fun _ _=>rfl)))
  (pss_cons (ps_expr (pe_bmK K PySem.F.plainAttrs_list PySem.F.slot_list_insert PySem.F.type_list_insert mt_insert (pv 4) (pa_cons (pe_bmK K PySem.F.plainAttrs_list PySem.F.slot_list_index PySem.F.type_list_index mt_index (pv 4) (pa_cons (pv 2) pa_nil)) (pa_cons (pv 3) pa_nil))))
  (pss_one (ps_expr (pe_bmK K PySem.F.plainAttrs_list PySem.F.slot_list_append PySem.F.type_list_append mt_append (pv 1) (pa_cons (pe_ix (ixL (K:=K)) (pv 1) (pv 2) (fun _ _=>rfl)) pa_nil))))),?_⟩
 obtain ⟨b,hb,bm,ab,hB⟩:=turn_at M.tm hp
 have ix:=idx_app (u2:=t2) nm
 refine ⟨_,rfl,_,rfl,_,rfl,hA,_,_,_,rfl,rfl,SqL.of M.hh,nat_atI h0 hm,T,_,_,_,rfl,rfl,SqL.of M.tm.h1,ab,?_⟩
 refine ⟨_,rfl,.inl ⟨rfl,_,SqL.of hB⟩,_,rfl,.inl ⟨rfl,_,SqL.of hB⟩,_,rfl,b,t1++s0 :: t2,s0,rfl,rfl,hB,by simp,by omega,?_⟩
 rw [ix]
 refine ⟨_,rfl,b,_,(t1.length:Int),.int e,rfl,rfl,hB,by omega,by simp; omega,by rw [List.length_map]; omega,?_⟩
 have e3:((t1++s0 :: t2).map V.int).take ((t1.length:Int)).toNat++V.int e :: ((t1++s0 :: t2).map V.int).drop ((t1.length:Int)).toNat=(t1++e :: s0 :: t2).map V.int:=by
  rw [Int.toNat_natCast,←List.map_take,←List.map_drop]
  simp
 rw [e3]
 have M1:=M.turn (t:=t1++e :: s0 :: t2) hb
 have F1:Fr T hA bs H (upd H b (.lst ((t1++e :: s0 :: t2).map V.int))):=Fr.up (by simp [bm]) _
 generalize upd H b (.lst ((t1++e :: s0 :: t2).map V.int))=H1 at M1 F1
 refine ⟨_,rfl,.inl ⟨rfl,_,SqL.of M1.hh⟩,_,rfl,_,rfl,hA,_,_,_,rfl,rfl,SqL.of M1.hh,nat_atI h0 hm,hA,_,_,rfl,rfl,M1.hh,by rw [List.length_map]; exact szl (by omega),?_⟩
 have M2:=M1.homes (hs++[p])
 have e4:natV hs++[V.int (p:Int)]=natV (hs++[p]):=by simp [natV]
 rw [e4]
 exact q _ (F1.trans (Fr.up (by simp) _)) M2
end
end My
namespace My
open PySem L2 Mth
section
variable {P:Program} {w:World} {K:PySem.W.Frag} {mg:Str->Option Value} {base:Heap} {f g h f1 f2 f3 f4:Addr} {fd gd hd d1 d2 d3 d4:FuncData}
inductive SpMoreR (vs:List V) (H:Hp) (Q:VK):Prop
 | mk (T hA:Addr) (bs:List Addr) (ts:List (List Int)) (hs:List Nat) (z:Int) (h_0:vs=[.ref T,.ref hA,.int z]) (h_1:GrM H T hA bs ts hs) (h_2:Gn ts hs) (h_3:hs.length≤36) (h_4:0≤z) (h_5:∀ H' bs' ts' hs',Fr T hA bs H H'->(∀ b∈bs',b∈bs∨H b=none)->GrM H' T hA bs' ts' hs'->Gn ts' hs'->hs'.length=hs.length+2->Q .non H'):SpMoreR vs H Q
def spMore:Sp:=fun vs H Q _=>SpMoreR vs H Q
theorem scMo:FnScope ["_law_turns","_law_homes","_law_cell","_law_end","_law_ring_here","_law_first","_law_second","_law_parted","_law_turn"] ["_law_turns","_law_homes","_law_cell"] (defScope s_law_one_more):=⟨rfl,rfl,rfl,by decide +kernel,rfl,by decide +kernel,by decide +kernel⟩
theorem tlen_of {ts:List (List Int)} {hs:List Nat} (g:Gn ts hs) {p:Nat} {t:List Int} (h:ts[p]?=some t):t.length≤hs.length:=by
 have:=flat_sub (List.mem_of_getElem? h)
 rwa [g.turns.len] at this
theorem _root_.Mth.Gn.tsl {ts:List (List Int)} {hs:List Nat} (g:Gn ts hs):ts.length≤hs.length:=by have:=g.few; omega
theorem ixN_nat' {n j:Nat} (h:j<n):ixN n ((j:Nat):Int)=some j:=by unfold ixN; rw [if_pos (by omega),if_pos (by omega)]; simp
theorem Fr.free {T hA l:Addr} {bs:List Addr} {H H':Hp} {ts:List (List Int)} {hs:List Nat} (F:Fr T hA bs H H') (M:GrM H' T hA bs ts hs) (hl:H' l=none):H l=none:=by
 cases e:H l with
 | none=>rfl
 | some o =>
  exfalso
  by_cases m:l∈T :: hA :: bs
  ·rcases List.mem_cons.mp m with z | z
   ·rw [z,M.tm.h1] at hl; cases hl
   ·rcases List.mem_cons.mp z with z | z
    ·rw [z,M.hh] at hl; cases hl
    ·obtain ⟨k,hk,ek⟩:=List.getElem_of_mem z
     have hl2:k<ts.length:=by rw [←M.tm.rows.1]; exact hk
     have:=M.tm.rows.2 k l ts[k] (by rw [List.getElem?_eq_getElem hk,ek]) (List.getElem?_eq_getElem hl2)
     unfold IntsL at this
     rw [hl] at this; cases this
  ·rw [F l o m e] at hl; cases hl
theorem pick {R:List Int} (h:0<R.length) (c:Int):∃ a,a∈R∧atI (R.map V.int) (c % (((R.map V.int).length:Nat):Int))=some (.int a):=by
 rw [List.length_map]
 have h0:(0:Int)<(R.length:Int):=by omega
 have c0:=Int.emod_nonneg c (Int.ne_of_gt h0)
 have c1:=Int.emod_lt_of_pos c h0
 generalize c % (R.length:Int)=d at c0 c1
 have hd:d.toNat<R.length:=by omega
 refine ⟨R[d.toNat],List.getElem_mem hd,?_⟩
 have:=atI_nat (xs:=R.map V.int) (at_int (List.getElem?_eq_getElem hd))
 rwa [show ((d.toNat:Nat):Int)=d by omega] at this
set_option maxHeartbeats 1000000 in
theorem ok_more (F:Fun K "_law_one_more" "_law_one_more" s_law_one_more f fd) (G1:FnOk P w K mg base CX0 2 f1 d1 ["_law_turns","_law_homes","_law_start"] spLRing) (b1:Binds K d1 ["_law_turns","_law_homes","_law_start"] []) (k1:PySem.W.keepIn K (.ref f1)=true) (m1:mg "_law_ring" = some (.ref f1))
  (G2:FnOk P w K mg base CX0 1 f2 d2 ["_law_turns","_law_homes","_law_spot","_law_end"] spPut) (b2:Binds K d2 ["_law_turns","_law_homes","_law_spot","_law_end"] []) (k2:PySem.W.keepIn K (.ref f2)=true) (m2:mg "_law_put_ahead" = some (.ref f2)) (ml:mg "len" = none) :
  FnOk P w K mg base CX0 3 f fd ["_law_turns","_law_homes","_law_cell"] spMore:=by
 refine F.ok scMo (fun vs H Q E h=>?_) (fun cdv A outer s H vs Q E hr h=>?_)
 ·obtain ⟨T,hA,bs,ts,hs,z,rfl,_⟩:=h
  rfl
 obtain ⟨T,hA,bs,ts,hs,z,rfl,M,g,hl,z0,q⟩:=h
 have hr1:=hr.mono (show 1≤2 by decide)
 refine ⟨_,pss_cons (ps_set (i:=3) scMo.nd rfl (Or.inl rfl) (pe_callB (callLen (K:=K)) (by rfl) ml bt_len (pa_cons (pv 1) pa_nil)))
  (pss_cons (ps_set (i:=4) scMo.nd rfl (Or.inl rfl) (pe_call G1 hr (by rfl) m1 k1 b1 .nil pass0 (pa_cons (pv 0) (pa_cons (pv 1) (pa_cons (pe_op op_mod (pe_op op_fdiv (pv 2) pe_int) (pv 3)) pa_nil)))))
  (pss_cons (ps_set (i:=5) scMo.nd rfl (Or.inl rfl) (pe_op op_xor (pe_ix (ixL (K:=K)) (pv 4) (pe_op op_mod (pe_op op_fdiv (pv 2) pe_int) (pe_callB (callLen (K:=K)) (by rfl) ml bt_len (pa_cons (pv 4) pa_nil))) (fun _ _=>rfl)) pe_int))
  (pss_cons (ps_set (i:=6) scMo.nd rfl (Or.inl rfl) (pe_op op_xor (pe_ix (ixL (K:=K)) (pv 4) (pe_op op_mod (pe_op op_fdiv (pv 2) pe_int) (pe_callB (callLen (K:=K)) (by rfl) ml bt_len (pa_cons (pv 4) pa_nil))) (fun _ _=>rfl)) pe_int))
  (pss_one (ps_if (pt_cmpR op_eq (pe_op op_mod (pv 2) pe_int) pe_int (nomark _))
   (pss_cons (ps_expr (pe_call G2 hr1 (by rfl) m2 k2 b2 .nil pass0 (pa_cons (pv 0) (pa_cons (pv 1) (pa_cons (pv 5) (pa_cons (pv 3) pa_nil))))))
   (pss_cons (ps_expr (pe_bmK K PySem.F.plainAttrs_list PySem.F.slot_list_append PySem.F.type_list_append mt_append (pv 1) (pa_cons (pe_callB (callLen (K:=K)) (by rfl) ml bt_len (pa_cons (pv 0) pa_nil)) pa_nil)))
   (pss_one (ps_expr (pe_bmK K PySem.F.plainAttrs_list PySem.F.slot_list_append PySem.F.type_list_append mt_append (pv 0) (pa_cons (pe_lst (pa_cons (pe_op op_add (pv 3) pe_int) pa_nil)) pa_nil))))))
   (pss_one (ps_if (pt_cmpR op_lt (pe_op op_mod (pv 2) pe_int) pe_int (nomark _))
    (pss_cons (ps_expr (pe_call G2 hr1 (by rfl) m2 k2 b2 .nil pass0 (pa_cons (pv 0) (pa_cons (pv 1) (pa_cons (pv 5) (pa_cons (pv 3) pa_nil))))))
    (pss_one (ps_expr (pe_call G2 hr1 (by rfl) m2 k2 b2 .nil pass0 (pa_cons (pv 0) (pa_cons (pv 1) (pa_cons (pv 6) (pa_cons (pe_op op_add (pv 3) pe_int) pa_nil))))))))
    (pss_cons (ps_set (i:=7) scMo.nd rfl (Or.inl rfl) (pe_op op_add pe_int (pe_op op_mul pe_int (pe_op op_mod (pe_op op_fdiv (pv 2) pe_int) (pe_op op_sub (pe_op op_fdiv (pv 3) pe_int) pe_int)))))
    (pss_cons (ps_set (i:=8) scMo.nd rfl (Or.inl rfl) (pe_ix (ixL (K:=K)) (pv 0) (pe_ix (ixL (K:=K)) (pv 1) (pv 7) (fun _ _=>rfl)) (fun _ _=>rfl)))
    (pss_cons (ps_asg (pe_op op_add (pv 3) pe_int) (pg_sub (pv 8) (pe_bmK K PySem.F.plainAttrs_list PySem.F.slot_list_index PySem.F.type_list_index mt_index (pv 8) (pa_cons (pv 7) pa_nil)) set_list))
    (pss_cons (ps_expr (pe_bmK K PySem.F.plainAttrs_list PySem.F.slot_list_append PySem.F.type_list_append mt_append (pv 1) (pa_cons (pe_callB (callLen (K:=K)) (by rfl) ml bt_len (pa_cons (pv 0) pa_nil)) pa_nil)))
    (pss_cons (ps_expr (pe_bmK K PySem.F.plainAttrs_list PySem.F.slot_list_append PySem.F.type_list_append mt_append (pv 1) (pa_cons (pe_ix (ixL (K:=K)) (pv 1) (pv 7) (fun _ _=>rfl)) pa_nil)))
    (pss_cons (ps_asg (pe_callB (callLen (K:=K)) (by rfl) ml bt_len (pa_cons (pv 0) pa_nil)) (pg_sub (pv 1) (pv 7) set_list))
    (pss_one (ps_expr (pe_bmK K PySem.F.plainAttrs_list PySem.F.slot_list_append PySem.F.type_list_append mt_append (pv 0) (pa_cons (pe_lst (pa_cons (pv 7) (pa_cons (pv 3) pa_nil))) pa_nil))))))))))))))))),?_⟩
 have ev:=g.ev
 have n4:=g.n4
 have PM:=g.turns.perm
 have tsl:=g.tsl
 have ln:(natV hs).length=hs.length:=List.length_map ..
 have m4:(0:Int)<4:=by decide
 have mul2:∀ x:Int,CMul 2 x:=fun x=>.inl ⟨by decide,by decide⟩
 have npos:(0:Int)<(hs.length:Int):=by omega
 refine ⟨_,rfl,hA,_,rfl,.inl (SqL.of M.hh),?_⟩
 rw [ln]
 have c0:InR hs.length (z / 4 % (hs.length:Int)):=⟨Int.emod_nonneg _ (Int.ne_of_gt npos),Int.emod_lt_of_pos _ npos⟩
 refine ⟨_,rfl,_,rfl,_,rfl,_,_,rfl,rfl,⟨by decide,by decide⟩,_,rfl,_,_,rfl,rfl,npos,T,hA,bs,ts,hs,_,rfl,M,g,by omega,c0,fun rp H1 s1 hrp=>?_⟩
 have Rm:=ring_self PM c0
 have hreach:∀ {a b:Int},a∈ring (nxt ts) (z / 4 % (hs.length:Int))->b∈ring (nxt ts) (z / 4 % (hs.length:Int))->InR hs.length a∧∃ k,itn (nxt ts) k a=b:=fun ha hb=>⟨ring_in PM c0 ha,ring_reach PM c0 ha hb⟩
 have M1:=M.keep s1
 generalize ring (nxt ts) (z / 4 % (hs.length:Int))=R at hrp Rm hreach
 have Rl:0<R.length:=List.length_pos_of_mem Rm
 have Rl2:(0:Int)<(((R.map V.int).length:Nat):Int):=by rw [List.length_map]; omega
 obtain ⟨a,am,ea⟩:=pick Rl (z / 120)
 obtain ⟨b,bm,eb⟩:=pick Rl (z / 3600)
 obtain ⟨aR,kb⟩:=hreach am bm
 obtain ⟨bR,_⟩:=hreach bm am
 have oa:=oth_in ev aR
 have ob:=oth_in ev bR
 refine ⟨_,rfl,_,rfl,_,_,rfl,rfl,⟨by decide,by decide⟩,_,rfl,rp,_,rfl,.inl (SqL.of hrp),_,_,rfl,rfl,Rl2,rp,_,_,_,rfl,rfl,SqL.of hrp,ea,_,_,rfl,rfl,?_⟩
 (try dsimp only)
 rw [xorI aR (by omega)]
 refine ⟨_,rfl,_,rfl,_,_,rfl,rfl,⟨by decide,by decide⟩,_,rfl,rp,_,rfl,.inl (SqL.of hrp),_,_,rfl,rfl,Rl2,rp,_,_,_,rfl,rfl,SqL.of hrp,eb,_,_,rfl,rfl,?_⟩
 (try dsimp only)
 rw [xorI bR (by omega)]
 obtain ⟨p,t,hp,hx,hm⟩:=g.at oa
 obtain ⟨t1,t2,rfl,nm⟩:=first_at hx
 have tl:=tlen_of g hp
 have pl:p<ts.length:=(List.getElem?_eq_some_iff.mp hp).1
 have F1:Fr T hA bs H H1:=Fr.same s1
 refine ⟨_,rfl,_,_,rfl,rfl,m4,rfl,_,rfl,?_⟩
 refine ite2 (fun _=>?_) (fun _=>?_)
 ·-- a place hung up
  refine ⟨_,rfl,_,rfl,_,rfl,_,rfl,T,hA,bs,ts,hs,oth a,(hs.length:Int),p,t1,t2,rfl,M1,by omega,oa.1,hm,hp,nm,by omega,fun H2 F2 M2=>?_⟩
  have F12:=F1.trans F2
  refine ⟨_,rfl,.inl ⟨rfl,_,SqL.of M2.hh⟩,_,rfl,T,_,rfl,.inl (SqL.of M2.tm.h1),hA,_,_,rfl,rfl,M2.hh,by rw [List.length_map,List.length_append]; exact szl (by simp; omega),?_⟩
  have el:(((bs.map V.ref).length:Nat):Int)=(ts.length:Int):=by rw [List.length_map,M.tm.rows.1]
  have e4:natV (hs++[p])++[V.int (((bs.map V.ref).length:Nat):Int)]=natV (hs++[p]++[ts.length]):=by rw [el]; simp [natV]
  rw [e4]
  have M3:=M2.homes (hs++[p]++[ts.length])
  have F13:=F12.trans (Fr.up (T:=T) (h:=hA) (bs:=bs) (H:=H2) (x:=hA) (by simp) (.lst (natV (hs++[p]++[ts.length]))))
  generalize upd H2 hA (.lst (natV (hs++[p]++[ts.length])))=H3 at M3 F13
  refine ⟨_,rfl,.inl ⟨rfl,_,SqL.of M3.tm.h1⟩,_,rfl,_,_,rfl,rfl,by show 1≤sizeLine; decide,fun l hl=>?_⟩
  have s4:=same_new hl (.lst [.int ((hs.length:Int)+1)])
  refine ⟨T,_,_,rfl,rfl,s4 _ _ M3.tm.h1,by rw [List.length_map,M.tm.rows.1]; exact szl (by omega),?_⟩
  have fl:=F13.free M3 hl
  have M4:=M3.more (u:=[(hs.length:Int)+1]) hl
  refine q _ (bs++[l]) _ _ ((F13.trans (Fr.same s4)).trans (Fr.up (by simp) _)) (fun c hc=>?_) M4 (g.hung hp) (by simp)
  rcases List.mem_append.mp hc with w | w
  ·exact .inl w
  ·exact .inr (by rw [List.mem_singleton.mp w]; exact fl)
 refine ⟨_,rfl,_,_,rfl,rfl,m4,_,_,rfl,rfl,_,rfl,?_⟩
 refine ite2 (fun _=>?_) (fun _=>?_)
 ·-- a chord
  refine ⟨_,rfl,_,rfl,_,rfl,_,rfl,T,hA,bs,ts,hs,oth a,(hs.length:Int),p,t1,t2,rfl,M1,by omega,oa.1,hm,hp,nm,by omega,fun H2 F2 M2=>?_⟩
  have F12:=F1.trans F2
  obtain ⟨p2,t',hp2,hx2,hm2⟩:=g.at ob
  have gu:∃ u,(ts.set p (t1++(hs.length:Int) :: oth a :: t2))[p2]?=some u∧oth b∈u∧u.length≤hs.length+1:=by
   by_cases e:p=p2
   ·subst e
    refine ⟨_,List.getElem?_set_self pl,?_,?_⟩
    ·rw [hp] at hp2
     cases hp2
     rcases List.mem_append.mp hx2 with w | w
     ·exact List.mem_append_left _ w
     ·exact List.mem_append_right _ (List.mem_cons_of_mem _ w)
    ·simp at tl ⊢; omega
   ·exact ⟨t',by rw [List.getElem?_set_ne e]; exact hp2,hx2,by have:=tlen_of g hp2; omega⟩
  obtain ⟨u,hu,hxu,ul⟩:=gu
  obtain ⟨u1,u2,rfl,nu⟩:=first_at hxu
  have hm2':(hs++[p])[(oth b).toNat]?=some p2:=by rw [List.getElem?_append_left (List.getElem?_eq_some_iff.mp hm2).1]; exact hm2
  refine ⟨_,rfl,_,rfl,_,rfl,_,rfl,_,_,rfl,rfl,T,hA,bs,_,_,oth b,(hs.length:Int)+1,p2,u1,u2,rfl,M2,by simp; omega,ob.1,hm2',hu,nu,by omega,fun H3 F3 M3=>?_⟩
  exact q _ bs _ _ (F12.trans F3) (fun c hc=>.inl hc) M3 (g.chord aR kb hp hu) (by simp)
 ·-- a rope parted
  have half:(0:Int)<(hs.length:Int) / 2-1:=by omega
  refine ⟨_,rfl,_,_,rfl,rfl,⟨by decide,by decide⟩,_,rfl,_,_,rfl,rfl,⟨by decide,by decide⟩,_,_,rfl,rfl,_,_,rfl,rfl,half,_,_,rfl,rfl,mul2 _,_,_,rfl,rfl,?_⟩
  (try dsimp only)
  have d0:=Int.emod_nonneg (z / 4) (Int.ne_of_gt half)
  have d1:=Int.emod_lt_of_pos (z / 4) half
  have er:∃ r:Nat,1≤r∧3+2*(z / 4 % ((hs.length:Int) / 2-1))=2*(r:Int)+1:=⟨((z / 4 % ((hs.length:Int) / 2-1))+1).toNat,by omega,by omega⟩
  have pR:InR hs.length (3+2*(z / 4 % ((hs.length:Int) / 2-1))):=⟨by omega,by omega⟩
  generalize 3+2*(z / 4 % ((hs.length:Int) / 2-1))=pe at er pR
  obtain ⟨r,r1,er⟩:=er
  obtain ⟨pp,tt,hpp,px,pm⟩:=g.at pR
  have ttl:=tlen_of g hpp
  have ppl:pp<ts.length:=(List.getElem?_eq_some_iff.mp hpp).1
  obtain ⟨bb,hbb,bbm,abb,hBB⟩:=turn_at M1.tm hpp
  have ttn:=nd_sub g.nd (List.mem_of_getElem? hpp)
  have ixl:tt.idxOf pe<tt.length:=List.idxOf_lt_length_iff.mpr px
  refine ⟨_,rfl,_,rfl,_,rfl,hA,_,_,_,rfl,rfl,SqL.of M1.hh,nat_atI pR.1 pm,T,_,_,_,rfl,rfl,SqL.of M1.tm.h1,abb,?_⟩
  refine ⟨_,rfl,_,_,rfl,rfl,_,rfl,_,rfl,.inl ⟨rfl,_,SqL.of hBB⟩,_,rfl,bb,tt,pe,rfl,rfl,hBB,px,by omega,bb,_,_,tt.idxOf pe,rfl,rfl,hBB,by rw [List.length_map]; exact ixN_nat' ixl,?_⟩
  rw [show (tt.map V.int).set (tt.idxOf pe) (V.int ((hs.length:Int)+1))=(tt.map fun x=>if x=pe then (hs.length:Int)+1 else x).map V.int by rw [←set_map ttn px,List.map_set]]
  have M2:=M1.turn (t:=tt.map fun x=>if x=pe then (hs.length:Int)+1 else x) hbb
  have F2:=F1.trans (Fr.up (T:=T) (h:=hA) (bs:=bs) (H:=H1) (x:=bb) (by simp [bbm]) (.lst ((tt.map fun x=>if x=pe then (hs.length:Int)+1 else x).map V.int)))
  generalize upd H1 bb (.lst ((tt.map fun x=>if x=pe then (hs.length:Int)+1 else x).map V.int))=H2 at M2 F2
  have el:(((bs.map V.ref).length:Nat):Int)=(ts.length:Int):=by rw [List.length_map,M.tm.rows.1]
  refine ⟨_,rfl,.inl ⟨rfl,_,SqL.of M2.hh⟩,_,rfl,T,_,rfl,.inl (SqL.of M2.tm.h1),hA,_,_,rfl,rfl,M2.hh,by rw [List.length_map]; exact szl (by omega),?_⟩
  rw [show natV hs++[V.int (((bs.map V.ref).length:Nat):Int)]=natV (hs++[ts.length]) by rw [el]; simp [natV]]
  have M3:=M2.homes (hs++[ts.length])
  have F3:=F2.trans (Fr.up (T:=T) (h:=hA) (bs:=bs) (H:=H2) (x:=hA) (by simp) (.lst (natV (hs++[ts.length]))))
  generalize upd H2 hA (.lst (natV (hs++[ts.length])))=H3 at M3 F3
  have pm3:(hs++[ts.length])[pe.toNat]?=some pp:=by rw [List.getElem?_append_left (List.getElem?_eq_some_iff.mp pm).1]; exact pm
  refine ⟨_,rfl,.inl ⟨rfl,_,SqL.of M3.hh⟩,_,rfl,_,rfl,hA,_,_,_,rfl,rfl,SqL.of M3.hh,nat_atI pR.1 pm3,hA,_,_,rfl,rfl,M3.hh,by rw [List.length_map]; exact szl (by simp; omega),?_⟩
  rw [show natV (hs++[ts.length])++[V.int (pp:Int)]=natV (hs++[ts.length]++[pp]) by simp [natV]]
  have M4:=M3.homes (hs++[ts.length]++[pp])
  have F4:=F3.trans (Fr.up (T:=T) (h:=hA) (bs:=bs) (H:=H3) (x:=hA) (by simp) (.lst (natV (hs++[ts.length]++[pp]))))
  generalize upd H3 hA (.lst (natV (hs++[ts.length]++[pp])))=H4 at M4 F4
  have ixp:ixN (natV (hs++[ts.length]++[pp])).length pe=some pe.toNat:=by
   have:=ixN_nat' (n:=(natV (hs++[ts.length]++[pp])).length) (j:=pe.toNat) (by have:=pR.2; have:=pR.1; simp [natV]; omega)
   rwa [show ((pe.toNat:Nat):Int)=pe by have:=pR.1; omega] at this
  refine ⟨_,rfl,T,_,rfl,.inl (SqL.of M4.tm.h1),_,rfl,_,rfl,hA,_,_,pe.toNat,rfl,rfl,M4.hh,ixp,?_⟩
  rw [show (natV (hs++[ts.length]++[pp])).set pe.toNat (V.int (((bs.map V.ref).length:Nat):Int))=natV ((hs++[ts.length]++[pp]).set pe.toNat ts.length) by rw [el]; unfold natV; rw [List.map_set]]
  have M5:=M4.homes ((hs++[ts.length]++[pp]).set pe.toNat ts.length)
  have F5:=F4.trans (Fr.up (T:=T) (h:=hA) (bs:=bs) (H:=H4) (x:=hA) (by simp) (.lst (natV ((hs++[ts.length]++[pp]).set pe.toNat ts.length))))
  generalize upd H4 hA (.lst (natV ((hs++[ts.length]++[pp]).set pe.toNat ts.length)))=H5 at M5 F5
  refine ⟨_,rfl,.inl ⟨rfl,_,SqL.of M5.tm.h1⟩,_,rfl,_,rfl,by show 2≤sizeLine; decide,fun l hl=>?_⟩
  have s6:=same_new hl (.lst [.int pe,.int (hs.length:Int)])
  refine ⟨T,_,_,rfl,rfl,s6 _ _ M5.tm.h1,by rw [List.length_map,M.tm.rows.1]; exact szl (by omega),?_⟩
  have fl:=F5.free M5 hl
  have M6:=M5.more (u:=[pe,(hs.length:Int)]) hl
  refine q _ (bs++[l]) _ _ ((F5.trans (Fr.same s6)).trans (Fr.up (by simp) _)) (fun c hc=>?_) M6 (g.part r1 er hpp px) (by simp)
  rcases List.mem_append.mp hc with w | w
  ·exact .inl w
  ·exact .inr (by rw [List.mem_singleton.mp w]; exact fl)
end
end My
namespace My
open PySem L2 Mth
def rho (m:Nat) (x:Int):Int:=(x-2) % (2*(m:Int)+2)
theorem rho_hi {m:Nat} {x:Int} (h:InR (2*m+2) x) (h2:2≤x):rho m x=x-2:=by
 obtain ⟨h0,h1⟩:=h
 unfold rho
 exact Int.emod_eq_of_lt (by omega) (by push_cast at h1; omega)
theorem rho_lo {m:Nat} {x:Int} (h:InR (2*m+2) x) (h2:x<2):rho m x=x+2*m:=by
 obtain ⟨h0,h1⟩:=h
 unfold rho
 have:(x-2) % (2*(m:Int)+2)=(x-2+(2*(m:Int)+2)) % (2*(m:Int)+2):=by rw [Int.add_emod_right]
 rw [this,Int.emod_eq_of_lt (by omega) (by omega)]
 omega
theorem rho_in {m:Nat} {x:Int} (h:InR (2*m+2) x):InR (2*m+2) (rho m x):=by
 have:=h.1
 have:=h.2
 by_cases h2:2≤x
 ·rw [rho_hi h h2]; exact ⟨by omega,by omega⟩
 ·rw [rho_lo h (by omega)]; exact ⟨by omega,by push_cast; omega⟩
theorem rho_inj {m:Nat} {x y:Int} (hx:InR (2*m+2) x) (hy:InR (2*m+2) y) (e:rho m x=rho m y):x=y:=by
 obtain ⟨x0,x1⟩:=hx
 obtain ⟨y0,y1⟩:=hy
 push_cast at x1 y1
 by_cases h2:2≤x <;> by_cases h3:2≤y
 ·rw [rho_hi ⟨x0,by push_cast; omega⟩ h2,rho_hi ⟨y0,by push_cast; omega⟩ h3] at e; omega
 ·rw [rho_hi ⟨x0,by push_cast; omega⟩ h2,rho_lo ⟨y0,by push_cast; omega⟩ (by omega)] at e; omega
 ·rw [rho_lo ⟨x0,by push_cast; omega⟩ (by omega),rho_hi ⟨y0,by push_cast; omega⟩ h3] at e; omega
 ·rw [rho_lo ⟨x0,by push_cast; omega⟩ (by omega),rho_lo ⟨y0,by push_cast; omega⟩ (by omega)] at e; omega
def sig (m:Nat) (x:Int):Int:=if x<2*m then x+2 else x-2*m
theorem sig_ok {m:Nat} {x:Int} (h:InR (2*m+2) x):InR (2*m+2) (sig m x)∧rho m (sig m x)=x:=by
 obtain ⟨x0,x1⟩:=h
 push_cast at x1
 unfold sig
 split
 ·have a:InR (2*m+2) (x+2):=⟨by omega,by push_cast; omega⟩
  exact ⟨a,by rw [rho_hi a (by omega)]; omega⟩
 ·have a:InR (2*m+2) (x-2*m):=⟨by omega,by push_cast; omega⟩
  exact ⟨a,by rw [rho_lo a (by omega)]; omega⟩
theorem oth_rho {m:Nat} {x:Int} (h:InR (2*m+2) x):oth (rho m x)=rho m (oth x):=by
 have ho:=oth_in (n:=2*m+2) (by omega) h
 have h0:=h.1
 have h1:=h.2
 by_cases h2:2≤x
 ·have h3:2≤oth x:=by unfold oth; split <;> omega
  rw [rho_hi h h2,rho_hi ho h3]
  unfold oth; split <;> split <;> omega
 ·have h3:oth x<2:=by unfold oth; split <;> omega
  rw [rho_lo h (by omega),rho_lo ho h3]
  unfold oth; split <;> split <;> omega
theorem hm0_get:∀ {rs:List Rope} {k:Nat} {r:Rope},rs[k]?=some r->(hm0 rs)[2*k]?=some r.1∧(hm0 rs)[2*k+1]?=some r.2.1
 | r0 :: rs,0,r,h=>by cases h; exact ⟨rfl,rfl⟩
 | r0 :: rs,k+1,r,h=>by
  have:=hm0_get (rs:=rs) (k:=k) (r:=r) (by simpa using h)
  rw [show 2*(k+1)=2*k+1+1 by omega]
  exact this
theorem gn_net {ts:List (List Int)} {hs:List Nat} {m:Nat} {rs:List Rope} (g:Gn ts hs) (hl:hs.length=2*m+2) (h14:m≤14) (hr:rs.length=m)
  (hk:∀ (k:Nat) (r:Rope),rs[k]?=some r->hs[2*k+2]?=some r.1∧hs[2*k+3]?=some r.2.1∧EaseK r.2.2):NetW ts.length rs (ts.map fun t=>t.map (rho m)):=by
 have n4:=g.n4
 have few:=g.few
 have inx:∀ x∈ts.flatten,InR (2*m+2) x:=fun x hx=>by have:=(g.mem x).mp hx; rwa [hl] at this
 have inj:∀ x∈ts.flatten,∀ y∈ts.flatten,rho m x=rho m y->x=y:=fun x hx y hy=>rho_inj (inx x hx) (inx y hy)
 obtain ⟨nd',pm'⟩:=pr_map (ts:=ts) (ρ:=rho m) g.nd inj
 have mem':∀ x,x∈(ts.map fun t=>t.map (rho m)).flatten↔InR (2*m+2) x:=by
  intro x
  rw [flat_map,List.mem_map]
  constructor
  ·rintro ⟨y,hy,rfl⟩
   exact rho_in (inx y hy)
  ·intro hx
   obtain ⟨s1,s2⟩:=sig_ok hx
   exact ⟨_,(g.mem _).mpr (by rw [hl]; exact s1),s2⟩
 have T:Turns (2*m+2) (ts.map fun t=>t.map (rho m)):=⟨nd',mem',by omega⟩
 have home_lt:∀ {j p:Nat},hs[j]?=some p->p<ts.length:=by
  intro j p h
  have hj:=(List.getElem?_eq_some_iff.mp h).1
  obtain ⟨p',t,h1,_,h2⟩:=g.at (x:=(j:Int)) ⟨by omega,by omega⟩
  rw [show ((j:Int)).toNat=j by omega,h] at h2
  cases h2
  exact (List.getElem?_eq_some_iff.mp h1).1
 have hmd:∀ j:Nat,j<2*m->(hm0 rs)[j]?=hs[j+2]?:=by
  intro j hj
  have hk2:j / 2<rs.length:=by omega
  obtain ⟨a1,a2⟩:=hm0_get (List.getElem?_eq_getElem hk2)
  obtain ⟨b1,b2,_⟩:=hk _ _ (List.getElem?_eq_getElem hk2)
  rcases Nat.mod_two_eq_zero_or_one j with e | e
  ·rw [show 2*(j / 2)=j by omega] at a1 b1
   rw [a1,b1]
  ·rw [show 2*(j / 2)+1=j by omega] at a2
   rw [show 2*(j / 2)+3=j+2 by omega] at b2
   rw [a2,b2]
 refine ⟨by omega,by omega,g.two,by omega,by rw [List.length_map],by rw [hr]; exact T,?_,?_,?_,?_,?_⟩
 ·intro t' ht'
  obtain ⟨t,ht,rfl⟩:=List.mem_map.mp ht'
  intro z
  exact g.ne t ht (by simpa using z)
 ·intro r hr'
  obtain ⟨k,hk2,e⟩:=List.getElem_of_mem hr'
  obtain ⟨b1,b2,b3⟩:=hk k r (by rw [List.getElem?_eq_getElem hk2,e])
  exact ⟨b3,home_lt b1,home_lt b2⟩
 ·intro p t' ht' x hx
  rw [List.getElem?_map] at ht'
  cases e:ts[p]? with
  | none=>rw [e] at ht'; cases ht'
  | some t =>
   rw [e] at ht'
   cases ht'
   obtain ⟨y,hy,rfl⟩:=List.mem_map.mp hx
   have hm1:=g.home p t e y hy
   have iy:=inx y (List.mem_flatten.mpr ⟨t,List.mem_of_getElem? e,hy⟩)
   have y0:=iy.1
   have y1:=iy.2
   have l0:(hm0 rs).length=2*m:=by rw [hm0_len,hr]
   unfold hm
   by_cases h2:2≤y
   ·rw [rho_hi iy h2,List.getElem?_append_left (by rw [l0]; omega),hmd _ (by omega),show (y-2).toNat+2=y.toNat by omega]
    exact hm1
   ·rw [rho_lo iy (by omega),List.getElem?_append_right (by rw [l0]; omega),l0,show (y+2*(m:Int)).toNat-2*m=y.toNat by omega]
    obtain ⟨lo0,lo1⟩:=g.lo
    have:y=0∨y=1:=by omega
    rcases this with rfl | rfl
    ·rw [show (0:Int).toNat=0 from rfl] at hm1 ⊢
     rw [lo0] at hm1
     exact hm1
    ·rw [show (1:Int).toNat=1 from rfl] at hm1 ⊢
     rw [lo1] at hm1
     exact hm1
 ·intro S h0 hS p hp
  refine g.hang S h0 (fun k k1 p' q' e1 e2=>?_) p hp
  have hj:=(List.getElem?_eq_some_iff.mp e1).1
  have hk2:k-1<rs.length:=by omega
  obtain ⟨b1,b2,_⟩:=hk _ _ (List.getElem?_eq_getElem hk2)
  rw [show 2*(k-1)+2=2*k by omega,e1] at b1
  rw [show 2*(k-1)+3=2*k+1 by omega,e2] at b2
  cases b1
  cases b2
  exact hS _ (List.getElem_mem hk2)
 ·obtain ⟨R,C,eR⟩:=g.flat
  rw [hl] at C eR
  have C2:Cyc (nxt (ts.map fun t=>t.map (rho m))) (2*m+2) (R.map fun c=>c.map (rho m)):=by
   refine C.ren (σ:=sig m) (fun x hx=>rho_in hx) (fun x hx=>sig_ok hx) (fun x y hx hy=>rho_inj hx hy) (fun x hx=>?_)
   have ho:=oth_in (n:=2*m+2) (by omega) hx
   rw [nxt_pr,oth_rho hx,pm' _ ((g.mem _).mpr (by rw [hl]; exact ho)),nxt_pr]
  have:=C2.count T.perm
  rw [List.length_map] at this
  rw [hr,this]
  omega
end My
namespace My
open PySem L2 Mth
theorem at_tup_upd {H:Hp} {l:Addr} {ys:List V} {o:HO} {gs:List Addr} {us:List (List Int)} (hl:H l=some (.lst ys)) (h:At IntsT H gs us):At IntsT (upd H l o) gs us:=⟨h.1,fun i b x e1 e2=>by
 have:=h.2 i b x e1 e2
 unfold IntsT at this ⊢
 rw [upd_ne (fun z=>by rw [z,hl] at this; cases this)]
 exact this⟩
theorem rope_upd {H:Hp} {b c:Addr} {ys:List V} {o:HO} {r:Rope} (hb:H b=some (.lst ys)) (h:RopeR H c r):RopeR (upd H b o) c r:=by
 obtain ⟨e,h1,h2⟩:=h
 refine ⟨e,by rw [upd_ne (fun z=>by rw [z,hb] at h1; cases h1)]; exact h1,?_⟩
 unfold FrR at h2 ⊢
 rw [upd_ne (fun z=>by rw [z,hb] at h2; cases h2)]; exact h2
theorem ropes_upd {H:Hp} {b:Addr} {ys:List V} {o:HO} {cs:List Addr} {rs:List Rope} (hb:H b=some (.lst ys)) (h:At RopeR H cs rs):At RopeR (upd H b o) cs rs:=⟨h.1,fun i c r e1 e2=>rope_upd hb (h.2 i c r e1 e2)⟩
theorem GrM.far {H:Hp} {T h x:Addr} {bs:List Addr} {ts:List (List Int)} {hs:List Nat} {o:HO} (M:GrM H T h bs ts hs) (hx:x∉T :: h :: bs):GrM (upd H x o) T h bs ts hs:=by
 have n1:T≠x:=fun z=>hx (by simp [z])
 have n2:h≠x:=fun z=>hx (by simp [z])
 refine ⟨⟨by rw [upd_ne n1]; exact M.tm.h1,⟨M.tm.rows.1,fun i b y e1 e2=>?_⟩,M.tm.nd⟩,by rw [upd_ne n2]; exact M.hh,M.hn⟩
 show upd H x _ b=_
 rw [upd_ne (fun z=>hx (by rw [←z]; exact List.mem_cons_of_mem _ (List.mem_cons_of_mem _ (List.mem_of_getElem? e1))))]
 exact M.tm.rows.2 i b y e1 e2
theorem GrM.new {H:Hp} {T h x:Addr} {bs:List Addr} {ts:List (List Int)} {hs:List Nat} (M:GrM H T h bs ts hs) (hx:H x=none):x∉T :: h :: bs:=by
 intro m
 rcases List.mem_cons.mp m with z | z
 ·rw [z,M.tm.h1] at hx; cases hx
 ·rcases List.mem_cons.mp z with z | z
  ·rw [z,M.hh] at hx; cases hx
  ·obtain ⟨k,hk,ek⟩:=List.getElem_of_mem z
   have hl2:k<ts.length:=by rw [←M.tm.rows.1]; exact hk
   have:=M.tm.rows.2 k x ts[k] (by rw [List.getElem?_eq_getElem hk,ek]) (List.getElem?_eq_getElem hl2)
   unfold IntsL at this
   rw [hx] at this; cases this
theorem rot_go {K:PySem.W.Frag} {te tc:TE} {σ:St} {H:Hp} {Q:VK} {a:Addr} {t:List Int} {c:Nat} (h1:∀ (H:Hp) (Q:VK),Q (.ref a) H->te σ H Q) (h2:∀ (H:Hp) (Q:VK),Q (.int (c:Int)) H->tc σ H Q)
  (ha:IntsT H a t) (hc:c<t.length) (hl:t.length≤1000) (q:∀ p H',Same H H'->IntsT H' p (t.drop c++t.take c)->Q (.ref p) H') :
  tOp (rCatT K) (tSl (rSlTA K) te (tPart tc) tNoPart) (tSl (rSlTA K) te tNoPart (tPart tc)) σ H Q:=by
 have ha':H a=some (.tup (t.map V.int)):=ha
 refine h1 _ _ (h2 _ _ ⟨_,rfl,a,_,rfl,SqT.of ha',fun z=>?_,fun z p hp=>?_⟩)
 ·have c0:c=0:=by rw [sIx_nat (by rw [List.length_map]; omega)] at z; exact z.1
  subst c0
  refine h1 _ _ (h2 _ _ ⟨_,rfl,a,_,rfl,SqT.of ha',fun z2=>?_,fun z2 p2 hp2=>?_⟩)
  ·have:=z2.2
   rw [sIx_nat (Nat.zero_le _),List.length_map] at this
   omega
  ·refine ⟨a,p2,_,[],rfl,rfl,SqT.of (same_new hp2 _ _ _ ha'),?_,?_,?_,fun _=>?_,fun z3=>absurd rfl z3⟩
   ·rw [show cutV (t.map V.int) none (some ((0:Nat):Int))=[] by rw [cut_take _ (Nat.zero_le _)]; rfl]; exact SqT.of upd_same
   ·intro z4
    have:=congrArg List.length z4
    rw [List.length_map] at this
    have e0:([]:List V).length=0:=rfl
    omega
   ·rw [List.length_map]; exact szle (by simp; omega)
   ·refine q a _ (same_new hp2 _) ?_
    show IntsT _ a (t.drop 0++t.take 0)
    rw [List.drop_zero,List.take_zero,List.append_nil]
    exact same_new hp2 _ _ _ ha'
 ·have ec:cutV (t.map V.int) (some (c:Int)) none=(t.drop c).map V.int:=by rw [cut_drop _ (by rw [List.length_map]; omega),List.map_drop]
  rw [ec]
  have s1:=same_new hp (.tup ((t.drop c).map V.int))
  have g1:(upd H p (.tup ((t.drop c).map V.int))) p=some (.tup ((t.drop c).map V.int)):=upd_same
  generalize upd H p (.tup ((t.drop c).map V.int))=H1 at s1 g1
  have cn:c≠0:=fun e=>z (by subst e; rw [sIx_nat (Nat.zero_le _)]; exact ⟨rfl,rfl⟩)
  refine h1 _ _ (h2 _ _ ⟨_,rfl,a,_,rfl,SqT.of (s1 _ _ ha'),fun z2=>?_,fun z2 p2 hp2=>?_⟩)
  ·have:=z2.2
   rw [sIx_nat (by rw [List.length_map]; omega),List.length_map] at this
   omega
  ·have ec2:cutV (t.map V.int) none (some (c:Int))=(t.take c).map V.int:=by rw [cut_take _ (by rw [List.length_map]; omega),List.map_take]
   rw [ec2]
   have s2:=same_new hp2 (.tup ((t.take c).map V.int))
   have g2:(upd H1 p2 (.tup ((t.take c).map V.int))) p2=some (.tup ((t.take c).map V.int)):=upd_same
   generalize upd H1 p2 (.tup ((t.take c).map V.int))=H2 at s2 g2
   refine ⟨p,p2,_,_,rfl,rfl,SqT.of (s2 _ _ g1),SqT.of g2,?_,?_,fun z3=>?_,fun _ p3 hp3=>?_⟩
   ·intro z4
    have:=congrArg List.length z4
    rw [List.length_map,List.length_drop] at this
    have e0:([]:List V).length=0:=rfl
    omega
   ·rw [List.length_map,List.length_map,List.length_drop,List.length_take]; exact szle (by omega)
   ·have:=congrArg List.length z3
    rw [List.length_map,List.length_take] at this
    have e0:([]:List V).length=0:=rfl
    omega
   ·refine q p3 _ (s1.trans (s2.trans (same_new hp3 _))) ?_
    unfold IntsT
    rw [upd_same,List.map_append]
section
variable {P:Program} {w:World} {K:PySem.W.Frag} {mg:Str->Option Value} {base:Heap} {f g h f1 f2 f3 f4:Addr} {fd gd hd d1 d2 d3 d4:FuncData}
inductive SpGrownR (K:PySem.W.Frag) (vs:List V) (H:Hp) (Q:VK):Prop
 | mk (a:Addr) (ns:List Int) (st m:Nat) (h_0:vs=[.ref a,.int (st:Int),.int (m:Int)]) (h_1:ScA K H a ns) (h_2:st≤100) (h_3:1≤m) (h_4:m≤14) (h_5:∀ p ra ta n rs ts H',Same H H'->H' p=some (.tup [.int ((n:Nat):Int),.ref ra,.ref ta])->TupR RopeR H' ra rs->TupR IntsT H' ta ts->NetW n rs ts->rs.length=m->(∀ r∈rs,EaseS r.2.2)->Q (.ref p) H'):SpGrownR K vs H Q
def spGrown (K:PySem.W.Frag):Sp:=fun vs H Q _=>SpGrownR K vs H Q
theorem scGr:FnScope ["_law_script","_law_start","_law_many","_law_turns","_law_homes","_law_k","_law_ropes","_law_ease_here","_law_renamed","_law_turn"] ["_law_script","_law_start","_law_many"] (defScope s_law_grown):=⟨rfl,rfl,rfl,by decide +kernel,rfl,by decide +kernel,by decide +kernel⟩
theorem ndEM:(["_law_end","_law_many"]:List Str).Nodup:=by decide +kernel
set_option maxHeartbeats 1000000 in
seal L2.PSs L2.PS L2.PE L2.PA in
theorem ok_grown (F:Fun K "_law_grown" "_law_grown" s_law_grown f fd) (G1:FnOk P w K mg base CX0 3 f1 d1 ["_law_turns","_law_homes","_law_cell"] spMore) (b1:Binds K d1 ["_law_turns","_law_homes","_law_cell"] []) (k1:PySem.W.keepIn K (.ref f1)=true) (m1:mg "_law_one_more" = some (.ref f1))
  (G2:FnOk P w K mg base CX0 2 f2 d2 ["_law_script","_law_k"] (spDrawn K)) (b2:Binds K d2 ["_law_script","_law_k"] []) (k2:PySem.W.keepIn K (.ref f2)=true) (m2:mg "_law_drawn" = some (.ref f2))
  (G3:FnOk P w K mg base CX0 3 f3 d3 ["_law_cell"] spLEase) (b3:Binds K d3 ["_law_cell"] []) (k3:PySem.W.keepIn K (.ref f3)=true) (m3:mg "_law_ease" = some (.ref f3)) (ml:mg "len" = none) (mr:mg "range" = none) (mt:mg "tuple" = none) :
  FnOk P w K mg base CX0 4 f fd ["_law_script","_law_start","_law_many"] (spGrown K):=by
 refine F.ok scGr (fun vs H Q E h=>?_) (fun cdv A outer s H vs Q E hr h=>?_)
 ·obtain ⟨a,ns,st,m,rfl,_⟩:=h
  rfl
 obtain ⟨a,ns,st,m,rfl,hS,hst,m1',m14,q⟩:=h
 have hr2:=hr.mono (show 2≤3 by decide)
 refine ⟨_,pss_cons (ps_set (i:=3) scGr.nd rfl (Or.inl rfl) (pe_lst (pa_cons (pe_lst (pa_cons pe_int (pa_cons pe_int pa_nil))) (pa_cons (pe_lst (pa_cons pe_int (pa_cons pe_int pa_nil))) pa_nil))))
  (pss_cons (ps_set (i:=4) scGr.nd rfl (Or.inl rfl) (pe_lst (pa_cons pe_int (pa_cons pe_int (pa_cons pe_int (pa_cons pe_int pa_nil))))))
  (pss_cons (ps_for PassesOwn.never rfl (pi_range1 (by rfl) mr (pa_cons (pe_op op_sub (pv 2) pe_int) pa_nil)) (pg_name (i:=5) scGr.nd rfl (Or.inl rfl))
   (pss_one (ps_expr (pe_call G1 hr (by rfl) m1 k1 b1 .nil pass0 (pa_cons (pv 3) (pa_cons (pv 4) (pa_cons (pe_call G2 hr2 (by rfl) m2 k2 b2 .nil pass0 (pa_cons (pv 0) (pa_cons (pe_op op_add (pv 1) (pv 5)) pa_nil))) pa_nil)))))))
  (pss_cons (ps_set (i:=6) scGr.nd rfl (Or.inl rfl) (pe_lst pa_nil))
  (pss_cons (ps_for PassesOwn.never rfl (pi_range1 (by rfl) mr (pa_cons (pv 2) pa_nil)) (pg_name (i:=5) scGr.nd rfl (Or.inl rfl))
   (pss_cons (ps_set (i:=7) scGr.nd rfl (Or.inl rfl) (pe_call G3 hr (by rfl) m3 k3 b3 .nil pass0 (pa_cons (pe_call G2 hr2 (by rfl) m2 k2 b2 .nil pass0 (pa_cons (pv 0) (pa_cons (pe_op op_add (pe_op op_add (pv 1) (pv 2)) (pv 5)) pa_nil))) pa_nil)))
   (pss_one (ps_expr (pe_bmK K PySem.F.plainAttrs_list PySem.F.slot_list_append PySem.F.type_list_append mt_append (pv 6) (pa_cons (pe_tup (pa_cons (pe_ix (ixL (K:=K)) (pv 4) (pe_op op_add (pe_op op_mul pe_int (pv 5)) pe_int) (fun _ _=>rfl)) (pa_cons (pe_ix (ixL (K:=K)) (pv 4) (pe_op op_add (pe_op op_mul pe_int (pv 5)) pe_int) (fun _ _=>rfl)) (pa_cons (pv 7) pa_nil)))) pa_nil))))))
  (pss_cons (ps_set (i:=8) scGr.nd rfl (Or.inl rfl) (pe_lst pa_nil))
  (pss_cons (ps_for PassesOwn.never rfl (piLst (K:=K) (pv 3)) (pg_name (i:=9) scGr.nd rfl (Or.inl rfl))
   (pss_one (ps_expr (pe_bmK K PySem.F.plainAttrs_list PySem.F.slot_list_append PySem.F.type_list_append mt_append (pv 8) (pa_cons (pe_callTy (callTup (K:=K)) (by rfl) mt bt_tuple (pa_cons (pe_comp (Nc:=["_law_end","_law_many"]) (cap:=[(1,2)]) (g:=gName 0)
    (te:=tOp (rI (fun _ j=>0<j) fun i j=>.int (i % j)) (tOp (rI0 fun i j=>.int (i-j)) (tVar 0) (tC (.int 2))) (tOp (rI0 fun i j=>.int (i+j)) (tOp (rI CMul fun i j=>.int (i*j)) (tC (.int 2)) (tVar 1)) (tC (.int 2)))) rfl (piLst (K:=K) (pv 9))
    (comp_mk rfl rfl (by decide +kernel) (by decide +kernel) (List.forall_mem_cons.mpr ⟨⟨rfl,rfl⟩,List.forall_mem_nil _⟩) rfl (List.forall_mem_cons.mpr ⟨⟨_,_,rfl,rfl,rfl,rfl,rfl⟩,List.forall_mem_nil _⟩)) (fun C fp pins s' H'=>pg_name (i:=0) ndEM rfl (Or.inl rfl))
    (fun C fp pins s' H'=>pe_op op_mod (pe_op op_sub (pv 0) pe_int) (pe_op op_add (pe_op op_mul pe_int (pv 1)) pe_int))) pa_nil)) pa_nil)))))
  (pss_one (ps_ret (pe_tup (pa_cons (pe_callB (callLen (K:=K)) (by rfl) ml bt_len (pa_cons (pv 3) pa_nil)) (pa_cons (pe_callTy (callTup (K:=K)) (by rfl) mt bt_tuple (pa_cons (pv 6) pa_nil)) (pa_cons (pe_callTy (callTup (K:=K)) (by rfl) mt bt_tuple (pa_cons (pv 8) pa_nil)) pa_nil)))))))))))),?_⟩
 refine ⟨by show 2≤sizeLine; decide,fun l1 h1=>⟨by show 2≤sizeLine; decide,fun l2 h2=>⟨by show 2≤sizeLine; decide,fun T hT=>⟨by show 4≤sizeLine; decide,fun hA hh=>?_⟩⟩⟩⟩
 have sa:=same_new h1 (.lst [.int 0,.int 2])
 have ea:(upd H l1 (.lst [.int 0,.int 2])) l1=some (.lst [.int 0,.int 2]):=upd_same
 generalize upd H l1 (.lst [.int 0,.int 2])=Ha at sa ea h2 hT hh
 have sb:=same_new h2 (.lst [.int 1,.int 3])
 have eb:(upd Ha l2 (.lst [.int 1,.int 3])) l2=some (.lst [.int 1,.int 3]):=upd_same
 generalize upd Ha l2 (.lst [.int 1,.int 3])=Hb at sb eb hT hh
 have sc:=same_new hT (.lst [.ref l1,.ref l2])
 have ec:(upd Hb T (.lst [.ref l1,.ref l2])) T=some (.lst [.ref l1,.ref l2]):=upd_same
 generalize upd Hb T (.lst [.ref l1,.ref l2])=Hc at sc ec hh
 have sd:=same_new hh (.lst [.int 0,.int 1,.int 0,.int 1])
 have ed:(upd Hc hA (.lst [.int 0,.int 1,.int 0,.int 1])) hA=some (.lst [.int 0,.int 1,.int 0,.int 1]):=upd_same
 generalize upd Hc hA (.lst [.int 0,.int 1,.int 0,.int 1])=Hd at sd ed
 have n12:l1≠l2:=ne_of_none ea h2
 have n1T:l1≠T:=ne_of_none (sb _ _ ea) hT
 have n2T:l2≠T:=ne_of_none eb hT
 have n1h:l1≠hA:=ne_of_none (sc _ _ (sb _ _ ea)) hh
 have n2h:l2≠hA:=ne_of_none (sc _ _ eb) hh
 have nTh:T≠hA:=ne_of_none ec hh
 have sab:=sa.trans sb
 have sabc:=sab.trans sc
 have s0:=sabc.trans sd
 have M0:GrM Hd T hA [l1,l2] [[0,2],[1,3]] [0,1,0,1]:=by
  refine ⟨⟨sd _ _ ec,⟨rfl,fun i b x e1 e2=>?_⟩,?_⟩,ed,?_⟩
  ·match i,e1,e2 with
   | 0,e1,e2=>cases e1; cases e2; exact sd _ _ (sc _ _ (sb _ _ ea))
   | 1,e1,e2=>cases e1; cases e2; exact sd _ _ (sc _ _ eb)
  ·simp [n12,Ne.symm n1T,Ne.symm n2T]
  ·simp [Ne.symm nTh,Ne.symm n1h,Ne.symm n2h]
 have fr0:∀ b∈T :: hA :: [l1,l2],H b=none:=by
  intro b hb
  simp at hb
  rcases hb with rfl | rfl | rfl | rfl
  ·exact sab.free hT
  ·exact sabc.free hh
  ·exact h1
  ·exact sa.free h2
 refine ⟨_,rfl,_,_,rfl,rfl,((m:Int)-1),rfl,by omega,by omega,?_⟩
 rw [show ((m:Int)-1).toNat=m-1 by omega]
 refine for_range (n:=m-1) (fun i σ H2=>∃ u bs ts hs,σ=[some (.ref a),some (.int (st:Int)),some (.int (m:Int)),some (.ref T),some (.ref hA),u,none,none,none,none]∧Same H H2∧(∀ b∈T :: hA :: bs,H b=none)∧GrM H2 T hA bs ts hs∧Gn ts hs∧hs.length=4+2*i)
  ⟨none,[l1,l2],[[0,2],[1,3]],[0,1,0,1],rfl,s0,fr0,M0,Gn.first,rfl⟩ ?_ ?_
 ·rintro i σ H2 hi ⟨u,bs,ts,hs,rfl,s2,fr,M,g,hl⟩
  refine ⟨_,rfl,_,rfl,_,rfl,_,rfl,_,rfl,_,_,rfl,rfl,a,ns,_,rfl,⟨s2.seq hS.1,hS.2⟩,by omega,by omega,fun z H3 s3 dz=>?_⟩
  refine ⟨T,hA,bs,ts,hs,z,rfl,M.keep s3,g,by omega,dz.1,fun H4 bs' ts' hs' F4 fb M4 g4 l4=>?_⟩
  have s23:=s2.trans s3
  refine ⟨_,bs',ts',hs',rfl,fun b o e=>F4 b o (fun hb=>by rw [fr b hb] at e; cases e) (s23 b o e),fun b hb=>?_,M4,g4,by omega⟩
  rcases List.mem_cons.mp hb with w | w
  ·exact fr b (by simp [w])
  ·rcases List.mem_cons.mp w with w | w
   ·exact fr b (by simp [w])
   ·rcases fb b w with y | y
    ·exact fr b (by simp [y])
    ·exact s23.free y
 rintro σ H2 ⟨u,bs,ts,hs,rfl,s2,fr,M,g,hl⟩
 have hl':hs.length=2*m+2:=by omega
 clear hl
 have mul2:∀ x:Int,CMul 2 x:=fun x=>.inl ⟨by decide,by decide⟩
 refine ⟨by show 0≤sizeLine; decide,fun R hR=>?_⟩
 have sR:=same_new hR (.lst [])
 have eR:(upd H2 R (.lst [])) R=some (.lst []):=upd_same
 have RN:=M.new hR
 have MR:=M.keep sR
 generalize upd H2 R (.lst [])=H3 at sR eR MR
 have s3:=s2.trans sR
 have fR:H R=none:=s2.free hR
 refine ⟨_,rfl,(m:Int),rfl,by omega,by omega,?_⟩
 rw [show (m:Int).toNat=m by omega]
 refine for_range (n:=m) (fun i σ H4=>∃ u v cs rs,σ=[some (.ref a),some (.int (st:Int)),some (.int (m:Int)),some (.ref T),some (.ref hA),u,some (.ref R),v,none,none]∧Same H H4∧GrM H4 T hA bs ts hs∧H4 R=some (.lst (cs.map V.ref))∧At RopeR H4 cs rs∧rs.length=i ∧
   ∀ (k:Nat) (r:Rope),rs[k]?=some r->hs[2*k+2]?=some r.1∧hs[2*k+3]?=some r.2.1∧EaseS r.2.2)
  ⟨u,none,[],[],rfl,s3,MR,eR,At.nil,rfl,by simp⟩ ?_ ?_
 ·rintro i σ H4 hi ⟨u1,u2,cs,rs,rfl,s4,M4,e4,r4,l4,hk⟩
  refine ⟨_,rfl,_,rfl,_,rfl,_,_,rfl,rfl,_,rfl,_,_,rfl,rfl,a,ns,_,rfl,⟨s4.seq hS.1,hS.2⟩,by omega,by omega,fun z H5 s5 dz=>?_⟩
  refine ⟨z,rfl,dz.1,fun e H6 qq s6 he ek=>?_⟩
  have s46:=s5.trans s6
  have M6:=M4.keep s46
  have hi1:2*i+2<hs.length:=by omega
  have hi2:2*i+3<hs.length:=by omega
  have a1:atI (natV hs) (2*((0:Int)+(i:Nat))+2)=some (.int ((hs[2*i+2]:Nat):Int)):=by
   have:=nat_at (List.getElem?_eq_getElem hi1)
   rwa [show ((2*i+2:Nat):Int)=2*((0:Int)+(i:Nat))+2 by omega] at this
  have a2:atI (natV hs) (2*((0:Int)+(i:Nat))+3)=some (.int ((hs[2*i+3]:Nat):Int)):=by
   have:=nat_at (List.getElem?_eq_getElem hi2)
   rwa [show ((2*i+3:Nat):Int)=2*((0:Int)+(i:Nat))+3 by omega] at this
  refine ⟨_,rfl,.inl ⟨rfl,_,SqL.of (s46 _ _ e4)⟩,_,rfl,_,rfl,_,_,rfl,rfl,mul2 _,_,_,rfl,rfl,hA,_,_,_,rfl,rfl,SqL.of M6.hh,a1,_,rfl,_,rfl,_,_,rfl,rfl,mul2 _,_,_,rfl,rfl,hA,_,_,_,rfl,rfl,SqL.of M6.hh,a2,_,rfl,by show 3≤sizeLine; decide,fun p hp=>?_⟩
  have sp:=same_new hp (.tup [.int ((hs[2*i+2]:Nat):Int),.int ((hs[2*i+3]:Nat):Int),.ref e])
  have ep:(upd H6 p (.tup [.int ((hs[2*i+2]:Nat):Int),.int ((hs[2*i+3]:Nat):Int),.ref e])) p=some (.tup [.int ((hs[2*i+2]:Nat):Int),.int ((hs[2*i+3]:Nat):Int),.ref e]):=upd_same
  have s47:=s46.trans sp
  have M7:=M6.keep sp
  have he7:=mo_fr sp he
  refine ⟨R,_,_,rfl,rfl,s47 _ _ e4,by rw [List.length_map,r4.1]; exact szl (by omega),?_⟩
  generalize upd H6 p (.tup [.int ((hs[2*i+2]:Nat):Int),.int ((hs[2*i+3]:Nat):Int),.ref e])=H7 at ep s47 M7 he7
  refine ⟨_,_,cs++[p],rs++[(hs[2*i+2],hs[2*i+3],qq)],rfl,(s4.trans s47).up fR _,M7.far RN,by rw [upd_same]; simp,?_,by simp [l4],?_⟩
  ·exact ropes_upd (s47 _ _ e4) ((r4.keep mo_rope s47).snoc ⟨e,ep,he7⟩)
  ·intro k r hkr
   rcases Nat.lt_or_ge k rs.length with w | w
   ·rw [List.getElem?_append_left w] at hkr
    exact hk k r hkr
   ·have hk2:k<rs.length+1:=by have:=(List.getElem?_eq_some_iff.mp hkr).1; simpa using this
    have:k=i:=by omega
    subst this
    rw [List.getElem?_append_right w,l4,Nat.sub_self] at hkr
    cases hkr
    exact ⟨List.getElem?_eq_getElem hi1,List.getElem?_eq_getElem hi2,ek⟩
 rintro σ H4 ⟨u1,u2,cs,rs,rfl,s4,M4,e4,r4,l4,hk⟩
 have N:=gn_net g hl' m14 l4 fun k r e=>⟨(hk k r e).1,(hk k r e).2.1,(hk k r e).2.2.k⟩
 have es:∀ r∈rs,EaseS r.2.2:=fun r hr=>by
  obtain ⟨k,e⟩:=List.mem_iff_getElem?.mp hr
  exact (hk k r e).2.2
 refine ⟨by show 0≤sizeLine; decide,fun W hW=>?_⟩
 have sW:=same_new hW (.lst [])
 have eW:(upd H4 W (.lst [])) W=some (.lst []):=upd_same
 have WN:=M4.new hW
 have MW:=M4.keep sW
 have WR:R≠W:=ne_of_none e4 hW
 have rW:=r4.keep mo_rope sW
 have eR2:=sW _ _ e4
 generalize upd H4 W (.lst [])=H5 at sW eW MW rW eR2
 have s5:=s4.trans sW
 have fW:H W=none:=s4.free hW
 have lbs:bs.length=ts.length:=M.tm.rows.1
 refine ⟨_,rfl,T,rfl,⟨_,SqL.of MW.tm.h1⟩,?_⟩
 refine for_list (xs:=bs.map V.ref) (fun i σ H6=>∃ u gs,σ=[some (.ref a),some (.int (st:Int)),some (.int (m:Int)),some (.ref T),some (.ref hA),u1,some (.ref R),u2,some (.ref W),u]∧Same H H6∧GrM H6 T hA bs ts hs∧H6 R=some (.lst (cs.map V.ref))∧At RopeR H6 cs rs∧H6 W=some (.lst (gs.map V.ref))∧At IntsT H6 gs ((ts.map fun t=>t.map (rho m)).take i))
  ⟨none,[],rfl,s5,MW,eR2,rW,eW,At.nil⟩ (fun i σ H6 _ ⟨_,_,_,_,M6,_⟩=>SqL.of M6.tm.h1) ?_ ?_
 ·rintro i x σ H6 hx ⟨u,gs,rfl,s6,M6,eR6,r6,eW6,a6⟩
  obtain ⟨b,t,rfl,hb,hy,hB⟩:=M6.tm.rows.ref hx
  have tl:=tlen_of g hy
  have hi:i<ts.length:=(List.getElem?_eq_some_iff.mp hy).1
  have tsl:=g.tsl
  refine ⟨_,rfl,.inl ⟨rfl,_,SqL.of eW6⟩,_,rfl,b,rfl,⟨_,SqL.of hB⟩,fun acc hacc=>?_⟩
  refine comp_run (run_list hB) (by rw [List.length_map]; omega) hacc (fun j ys σ hp=>ys=((t.map (rho m)).take j).map V.int∧∃ u,σ=[u,some (.int (m:Int))]) ⟨rfl,none,rfl⟩ ?_ ?_
  ·rintro j ys σ H7 x H8 hj sm hacc2 ⟨rfl,u,rfl⟩ ⟨rfl,hx⟩ Cc hC
   obtain ⟨e,rfl,he⟩:=int_at hx
   refine ⟨_,rfl,_,_,rfl,rfl,_,rfl,_,_,rfl,rfl,mul2 _,_,_,rfl,rfl,_,_,rfl,rfl,by omega,?_⟩
   refine hC _ _ _ (Same.refl _) ⟨?_,_,rfl⟩
   have ee:(t.map (rho m))[j]?=some (rho m e):=by rw [List.getElem?_map,he]; rfl
   rw [take_snoc ee,List.map_append]
   rfl
  ·rintro ys σ H7 s7 ha7 _ ⟨rfl,u,rfl⟩
   rw [List.length_map,List.take_of_length_le (by rw [List.length_map]; exact Nat.le_refl _)] at ha7
   refine ⟨acc,_,rfl,.inl ⟨SqL.of ha7,fun p hp=>?_⟩⟩
   have sp:=same_new hp (.tup ((t.map (rho m)).map V.int))
   have ep:IntsT (upd H7 p (.tup ((t.map (rho m)).map V.int))) p (t.map (rho m)):=upd_same
   have s67:=s7.trans sp
   refine ⟨W,_,_,rfl,rfl,s67 _ _ eW6,by rw [List.length_map,a6.1,List.length_take]; exact szl (by omega),?_⟩
   generalize upd H7 p (.tup ((t.map (rho m)).map V.int))=H8 at ep s67
   have ec:(ts.map fun t=>t.map (rho m))[i]?=some (t.map (rho m)):=by rw [List.getElem?_map,hy]; rfl
   refine ⟨_,gs++[p],rfl,(s6.trans s67).up fW _,(M6.keep s67).far WN,by rw [upd_ne WR]; exact s67 _ _ eR6,ropes_upd (s67 _ _ eW6) (r6.keep mo_rope s67),by rw [upd_same]; simp,?_⟩
   rw [take_snoc ec]
   exact at_tup_upd (s67 _ _ eW6) ((a6.keep mo_intsT s67).snoc ep)
 ·rintro σ H6 ⟨u,gs,rfl,s6,M6,eR6,r6,eW6,a6⟩
  rw [List.length_map,lbs,List.take_of_length_le (by rw [List.length_map]; exact Nat.le_refl _)] at a6
  refine ⟨_,rfl,T,_,rfl,.inl (SqL.of M6.tm.h1),_,rfl,R,_,rfl,.inl ⟨SqL.of eR6,fun p1 hp1=>?_⟩⟩
  have s7:=same_new hp1 (.tup (cs.map V.ref))
  have e7:(upd H6 p1 (.tup (cs.map V.ref))) p1=some (.tup (cs.map V.ref)):=upd_same
  have eW7:=s7 _ _ eW6
  generalize upd H6 p1 (.tup (cs.map V.ref))=H7 at s7 e7 eW7
  refine ⟨_,rfl,W,_,rfl,.inl ⟨SqL.of eW7,fun p2 hp2=>?_⟩⟩
  have s8:=same_new hp2 (.tup (gs.map V.ref))
  have e8:(upd H7 p2 (.tup (gs.map V.ref))) p2=some (.tup (gs.map V.ref)):=upd_same
  generalize upd H7 p2 (.tup (gs.map V.ref))=H8 at s8 e8
  refine ⟨by show 3≤sizeLine; decide,fun p hp=>?_⟩
  have s9:=same_new hp (.tup [.int (((bs.map V.ref).length:Nat):Int),.ref p1,.ref p2])
  have el:(((bs.map V.ref).length:Nat):Int)=((ts.length:Nat):Int):=by rw [List.length_map,lbs]
  refine q p p1 p2 ts.length rs _ _ (s6.trans (s7.trans (s8.trans s9))) ?_ ⟨cs,s9 _ _ (s8 _ _ e7),r6.keep mo_rope (s7.trans (s8.trans s9))⟩ ⟨gs,s9 _ _ e8,a6.keep mo_intsT (s7.trans (s8.trans s9))⟩ N l4 es
  rw [upd_same,el]
theorem scBg:FnScope ["_law_turn","_law_at"] ["_law_turn"] (defScope s_law_begun):=⟨rfl,rfl,rfl,by decide +kernel,rfl,by decide +kernel,by decide +kernel⟩
theorem ok_lbeg (F:Fun K "_law_begun" "_law_begun" s_law_begun f fd) (mn:mg "min" = none):FnOk P w K mg base CX0 1 f fd ["_law_turn"] spBeg:=by
 refine F.ok scBg (fun vs H Q E h=>?_) (fun cdv A outer s H vs Q E hr h=>?_)
 ·obtain ⟨a,t,rfl,_⟩:=h
  rfl
 obtain ⟨a,t,rfl,ha,ht,hl,q⟩:=h
 refine ⟨_,pss_cons (ps_set (i:=1) scBg.nd rfl (Or.inl rfl) (pe_bmT PySem.F.plainAttrs_tuple PySem.F.slot_tuple_index PySem.F.type_tuple_index mt_indexT (pv 0) (pa_cons (pe_callB (call_minT rfl) (by rfl) mn bt_min (pa_cons (pv 0) pa_nil)) pa_nil)))
  (pss_one (ps_ret (pe_op op_catT (pe_slice (slTA (K:=K)) (pv 0) (po_some (pv 1)) po_none) (pe_slice (slTA (K:=K)) (pv 0) po_none (po_some (pv 1)))))),?_⟩
 have tl:0<t.length:=List.length_pos_iff.mpr ht
 refine ⟨_,rfl,⟨a,_,rfl,ha⟩,_,rfl,a,t,rfl,ha,tl,fun m mm mle=>?_⟩
 refine ⟨a,t,m,rfl,rfl,ha,mm,?_⟩
 have em:=leastL_is mm mle
 have hc:t.idxOf m<t.length:=List.idxOf_lt_length_iff.mpr mm
 have eb:begL t=t.drop (t.idxOf m)++t.take (t.idxOf m):=by unfold begL; rw [em]
 generalize t.idxOf m=c at hc eb
 exact rot_go (K:=K) (te:=tVar 0) (tc:=tVar 1) (σ:=[some (.ref a),some (.int (c:Int))]) (a:=a) (t:=t) (c:=c) (fun _ _ q=>⟨_,rfl,q⟩) (fun _ _ q=>⟨_,rfl,q⟩) ha hc hl (fun p H' s' hp=>q p H' s' (by rw [eb]; exact hp))
end
end My
namespace My
open PySem L2 Mth
theorem raise_same {H1 H2:Hp} {e:Addr} {o1:HO} (he:H1 e=none) (k:∀ b o,b≠e->(upd H1 e o1) b=some o->H2 b=some o):Same H1 (del H2 e):=fun b o q=>by
 have ne:b≠e:=ne_of_none q he
 rw [del_ne ne]
 exact k b o ne (by rw [upd_ne ne]; exact q)
abbrev bmV:List Value:=[.type "ValueError",.type "Exception",.type "BaseException",.type "object"]
def Rch (rs:List Rope) (p:Nat):Prop:=∀ S:Nat->Prop,S 0->(∀ r∈rs,(S r.1↔S r.2.1))->S p
theorem rch_led {n:Nat} {rs:List Rope} {l:List Int} (k:LedK n 0 rs l) (cl:∀ r∈rs,((r.1:Int)∈l↔(r.2.1:Int)∈l)) (p:Nat):(p:Int)∈l↔Rch rs p:=by
 constructor
 ·intro h S h0 hc
  have:=k.least (fun x=>S x.toNat) h0 (fun r hr=>by show S ((r.1:Int)).toNat↔S ((r.2.1:Int)).toNat; simpa using hc r hr) _ h
  simpa using this
 ·intro h
  exact h (fun q=>(q:Int)∈l) k.st cl
def EzOk (t b:Int):Prop:=1≤t∧t<10 ^ 40∧1≤b∧b<10 ^ 40∧Int.gcd t b=1
instance (t b:Int):Decidable (EzOk t b):=by unfold EzOk; exact inferInstance
section
variable {P:Program} {w:World} {K:PySem.W.Frag} {mg:Str->Option Value} {base:Heap} {f g h f1 f2 f3 f4 f5 fI CR CL:Addr} {fd gd hd d1 d2 d3 d4 d5 dI:FuncData}
def spNRin (C:Addr):Sp:=fun vs H Q _=>∃ (e t:Addr) (r y:V),vs=[.ref e,r,y]∧H e=some (excN e C t)∧∀ d H',H d=none->H' e=some (excF e C t d)->H' d=some (.xd [("word",y),("rope",r)])->(∀ b o,b≠e->H b=some o->H' b=some o)->Q .non H'
theorem scNRi:FnScope ["self","rope","word"] ["self","rope","word"] (defScope sNRInit):=⟨rfl,rfl,rfl,by decide +kernel,rfl,by decide +kernel,by decide +kernel⟩
theorem ok_nrin (F:Fun K "__init__" "NoRope.__init__" sNRInit f fd) (x1:XStore K CR "rope") (x2:XStore K CR "word"):FnOk P w K mg base CX0 1 f fd ["self","rope","word"] (spNRin CR):=by
 refine F.ok scNRi (fun vs H Q E h=>?_) (fun cdv A outer s H vs Q E hr h=>?_)
 ·obtain ⟨e,t,r,y,rfl,_⟩:=h
  rfl
 obtain ⟨e,t,r,y,rfl,he,q⟩:=h
 refine ⟨_,pss_cons (ps_fldX (pv 0) (pv 1) rfl) (pss_one (ps_fldX2 (g:="rope") (pv 0) (pv 2) rfl)),?_⟩
 refine ⟨_,rfl,_,rfl,e,CR,t,rfl,he,x1,fun d hd=>?_⟩
 have ed:e≠d:=ne_of_none he hd
 refine ⟨_,rfl,_,rfl,e,CR,t,d,r,rfl,?_,upd_same,x2,q d _ hd ?_ upd_same fun b o n e'=>?_⟩
 ·rw [upd_ne ed,upd_same]
 ·rw [upd_ne ed,upd_ne ed,upd_same]
 ·have nd:=ne_of_none e' hd
  rw [upd_ne nd,upd_ne nd,upd_ne n]
  exact e'
def spLoin (C:Addr):Sp:=fun vs H Q _=>∃ (e t:Addr) (y:V),vs=[.ref e,y]∧H e=some (excN e C t)∧∀ d H',H d=none->H' e=some (excF e C t d)->H' d=some (.xd [("place",y)])->(∀ b o,b≠e->H b=some o->H' b=some o)->Q .non H'
theorem scLoi:FnScope ["self","place"] ["self","place"] (defScope sLoInit):=⟨rfl,rfl,rfl,by decide +kernel,rfl,by decide +kernel,by decide +kernel⟩
theorem ok_loin (F:Fun K "__init__" "Loose.__init__" sLoInit f fd) (x1:XStore K CL "place"):FnOk P w K mg base CX0 1 f fd ["self","place"] (spLoin CL):=by
 refine F.ok scLoi (fun vs H Q E h=>?_) (fun cdv A outer s H vs Q E hr h=>?_)
 ·obtain ⟨e,t,y,rfl,_⟩:=h
  rfl
 obtain ⟨e,t,y,rfl,he,q⟩:=h
 refine ⟨_,pss_one (ps_fldX (pv 0) (pv 1) rfl),?_⟩
 refine ⟨_,rfl,_,rfl,e,CL,t,rfl,he,x1,fun d hd=>?_⟩
 have ed:e≠d:=ne_of_none he hd
 refine q d _ hd ?_ upd_same fun b o n e'=>?_
 ·rw [upd_ne ed,upd_same]
 ·rw [upd_ne (ne_of_none e' hd),upd_ne n]
  exact e'
def NRo (CR:Addr) (H:Hp) (E:XK) (k:Int) (word:Str):Prop:=∀ d H',Same H H'->H' d=some (.xd [("word",.str word),("rope",.int k)])->E (.ref CR) (some d) H'
inductive SpHgR (CL:Addr) (vs:List V) (H:Hp) (Q:VK) (E:XK):Prop
 | mk (n:Nat) (a:Addr) (rs:List Rope) (h_0:vs=[.int (n:Int),.ref a]) (h_1:0<n) (h_2:n≤100) (h_3:TupR RopeR H a rs) (h_4:(∀ r∈rs,r.1<n∧r.2.1<n)) (h_5:(∀ p,p<n->Rch rs p)->∀ H',Same H H'->Q .non H') (h_6:∀ p d H',p<n->¬ Rch rs p->(∀ j,j<p->Rch rs j)->Same H H'->H' d=some (.xd [("place",.int (p:Int))])->E (.ref CL) (some d) H'):SpHgR CL vs H Q E
def spHg (CL:Addr):Sp:=fun vs H Q E=>SpHgR CL vs H Q E
theorem ok_hg (F:Fun K "check_hanging" "check_hanging" s_check_hanging f fd) (G:FnOk P w K mg base CX0 1 g gd ["start","ropes"] spLed) (bG:Binds K gd ["start","ropes"] []) (kG:PySem.W.keepIn K (.ref g)=true) (mG:mg "led_to" = some (.ref g)) (mr:mg "range" = none)
  (GI:FnOk P w K mg base CX0 1 fI dI ["self","place"] (spLoin CL)) (bI:Binds K dI ["self","place"] []) (iI:PySem.W.isFn K (.ref fI)=true) (mC:mg "Loose" = some (.ref CL)) (xC:excI K CL bmV "ValueError.__new__" fI=true):FnOk P w K mg base (CXr P w) 3 f fd ["places","ropes"] (spHg CL):=by
 refine okX F scHa (fun vs H Q E h=>?_) (fun cdv A outer s H vs Q E hr h=>?_)
 ·obtain ⟨n,a,rs,rfl,_⟩:=h
  rfl
 obtain ⟨n,a,rs,rfl,n0,hn,hT,hrs,q,qE⟩:=h
 have hu:=hu_of hr
 refine ⟨_,pss_cons (ps_set (i:=2) scHa.nd rfl (Or.inl rfl) (pe_call G (hr.mono (by decide)) (by rfl) mG kG bG .nil pass0 (pa_cons pe_int (pa_cons (pv 1) pa_nil))))
  (pss_one (ps_for PassesOwn.leaving rfl (pi_range1 (by rfl) mr (pa_cons (pv 0) pa_nil)) (pg_name (i:=3) scHa.nd rfl (Or.inl rfl))
   (pss_one (ps_if (pt_cmp (pc_dnotin hu (pv 3) (pv 2))) (pss_one (ps_raiseI (by rfl) mC xC PySem.F.excBase_ValueError rfl raise_outI GI (hr.mono (by decide)) bI iI (pa_cons (pv 3) pa_nil))) pss_nil)))),?_⟩
 refine ⟨_,rfl,0,a,n,rs,rfl,⟨by omega,by omega⟩,hn,hT,hrs,fun d l H1 s1 hd k cl=>?_⟩
 have rc:=rch_led k cl
 refine ⟨_,rfl,(n:Int),rfl,by omega,by omega,?_⟩
 rw [show ((n:Int)).toNat=n by omega]
 refine for_range (n:=n) (fun i σ H2=>H2=H1∧(∃ u,σ=[some (.int n),some (.ref a),some (.ref d),u])∧∀ j,j<i->Rch rs j) ⟨rfl,⟨none,rfl⟩,fun j h=>by omega⟩ ?_ ?_
 ·rintro i σ H2 hi ⟨rfl,⟨u,rfl⟩,hj⟩
  refine ⟨_,rfl,_,rfl,d,_,rfl,DGet.k (k:=Sum.inl ((0:Int)+(i:Nat))) hd,_,rfl,?_⟩
  rw [val_kvT,show (0:Int)+(i:Nat)=(i:Int) by omega]
  by_cases z:(i:Int)∈l
  ·rw [if_pos z]
   refine iteF ⟨rfl,⟨_,rfl⟩,fun j h=>?_⟩
   rcases Nat.lt_or_ge j i with y | y
   ·exact hj j y
   ·obtain rfl:j=i:=by omega
    exact (rc j).mp z
  ·rw [if_neg z]
   refine iteT ?_
   refine ⟨_,rfl,by show 1≤sizeLine; decide,fun e t he=>?_⟩
   refine ⟨e,t,_,rfl,upd_same,fun d2 H' _ h1 h2 h3=>⟨rfl,d2,h1,qE i d2 _ hi (fun y=>z ((rc i).mpr y)) hj (s1.trans (raise_same he h3)) ?_⟩⟩
   exact del_at h2 fun y=>by rw [y,h1] at h2; cases h2
 ·rintro σ H2 ⟨rfl,⟨u,rfl⟩,hj⟩
  exact q hj _ s1
inductive SpIsXR (vs:List V) (H:Hp) (Q:VK):Prop
 | mk (p:Addr) (t b:Int) (h_0:vs=[.ref p]) (h_1:H p=some (.tup [.int t,.int b])) (h_2:Q (.bl (decide (EzOk t b))) H):SpIsXR vs H Q
def spIsX:Sp:=fun vs H Q _=>SpIsXR vs H Q
theorem ok_isX (F:Fun K "is_ease" "is_ease" s_is_ease f fd) (G:FnOk P w K mg base CX0 1 g gd ["one","other"] spGcd) (bG:Binds K gd ["one","other"] []) (kG:PySem.W.keepIn K (.ref g)=true) (mG:mg "common_part" = some (.ref g)) (ml:mg "len" = none) :
  FnOk P w K mg base CX0 2 f fd ["ease"] spIsX:=by
 refine F.ok scIE (fun vs H Q E h=>?_) (fun cdv A outer s H vs Q E hr h=>?_)
 ·obtain ⟨p,t,b,rfl,_⟩:=h
  rfl
 obtain ⟨p,t,b,rfl,hp',k⟩:=h
 refine ⟨_,pss_cons (ps_set (i:=1) scIE.nd rfl (Or.inl rfl) (pe_op op_pow pe_int pe_int))
  (pss_cons (ps_if (pt_cmpR op_ne (pe_callB (callLen (K:=K)) (by rfl) ml bt_len (pa_cons (pv 0) pa_nil)) pe_int (nomark _)) pss_never pss_nil)
  (pss_cons (ps_for PassesOwn.never rfl (piTup (K:=K) (pv 0)) (pg_name (i:=2) scIE.nd rfl (Or.inl rfl))
   (pss_one (ps_if (PW.pt (pw_or (pt_cmpR op_lt (pv 2) pe_int (nomark _)) (pw_or1 (pt_cmpR op_ge (pv 2) (pv 1) (nomark _))))) (pss_one (ps_ret pe_bl)) pss_nil)))
  (pss_one (ps_ret (pe_cmpR op_eq (pe_call G hr (by rfl) mG kG bG .nil pass0 (pa_cons (pe_ix (ixT (K:=K)) (pv 0) pe_int (fun _ _=>rfl)) (pa_cons (pe_ix (ixT (K:=K)) (pv 0) pe_int (fun _ _=>rfl)) pa_nil))) pe_int (nomark _)))))),?_⟩
 refine ⟨_,_,rfl,rfl,⟨by decide,by decide,by decide⟩,?_⟩
 refine ⟨_,rfl,p,_,rfl,.inr (SqT.of hp'),rfl,_,rfl,iteF ?_⟩
 refine ⟨_,rfl,p,rfl,⟨_,SqT.of hp'⟩,?_⟩
 have p40:(10:Int) ^ ((40:Int).toNat)=10 ^ 40:=rfl
 refine for_tup (xs:=([t,b]:List Int).map V.int) (fun i σ H2=>H2=H∧(∃ u,σ=[some (.ref p),some (.int (10 ^ ((40:Int).toNat))),u])∧∀ (j:Nat) (z:Int),j<i->([t,b]:List Int)[j]?=some z->1≤z∧z<10 ^ 40) ⟨rfl,⟨none,rfl⟩,fun j z h=>by omega⟩ (fun i σ H2 _ ⟨e,_⟩=>by rw [e]; exact SqT.of hp') ?_ ?_
 ·rintro i x σ H2 hx ⟨rfl,⟨u,rfl⟩,hj⟩
  obtain ⟨z,rfl,hz⟩:=int_at hx
  have bad:¬ (1≤z∧z<10 ^ 40)->Q (.bl false) H2:=fun y=>by
   have:decide (EzOk t b)=false:=decide_eq_false fun ⟨a1,a2,a3,a4,_⟩=>y (by
    match i,hz with
    | 0,hz=>cases hz; exact ⟨a1,a2⟩
    | 1,hz=>cases hz; exact ⟨a3,a4⟩)
   rw [this] at k
   exact k
  refine ⟨_,rfl,_,_,rfl,rfl,_,rfl,?_⟩
  by_cases z1:z<1
  ·exact iteDT z1 (bad (by omega))
  ·refine iteDF z1 ?_
   refine ⟨_,rfl,_,rfl,_,_,rfl,rfl,_,rfl,?_⟩
   rw [p40]
   by_cases z2:10 ^ 40≤z
   ·exact iteDT z2 (bad (by omega))
   ·refine iteDF z2 ⟨rfl,⟨_,rfl⟩,fun j y h1 h2=>?_⟩
    rcases Nat.lt_or_ge j i with q | q
    ·exact hj j y q h2
    ·obtain rfl:j=i:=by omega
     rw [hz] at h2
     cases h2
     omega
 ·rintro σ H2 ⟨rfl,⟨u,rfl⟩,hj⟩
  have b1:=hj 0 t (by show 0<2; decide) rfl
  have b2:=hj 1 b (by show 1<2; decide) rfl
  refine ⟨_,rfl,p,_,_,_,rfl,rfl,SqT.of hp',at0,_,rfl,p,_,_,_,rfl,rfl,SqT.of hp',at1,t,b,rfl,rfl,?_⟩
  have e:decide (V.int ((Int.gcd t b:Nat):Int)=V.int 1)=decide (EzOk t b):=by
   by_cases y:Int.gcd t b=1
   ·rw [decide_eq_true (iv (by omega)),decide_eq_true (show EzOk t b from ⟨b1.1,b1.2,b2.1,b2.2,y⟩)]
   ·rw [decide_eq_false (ivn (by omega)),decide_eq_false fun z=>y z.2.2.2.2]
  rw [e]
  exact k
end
end My
namespace My
open PySem L2 Mth
structure NetH (n:Nat) (rs:List Rope) (ts:List (List Int)):Prop where
 m14:rs.length≤14
 n2:2≤n
 n15:n≤15
 len:ts.length=n
 tn:Turns (2*rs.length+2) ts
 ne:∀ t∈ts,t≠[]
 ease:∀ r∈rs,EaseK r.2.2∧r.1<n∧r.2.1<n
 home:∀ (p:Nat) (t:List Int),ts[p]?=some t->∀ x:Int,x∈t->(hm rs)[x.toNat]?=some p
 hang:∀ p,p<n->Rch rs p
theorem NetH.tlen {n:Nat} {rs:List Rope} {ts:List (List Int)} (k:NetH n rs ts) {t:List Int} (h:t∈ts):t.length≤30:=by
 have h1:=flat_sub h
 have h2:=len_le (2*rs.length+2) _ k.tn.nd fun x hx=>(k.tn.mem x).mp hx
 have:=k.m14
 omega
theorem hm0_at:∀ {rs:List Rope} {i:Nat} {r:Rope},rs[i]?=some r->(hm0 rs)[2*i]?=some r.1∧(hm0 rs)[2*i+1]?=some r.2.1
 | [],_,_,h=>by simp at h
 | r0 :: rs,0,r,h=>by cases h; exact ⟨rfl,rfl⟩
 | r0 :: rs,i+1,r,h=>hm0_at (rs:=rs) (i:=i) (by simpa using h)
theorem hm_at {rs:List Rope} {i:Nat} {r:Rope} (h:rs[i]?=some r):(hm rs)[2*i]?=some r.1∧(hm rs)[2*i+1]?=some r.2.1:=by
 have hi:=(List.getElem?_eq_some_iff.mp h).1
 have l:=hm0_len rs
 obtain ⟨a,b⟩:=hm0_at h
 unfold hm
 exact ⟨by rw [List.getElem?_append_left (by omega)]; exact a,by rw [List.getElem?_append_left (by omega)]; exact b⟩
theorem hm_out (rs:List Rope):(hm rs)[2*rs.length]?=some 0∧(hm rs)[2*rs.length+1]?=some 1:=by
 have l:=hm0_len rs
 unfold hm
 exact ⟨by rw [List.getElem?_append_right (by omega),l,Nat.sub_self]; rfl,by rw [List.getElem?_append_right (by omega),l,Nat.add_sub_cancel_left]; rfl⟩
theorem NetH.at {n:Nat} {rs:List Rope} {ts:List (List Int)} (k:NetH n rs ts) {x p:Nat} (hx:x<2*rs.length+2) (h:(hm rs)[x]?=some p):∃ t,ts[p]?=some t∧(x:Int)∈t:=by
 have hm':=(k.tn.mem (x:Int)).mpr ⟨by omega,by omega⟩
 obtain ⟨t,ht,hxt⟩:=List.mem_flatten.mp hm'
 obtain ⟨q,hq⟩:=List.mem_iff_getElem?.mp ht
 have:=k.home q t hq _ hxt
 rw [Int.toNat_natCast,h] at this
 cases this
 exact ⟨t,hq,hxt⟩
def rhoO (k:Nat) (x:Int):Int:=if (k:Int)<x / 2 then x-2 else x
def woT (k:Nat) (t:List Int):List Int:=(t.filter fun x=>decide (x / 2≠(k:Int))).map (rhoO k)
theorem woT_flat (k:Nat):∀ ts:List (List Int),(ts.map (woT k)).flatten=(ts.flatten.filter fun x=>decide (x / 2≠(k:Int))).map (rhoO k)
 | []=>rfl
 | t :: ts=>by rw [List.map_cons,List.flatten_cons,List.flatten_cons,woT_flat k ts,List.filter_append,List.map_append]; rfl
theorem rhoO_inj {k:Nat} {x y:Int} (hx:x / 2≠(k:Int)) (hy:y / 2≠(k:Int)) (e:rhoO k x=rhoO k y):x=y:=by
 unfold rhoO at e
 split at e <;> split at e <;> omega
theorem out_turns {m k:Nat} {ts:List (List Int)} (T:Turns (2*m+2) ts) (hk:k<m):Turns (2*(m-1)+2) (ts.map (woT k)):=by
 refine ⟨?_,fun y=>?_,by omega⟩
 ·rw [woT_flat]
  refine nd_map (T.nd.filter _) fun x hx y hy e=>?_
  exact rhoO_inj (of_decide_eq_true (List.mem_filter.mp hx).2) (of_decide_eq_true (List.mem_filter.mp hy).2) e
 ·rw [woT_flat,List.mem_map]
  constructor
  ·rintro ⟨x,hx,rfl⟩
   obtain ⟨h1,h2⟩:=List.mem_filter.mp hx
   have h2:=of_decide_eq_true h2
   obtain ⟨a,b⟩:=(T.mem x).mp h1
   push_cast at b
   unfold rhoO
   split
   ·exact ⟨by omega,by push_cast; omega⟩
   ·exact ⟨a,by push_cast; omega⟩
  ·rintro ⟨a,b⟩
   push_cast at b
   by_cases z:y / 2<(k:Int)
   ·refine ⟨y,List.mem_filter.mpr ⟨(T.mem y).mpr ⟨a,by push_cast; omega⟩,decide_eq_true (by omega)⟩,?_⟩
    unfold rhoO
    rw [if_neg (by omega)]
   ·refine ⟨y+2,List.mem_filter.mpr ⟨(T.mem _).mpr ⟨by omega,by push_cast; omega⟩,decide_eq_true (by omega)⟩,?_⟩
    unfold rhoO
    rw [if_pos (by omega)]
    omega
theorem hm_erase {rs:List Rope} {k:Nat} (hk:k<rs.length) {x:Nat} (hx:x / 2≠k):(hm (rs.eraseIdx k))[(rhoO k (x:Int)).toNat]?=(hm rs)[x]?:=by
 have e1:rs=rs.take k++rs[k] :: rs.drop (k+1):=by rw [List.getElem_cons_drop,List.take_append_drop]
 have e2:rs.eraseIdx k=rs.take k++rs.drop (k+1):=List.eraseIdx_eq_take_drop_succ ..
 have l1:(hm0 (rs.take k)).length=2*k:=by rw [hm0_len,List.length_take]; omega
 have h1:hm (rs.eraseIdx k)=hm0 (rs.take k)++(hm0 (rs.drop (k+1))++[0,1]):=by rw [e2]; unfold hm hm0; rw [List.flatMap_append,List.append_assoc]
 have h2:hm rs=hm0 (rs.take k)++(rs[k].1 :: rs[k].2.1 :: (hm0 (rs.drop (k+1))++[0,1])):=by
  conv=>lhs; rw [e1]
  unfold hm hm0
  rw [List.flatMap_append,List.append_assoc,List.flatMap_cons]
  rfl
 rw [h1,h2]
 unfold rhoO
 by_cases z:x / 2<k
 ·rw [if_neg (by omega),Int.toNat_natCast,List.getElem?_append_left (by omega),List.getElem?_append_left (by omega)]
 ·have g1:(hm0 (rs.take k)++(hm0 (rs.drop (k+1))++[0,1]))[((x:Int)-2).toNat]?=(hm0 (rs.drop (k+1))++[0,1])[((x:Int)-2).toNat-2*k]?:=by rw [List.getElem?_append_right (by omega),l1]
  have g2:(hm0 (rs.take k)++(rs[k].1 :: rs[k].2.1 :: (hm0 (rs.drop (k+1))++[0,1])))[x]?=(rs[k].1 :: rs[k].2.1 :: (hm0 (rs.drop (k+1))++[0,1]))[x-2*k]?:=by rw [List.getElem?_append_right (by omega),l1]
  rw [if_pos (by omega),g1,g2,show x-2*k=((x:Int)-2).toNat-2*k+1+1 by omega,List.getElem?_cons_succ,List.getElem?_cons_succ]
theorem NetH.wo_ne {n:Nat} {rs:List Rope} {ts:List (List Int)} (N:NetH n rs ts) {k:Nat} (hk:k<rs.length) (hg:∀ p,p<n->Rch (rs.eraseIdx k) p):∀ t∈ts,woT k t≠[]:=by
 intro t ht
 obtain ⟨p,hp⟩:=List.mem_iff_getElem?.mp ht
 have pn:p<n:=by rw [←N.len]; exact (List.getElem?_eq_some_iff.mp hp).1
 have fin:∀ x:Nat,x<2*rs.length+2->x / 2≠k->(hm rs)[x]?=some p->woT k t≠[]:=fun x h1 h2 h3=>by
  obtain ⟨t',ht',hx⟩:=N.at h1 h3
  rw [hp] at ht'
  cases ht'
  refine List.ne_nil_of_mem (a:=rhoO k (x:Int)) ?_
  exact List.mem_map.mpr ⟨_,List.mem_filter.mpr ⟨hx,decide_eq_true (by omega)⟩,rfl⟩
 obtain ⟨o0,o1⟩:=hm_out rs
 by_cases p0:p=0
 ·exact fin (2*rs.length) (by omega) (by omega) (by rw [o0,p0])
 by_cases p1:p=1
 ·exact fin (2*rs.length+1) (by omega) (by omega) (by rw [o1,p1])
 have:∃ r∈rs.eraseIdx k,r.1=p∨r.2.1=p:=Classical.byContradiction fun z=>by
  refine hg p pn (fun q=>q≠p) (Ne.symm p0) (fun r hr=>?_) rfl
  have a:r.1≠p:=fun e=>z ⟨r,hr,.inl e⟩
  have b:r.2.1≠p:=fun e=>z ⟨r,hr,.inr e⟩
  exact ⟨fun _=>b,fun _=>a⟩
 obtain ⟨r,hr,hrp⟩:=this
 obtain ⟨i,hi⟩:=List.mem_iff_getElem?.mp hr
 rw [List.getElem?_eraseIdx] at hi
 have key:∀ j:Nat,j≠k->rs[j]?=some r->woT k t≠[]:=fun j jk hj=>by
  have jl:=(List.getElem?_eq_some_iff.mp hj).1
  obtain ⟨g1,g2⟩:=hm_at hj
  rcases hrp with e | e
  ·exact fin (2*j) (by omega) (by omega) (by rw [g1,e])
  ·exact fin (2*j+1) (by omega) (by omega) (by rw [g2,e])
 split at hi
 ·exact key i (by omega) hi
 ·exact key (i+1) (by omega) hi
theorem NetH.out {n:Nat} {rs:List Rope} {ts:List (List Int)} (N:NetH n rs ts) {k:Nat} (hk:k<rs.length) (hg:∀ p,p<n->Rch (rs.eraseIdx k) p):NetH n (rs.eraseIdx k) (ts.map (woT k)):=by
 have l:(rs.eraseIdx k).length=rs.length-1:=List.length_eraseIdx_of_lt hk
 have m14:=N.m14
 refine ⟨by omega,N.n2,N.n15,by rw [List.length_map]; exact N.len,by rw [l]; exact out_turns N.tn hk,fun t ht=>?_,fun r hr=>N.ease r (List.mem_of_mem_eraseIdx hr),fun p t hp y hy=>?_,hg⟩
 ·obtain ⟨t',ht',rfl⟩:=List.mem_map.mp ht
  exact N.wo_ne hk hg t' ht'
 ·rw [List.getElem?_map] at hp
  obtain ⟨t',ht',rfl⟩:=Option.map_eq_some_iff.mp hp
  obtain ⟨x,hx,rfl⟩:=List.mem_map.mp hy
  obtain ⟨h1,h2⟩:=List.mem_filter.mp hx
  have h2:=of_decide_eq_true h2
  have x0:0≤x:=((N.tn.mem x).mp (List.mem_flatten.mpr ⟨t',List.mem_of_getElem? ht',h1⟩)).1
  obtain ⟨z,rfl⟩:=Int.eq_ofNat_of_zero_le x0
  have:=N.home p t' ht' _ h1
  rw [Int.toNat_natCast] at this
  rw [hm_erase hk (by omega)]
  exact this
theorem ez_rat {t b:Int} (h:EzOk t b):EaseK ((t:Rat) / (b:Rat))∧((t:Rat) / (b:Rat)).num=t∧(((t:Rat) / (b:Rat)).den:Int)=b:=by
 obtain ⟨h1,h2,h3,h4,h5⟩:=h
 have e:=frac_rat t b (by omega)
 have f:frac t b=(t,b):=by
  have p1:Mth.part t b=1:=by unfold Mth.part; rw [if_neg (by omega),h5]; rfl
  unfold frac
  rw [p1,Int.fdiv_one,Int.fdiv_one]
 rw [f] at e
 have e1:=(congrArg Prod.fst e).symm
 have e2:=(congrArg Prod.snd e).symm
 dsimp only at e1 e2
 exact ⟨⟨by rw [e1]; omega,by rw [e1]; exact h2,by rw [e2]; exact h4⟩,e1,e2⟩
end My
namespace My
open PySem L2 Mth
def nearS (l:List Nat) (r:Rope):List Nat:=if decide (r.1∈l)=decide (r.2.1∈l) then l else l++[r.1,r.2.1]
def nearF (l:List Nat) (rs:List Rope):List Nat:=rs.foldl nearS l
theorem nearS_sub {l:List Nat} {r:Rope} {x:Nat} (h:x∈l):x∈nearS l r:=by
 unfold nearS
 split
 ·exact h
 ·exact List.mem_append_left _ h
theorem nearF_sub:∀ {rs:List Rope} {l:List Nat} {x:Nat},x∈l->x∈nearF l rs
 | [],_,_,h=>h
 | r :: rs,l,x,h=>nearF_sub (rs:=rs) (nearS_sub h)
theorem nearF_snoc {rs:List Rope} {l:List Nat} {i:Nat} {r:Rope} (h:rs[i]?=some r):nearF l (rs.take (i+1))=nearS (nearF l (rs.take i)) r:=by
 unfold nearF
 rw [take_snoc h,List.foldl_append]
 rfl
theorem nearS_len (l:List Nat) (r:Rope):l.length≤(nearS l r).length∧(nearS l r).length≤l.length+2:=by
 unfold nearS
 split
 ·omega
 ·rw [List.length_append]
  show _≤_+2∧_+2≤_
  omega
def Clo (rs:List Rope) (l:List Nat):Prop:=∀ r∈rs,(r.1∈l↔r.2.1∈l)
theorem nearS_same {l:List Nat} {r:Rope} (h:(r.1∈l↔r.2.1∈l)):nearS l r=l:=by
 unfold nearS
 rw [if_pos (by rw [Bool.eq_iff_iff,decide_eq_true_eq,decide_eq_true_eq]; exact h)]
theorem nearF_clo:∀ {rs:List Rope} {l:List Nat},Clo rs l->nearF l rs=l
 | [],_,_=>rfl
 | r :: rs,l,h=>by
  show nearF (nearS l r) rs=l
  rw [nearS_same (h r (List.mem_cons_self ..))]
  exact nearF_clo fun r' hr'=>h r' (List.mem_cons_of_mem _ hr')
def cntN (n:Nat) (l:List Nat):Nat:=(List.range n).countP fun p=>decide (p∈l)
theorem cntN_le (n:Nat) (l:List Nat):cntN n l≤n:=by
 have:=List.countP_le_length (p:=fun p=>decide (p∈l)) (l:=List.range n)
 rwa [List.length_range] at this
theorem cntN_mono {n:Nat} {l l':List Nat} (h:∀ x∈l,x∈l'):cntN n l≤cntN n l':=List.countP_mono_left fun x _ hx=>by
 rw [decide_eq_true_eq] at hx ⊢
 exact h x hx
theorem count_lt {p q:Nat->Bool}:∀ {L:List Nat} {x:Nat},x∈L->p x=false->q x=true->(∀ y,p y=true->q y=true)->L.countP p+1≤L.countP q
 | [],_,h,_,_,_=>by cases h
 | y :: L,x,h,h1,h2,h3=>by
  rcases List.mem_cons.mp h with rfl | h
  ·rw [List.countP_cons_of_neg (by rw [h1]; decide),List.countP_cons_of_pos h2]
   have:=List.countP_mono_left (l:=L) fun y _=>h3 y
   omega
  ·have ih:=count_lt h h1 h2 h3
   by_cases z:p y=true
   ·rw [List.countP_cons_of_pos z,List.countP_cons_of_pos (h3 y z)]
    omega
   ·rw [List.countP_cons_of_neg z]
    have:L.countP q≤(y :: L).countP q:=by
     rw [List.countP_cons]
     omega
    omega
theorem cntN_new {n x:Nat} {l l':List Nat} (h:∀ y∈l,y∈l') (hx:x<n) (h1:x∉l) (h2:x∈l'):cntN n l+1≤cntN n l' :=
 count_lt (x:=x) (List.mem_range.mpr hx) (decide_eq_false h1) (decide_eq_true h2) fun y hy=>by
  rw [decide_eq_true_eq] at hy ⊢
  exact h y hy
theorem nearF_grow {n:Nat}:∀ {rs:List Rope} {l:List Nat},(∀ r∈rs,r.1<n∧r.2.1<n)->¬ Clo rs l->cntN n l+1≤cntN n (nearF l rs)
 | [],_,_,h=>absurd (fun r hr=>by cases hr) h
 | r :: rs,l,hb,h=>by
  show cntN n l+1≤cntN n (nearF (nearS l r) rs)
  have hr:=hb r (List.mem_cons_self ..)
  by_cases z:(r.1∈l↔r.2.1∈l)
  ·rw [nearS_same z]
   refine nearF_grow (fun r' hr'=>hb r' (List.mem_cons_of_mem _ hr')) fun c=>h fun r' hr'=>?_
   rcases List.mem_cons.mp hr' with rfl | hr'
   ·exact z
   ·exact c r' hr'
  ·have e:nearS l r=l++[r.1,r.2.1]:=by
    unfold nearS
    rw [if_neg (by rw [Bool.eq_iff_iff,decide_eq_true_eq,decide_eq_true_eq]; exact z)]
   have mono:cntN n (nearS l r)≤cntN n (nearF (nearS l r) rs):=cntN_mono fun x hx=>nearF_sub hx
   have:cntN n l+1≤cntN n (nearS l r):=by
    rw [e]
    by_cases y:r.1∈l
    ·have y2:r.2.1∉l:=fun q=>z ⟨fun _=>q,fun _=>y⟩
     exact cntN_new (fun x hx=>List.mem_append_left _ hx) hr.2 y2 (by simp)
    ·exact cntN_new (fun x hx=>List.mem_append_left _ hx) hr.1 y (by simp)
   omega
structure Near (n:Nat) (rs:List Rope) (l:List Nat):Prop where
 st:0∈l
 rch:∀ x∈l,Rch rs x
theorem Near.step {n:Nat} {rs:List Rope} {l:List Nat} (k:Near n rs l) {r:Rope} (hr:r∈rs):Near n rs (nearS l r):=by
 refine ⟨nearS_sub k.st,fun x hx=>?_⟩
 unfold nearS at hx
 split at hx
 ·exact k.rch x hx
 ·rename_i z
  have z':¬ (r.1∈l↔r.2.1∈l):=fun q=>z (by rw [Bool.eq_iff_iff,decide_eq_true_eq,decide_eq_true_eq]; exact q)
  rcases List.mem_append.mp hx with hx | hx
  ·exact k.rch x hx
  ·have both:Rch rs r.1∧Rch rs r.2.1:=by
    by_cases y:r.1∈l
    ·exact ⟨k.rch _ y,fun S h0 hc=>(hc r hr).mp (k.rch _ y S h0 hc)⟩
    ·have y2:r.2.1∈l:=Classical.byContradiction fun q=>z' ⟨fun a=>absurd a y,fun a=>absurd a q⟩
     exact ⟨fun S h0 hc=>(hc r hr).mpr (k.rch _ y2 S h0 hc),k.rch _ y2⟩
   simp only [List.mem_cons,List.not_mem_nil,or_false] at hx
   rcases hx with rfl | rfl
   ·exact both.1
   ·exact both.2
theorem near_rch {n:Nat} {rs:List Rope} {l:List Nat} (k:Near n rs l) (c:Clo rs l) (p:Nat):p∈l↔Rch rs p:=⟨k.rch p,fun h=>h (fun q=>q∈l) k.st c⟩
theorem near_round {n i:Nat} {rs:List Rope} {l:List Nat} (hb:∀ r∈rs,r.1<n∧r.2.1<n) (h:Clo rs l∨i+1≤cntN n l):Clo rs (nearF l rs)∨i+1+1≤cntN n (nearF l rs):=by
 by_cases c:Clo rs l
 ·rw [nearF_clo c]
  exact .inl c
 ·rcases h with h | h
  ·exact absurd h c
  ·have:=nearF_grow hb c
   exact .inr (by omega)
end My
namespace My
open PySem L2 Mth
abbrev Raw:=Int×Int×Int×Int
def RawR (H:Hp) (b:Addr) (r:Raw):Prop:=∃ e,H b=some (.tup [.int r.1,.int r.2.1,.ref e])∧H e=some (.tup [.int r.2.2.1,.int r.2.2.2])
theorem mo_raw:Mo RawR:=fun s ⟨e,h1,h2⟩=>⟨e,s _ _ h1,s _ _ h2⟩
def okPl (n:Int) (r:Raw):Prop:=(0≤r.1∧r.1<n)∧(0≤r.2.1∧r.2.1<n)
instance (n:Int) (r:Raw):Decidable (okPl n r):=by unfold okPl; exact inferInstance
def okRp (n:Int) (r:Raw):Prop:=okPl n r∧EzOk r.2.2.1 r.2.2.2
def toRp (r:Raw):Rope:=(r.1.toNat,r.2.1.toNat,(r.2.2.1:Rat) / (r.2.2.2:Rat))
theorem raw_rope {H:Hp} {b:Addr} {r:Raw} {n:Int} (h:RawR H b r) (k:okRp n r):RopeR H b (toRp r):=by
 obtain ⟨e,h1,h2⟩:=h
 obtain ⟨⟨⟨a1,a2⟩,a3,a4⟩,z⟩:=k
 obtain ⟨_,en,ed⟩:=ez_rat z
 refine ⟨e,?_,?_⟩
 ·show H b=some (.tup [.int ((r.1.toNat:Nat):Int),.int ((r.2.1.toNat:Nat):Int),.ref e])
  rw [Int.toNat_of_nonneg a1,Int.toNat_of_nonneg a3]
  exact h1
 ·show H e=some (.tup [.int ((r.2.2.1:Rat) / (r.2.2.2:Rat)).num,.int (((r.2.2.1:Rat) / (r.2.2.2:Rat)).den:Int)])
  rw [en,ed]
  exact h2
def ofRp (r:Rope):Raw:=((r.1:Int),(r.2.1:Int),r.2.2.num,(r.2.2.den:Int))
theorem rope_raw {H:Hp} {b:Addr} {r:Rope} (h:RopeR H b r):RawR H b (ofRp r):=h
theorem raws_ropes {H:Hp} {a:Addr} {rs:List Raw} {n:Int} (h:TupR RawR H a rs) (k:∀ r∈rs,okRp n r):TupR RopeR H a (rs.map toRp):=by
 obtain ⟨bs,h1,hl,hB⟩:=h
 refine ⟨bs,h1,by rw [List.length_map]; exact hl,fun i b r e1 e2=>?_⟩
 rw [List.getElem?_map] at e2
 obtain ⟨r',hr,rfl⟩:=Option.map_eq_some_iff.mp e2
 exact raw_rope (hB i b r' e1 hr) (k r' (List.mem_of_getElem? hr))
def X1 (C:Addr) (fl:Str) (H:Hp) (E:XK) (y:V):Prop:=∀ d H',Same H H'->H' d=some (.xd [(fl,y)])->E (.ref C) (some d) H'
def sp1 (C:Addr) (fl:Str):Sp:=fun vs H Q _=>∃ (e t:Addr) (y:V),vs=[.ref e,y]∧H e=some (excN e C t)∧∀ d H',H d=none->H' e=some (excF e C t d)->H' d=some (.xd [(fl,y)])->(∀ b o,b≠e->H b=some o->H' b=some o)->Q .non H'
theorem rz1 {C:Addr} {fl:Str} {H:Hp} {E:XK} {y:V} (q:X1 C fl H E y):([y]:List V).length≤sizeLine∧∀ e t,H e=none->sp1 C fl (.ref e :: [y]) (upd H e (excN e C t)) (fun v H2=>v=.non∧∃ d,H2 e=some (excF e C t d)∧E (.ref C) (some d) (del H2 e)) E0:=by
 refine ⟨by show 1≤sizeLine; decide,fun e t he=>?_⟩
 refine ⟨e,t,y,rfl,upd_same,fun d H' _ h1 h2 h3=>⟨rfl,d,h1,q d _ (raise_same he h3) ?_⟩⟩
 exact del_at h2 fun z=>by rw [z,h1] at h2; cases h2
theorem rz2 {C:Addr} {H:Hp} {E:XK} {k:Int} {word:Str} (q:NRo C H E k word):([.int k,.str word]:List V).length≤sizeLine∧∀ e t,H e=none->spNRin C (.ref e :: [.int k,.str word]) (upd H e (excN e C t)) (fun v H2=>v=.non∧∃ d,H2 e=some (excF e C t d)∧E (.ref C) (some d) (del H2 e)) E0:=by
 refine ⟨by show 2≤sizeLine; decide,fun e t he=>?_⟩
 refine ⟨e,t,_,_,rfl,upd_same,fun d H' _ h1 h2 h3=>⟨rfl,d,h1,q d _ (raise_same he h3) ?_⟩⟩
 exact del_at h2 fun z=>by rw [z,h1] at h2; cases h2
section
variable {P:Program} {w:World} {K:PySem.W.Frag} {mg:Str->Option Value} {base:Heap} {f g h f1 f2 f3 f4 f5 f6 fI C CN CR CT CL CX:Addr} {fd gd hd d1 d2 d3 d4 d5 d6 dI:FuncData}
theorem init1 {fl:Str} {H:Hp} {Q:VK} {e C t:Addr} {y:V} (x1:XStore K C fl) (he:H e=some (excN e C t)) (q:∀ d H',H d=none->H' e=some (excF e C t d)->H' d=some (.xd [(fl,y)])->(∀ b o,b≠e->H b=some o->H' b=some o)->Q .non H'):sFldX K (tVar 0) (tVar 1) fl { nx:=fun _ H'=>Q .non H',rt:=Q } [some (.ref e),some y] H:=by
 refine ⟨_,rfl,_,rfl,e,C,t,rfl,he,x1,fun d hd=>?_⟩
 have ed:e≠d:=ne_of_none he hd
 refine q d _ hd ?_ upd_same fun b o n e'=>?_
 ·rw [upd_ne ed,upd_same]
 ·rw [upd_ne (ne_of_none e' hd),upd_ne n]
  exact e'
theorem scNNi:FnScope ["self","word"] ["self","word"] (defScope sNNInit):=⟨rfl,rfl,rfl,by decide +kernel,rfl,by decide +kernel,by decide +kernel⟩
theorem ok_nnin (F:Fun K "__init__" "NoNet.__init__" sNNInit f fd) (x1:XStore K C "word"):FnOk P w K mg base CX0 1 f fd ["self","word"] (sp1 C "word"):=by
 refine F.ok scNNi (fun vs H Q E h=>?_) (fun cdv A outer s H vs Q E hr h=>?_)
 ·obtain ⟨e,t,y,rfl,_⟩:=h
  rfl
 obtain ⟨e,t,y,rfl,he,q⟩:=h
 exact ⟨_,pss_one (ps_fldX (pv 0) (pv 1) rfl),init1 x1 he q⟩
theorem scNTi:FnScope ["self","place"] ["self","place"] (defScope sNTInit):=⟨rfl,rfl,rfl,by decide +kernel,rfl,by decide +kernel,by decide +kernel⟩
theorem ok_ntin (F:Fun K "__init__" "NoTurn.__init__" sNTInit f fd) (x1:XStore K C "place"):FnOk P w K mg base CX0 1 f fd ["self","place"] (sp1 C "place"):=by
 refine F.ok scNTi (fun vs H Q E h=>?_) (fun cdv A outer s H vs Q E hr h=>?_)
 ·obtain ⟨e,t,y,rfl,_⟩:=h
  rfl
 obtain ⟨e,t,y,rfl,he,q⟩:=h
 exact ⟨_,pss_one (ps_fldX (pv 0) (pv 1) rfl),init1 x1 he q⟩
theorem scNFi:FnScope ["self","lands"] ["self","lands"] (defScope sNFInit):=⟨rfl,rfl,rfl,by decide +kernel,rfl,by decide +kernel,by decide +kernel⟩
theorem ok_nfin (F:Fun K "__init__" "NotFlat.__init__" sNFInit f fd) (x1:XStore K C "lands"):FnOk P w K mg base CX0 1 f fd ["self","lands"] (sp1 C "lands"):=by
 refine F.ok scNFi (fun vs H Q E h=>?_) (fun cdv A outer s H vs Q E hr h=>?_)
 ·obtain ⟨e,t,y,rfl,_⟩:=h
  rfl
 obtain ⟨e,t,y,rfl,he,q⟩:=h
 exact ⟨_,pss_one (ps_fldX (pv 0) (pv 1) rfl),init1 x1 he q⟩
inductive SpCNR (CN:Addr) (vs:List V) (H:Hp) (Q:VK) (E:XK):Prop
 | mk (n:Int) (a:Addr) (xs:List V) (h_0:vs=[.int n,.ref a]) (h_1:H a=some (.tup xs)) (h_2:2≤n->n≤15->1≤xs.length->xs.length≤14->Q .non H) (h_3:¬ (2≤n∧n≤15)->X1 CN "word" H E (.str "places")) (h_4:2≤n->n≤15->¬ (1≤xs.length∧xs.length≤14)->X1 CN "word" H E (.str "ropes")):SpCNR CN vs H Q E
def spCN (CN:Addr):Sp:=fun vs H Q E=>SpCNR CN vs H Q E
theorem ok_cn (F:Fun K "check_numbers" "check_numbers" s_check_numbers f fd) (ml:mg "len" = none)
  (GI:FnOk P w K mg base CX0 1 fI dI ["self","word"] (sp1 CN "word")) (bI:Binds K dI ["self","word"] []) (iI:PySem.W.isFn K (.ref fI)=true) (mC:mg "NoNet" = some (.ref CN)) (xC:excI K CN bmV "ValueError.__new__" fI=true):FnOk P w K mg base (CXr P w) 3 f fd ["places","ropes"] (spCN CN):=by
 refine okX F scCN (fun vs H Q E h=>?_) (fun cdv A outer s H vs Q E hr h=>?_)
 ·obtain ⟨n,a,xs,rfl,_⟩:=h
  rfl
 obtain ⟨n,a,xs,rfl,ha,q2,q3,q4⟩:=h
 refine ⟨_,pss_cons (ps_if (PW.pt (pw_or (pt_cmpR op_lt (pv 0) pe_int (nomark _)) (pw_or1 (pt_cmpR op_gt (pv 0) pe_int (nomark _))))) (pss_one (ps_raiseI (by rfl) mC xC PySem.F.excBase_ValueError rfl raise_outI GI (hr.mono (by decide)) bI iI (pa_cons pe_str pa_nil))) pss_nil)
  (pss_one (ps_if (PW.pt (pw_or (pt_cmpR op_lt (pe_callB (callLen (K:=K)) (by rfl) ml bt_len (pa_cons (pv 1) pa_nil)) pe_int (nomark _)) (pw_or1 (pt_cmpR op_gt (pe_callB (callLen (K:=K)) (by rfl) ml bt_len (pa_cons (pv 1) pa_nil)) pe_int (nomark _))))) (pss_one (ps_raiseI (by rfl) mC xC PySem.F.excBase_ValueError rfl raise_outI GI (hr.mono (by decide)) bI iI (pa_cons pe_str pa_nil))) pss_nil)),?_⟩
 refine ⟨_,rfl,_,_,rfl,rfl,_,rfl,?_⟩
 by_cases z1:n<2
 ·exact iteDT z1 (rz1 (q3 (by omega)))
 refine iteDF z1 ⟨_,rfl,_,_,rfl,rfl,_,rfl,?_⟩
 by_cases z2:15<n
 ·exact iteDT z2 (rz1 (q3 (by omega)))
 refine iteDF z2 ⟨_,rfl,a,_,rfl,.inr (SqT.of ha),_,_,rfl,rfl,_,rfl,?_⟩
 by_cases z3:(xs.length:Int)<1
 ·exact iteDT z3 (rz1 (q4 (by omega) (by omega) (by omega)))
 refine iteDF z3 ⟨_,rfl,a,_,rfl,.inr (SqT.of ha),_,_,rfl,rfl,_,rfl,?_⟩
 by_cases z4:14<(xs.length:Int)
 ·exact iteDT z4 (rz1 (q4 (by omega) (by omega) (by omega)))
 exact iteDF z4 (q2 (by omega) (by omega) (by omega) (by omega))
inductive SpCRR (CR:Addr) (vs:List V) (H:Hp) (Q:VK) (E:XK):Prop
 | mk (n k:Int) (a:Addr) (r:Raw) (h_0:vs=[.int n,.int k,.ref a]) (h_1:RawR H a r) (h_2:okRp n r->∀ H',Same H H'->Q .non H') (h_3:¬ okPl n r->NRo CR H E k "place") (h_4:okPl n r->¬ EzOk r.2.2.1 r.2.2.2->NRo CR H E k "ease"):SpCRR CR vs H Q E
def spCR (CR:Addr):Sp:=fun vs H Q E=>SpCRR CR vs H Q E
theorem ok_cr (F:Fun K "check_rope" "check_rope" s_check_rope f fd) (G:FnOk P w K mg base CX0 2 g gd ["ease"] spIsX) (bG:Binds K gd ["ease"] []) (kG:PySem.W.keepIn K (.ref g)=true) (mG:mg "is_ease" = some (.ref g))
  (GI:FnOk P w K mg base CX0 1 fI dI ["self","rope","word"] (spNRin CR)) (bI:Binds K dI ["self","rope","word"] []) (iI:PySem.W.isFn K (.ref fI)=true) (mC:mg "NoRope" = some (.ref CR)) (xC:excI K CR bmV "ValueError.__new__" fI=true):FnOk P w K mg base (CXr P w) 3 f fd ["places","number","rope"] (spCR CR):=by
 refine okX F scCR (fun vs H Q E h=>?_) (fun cdv A outer s H vs Q E hr h=>?_)
 ·obtain ⟨n,k,a,r,rfl,_⟩:=h
  rfl
 obtain ⟨n,k,a,r,rfl,⟨e,ha,he⟩,q2,q3,q4⟩:=h
 refine ⟨_,pss_cons (ps_for PassesOwn.leaving rfl (piTup (K:=K) (pe_slice (slT (K:=K)) (pv 2) po_none (po_some pe_int))) (pg_name (i:=3) scCR.nd rfl (Or.inl rfl))
   (pss_one (ps_if (PW.pt (pw_or (pt_cmpR op_lt (pv 3) pe_int (nomark _)) (pw_or1 (pt_cmpR op_ge (pv 3) (pv 0) (nomark _))))) (pss_one (ps_raiseI (by rfl) mC xC PySem.F.excBase_ValueError rfl raise_outI GI (hr.mono (by decide)) bI iI (pa_cons (pv 1) (pa_cons pe_str pa_nil)))) pss_nil)))
  (pss_one (ps_if (pt_not (pt_val (pe_call G hr (by rfl) mG kG bG .nil pass0 (pa_cons (pe_ix (ixT (K:=K)) (pv 2) pe_int (fun _ _=>rfl)) pa_nil)))) (pss_one (ps_raiseI (by rfl) mC xC PySem.F.excBase_ValueError rfl raise_outI GI (hr.mono (by decide)) bI iI (pa_cons (pv 1) (pa_cons pe_str pa_nil)))) pss_nil)),?_⟩
 refine ⟨_,rfl,2,rfl,a,_,rfl,SqT.of ha,fun z=>?_,fun p hp=>?_⟩
 ·have:=z.2
  rw [sIxT2 (by show 2≤3; decide)] at this
  cases this
 rw [show cutV [V.int r.1,.int r.2.1,.ref e] none (some 2)=[.int r.1,.int r.2.1] from rfl]
 have s1:=same_new hp (.tup [.int r.1,.int r.2.1])
 have e1:(upd H p (.tup [.int r.1,.int r.2.1])) p=some (.tup [.int r.1,.int r.2.1]):=upd_same
 generalize upd H p (.tup [.int r.1,.int r.2.1])=H1 at s1 e1
 refine ⟨p,rfl,⟨_,SqT.of e1⟩,?_⟩
 have bad:¬ okPl n r->NRo CR H1 E k "place":=fun z d H' s=>q3 z d H' (s1.trans s)
 refine for_tup (xs:=([r.1,r.2.1]:List Int).map V.int) (fun i σ H2=>H2=H1∧(∃ u,σ=[some (.int n),some (.int k),some (.ref a),u])∧∀ (j:Nat) (z:Int),j<i->([r.1,r.2.1]:List Int)[j]?=some z->0≤z∧z<n) ⟨rfl,⟨none,rfl⟩,fun j z h=>by omega⟩ (fun i σ H2 _ ⟨e,_⟩=>by rw [e]; exact SqT.of e1) ?_ ?_
 ·rintro i x σ H2 hx ⟨rfl,⟨u,rfl⟩,hj⟩
  obtain ⟨z,rfl,hz⟩:=int_at hx
  have bad':¬ (0≤z∧z<n)->NRo CR H2 E k "place":=fun y=>bad fun ⟨a1,a2⟩=>y (by
   match i,hz with
   | 0,hz=>cases hz; exact a1
   | 1,hz=>cases hz; exact a2)
  refine ⟨_,rfl,_,_,rfl,rfl,_,rfl,?_⟩
  by_cases z1:z<0
  ·exact iteDT z1 ⟨_,rfl,rz2 (bad' (by omega))⟩
  refine iteDF z1 ⟨_,rfl,_,rfl,_,_,rfl,rfl,_,rfl,?_⟩
  by_cases z2:n≤z
  ·exact iteDT z2 ⟨_,rfl,rz2 (bad' (by omega))⟩
  refine iteDF z2 ⟨rfl,⟨_,rfl⟩,fun j y h1 h2=>?_⟩
  rcases Nat.lt_or_ge j i with x | x
  ·exact hj j y x h2
  ·obtain rfl:j=i:=by omega
   rw [hz] at h2
   cases h2
   exact ⟨by omega,by omega⟩
 ·rintro σ H2 ⟨rfl,⟨u,rfl⟩,hj⟩
  have pl:okPl n r:=⟨hj 0 r.1 (by show 0<2; decide) rfl,hj 1 r.2.1 (by show 1<2; decide) rfl⟩
  refine ⟨_,rfl,a,_,_,_,rfl,rfl,SqT.of (s1 _ _ ha),t3_2 _ _ _,e,r.2.2.1,r.2.2.2,rfl,s1 _ _ he,?_⟩
  by_cases z:EzOk r.2.2.1 r.2.2.2
  ·rw [decide_eq_true z]
   exact ⟨_,rfl,iteF (q2 ⟨pl,z⟩ _ s1)⟩
  ·rw [decide_eq_false z]
   exact ⟨_,rfl,iteT ⟨_,rfl,rz2 fun d H' s=>q4 pl z d H' (s1.trans s)⟩⟩
end
end My
namespace My
open PySem L2 Mth
theorem mo_rr {H H':Hp} {a:Addr} {rs:List Rope} (s:Same H H') (h:TupR RopeR H a rs):TupR RopeR H' a rs:=mo_tup (R:=RopeR) (fun s h=>mo_rope s h) s h
theorem X1.mono {C:Addr} {fl:Str} {H H':Hp} {E:XK} {y:V} (q:X1 C fl H E y) (s:Same H H'):X1 C fl H' E y:=fun d H2 s2 h=>q d H2 (s.trans s2) h
theorem NRo.mono {C:Addr} {H H':Hp} {E:XK} {k:Int} {wd:Str} (q:NRo C H E k wd) (s:Same H H'):NRo C H' E k wd:=fun d H2 s2 h=>q d H2 (s.trans s2) h
def tOk (rs:List Rope) (ts:List (List Int)) (p:Nat):Prop:=(ts.getD p []).Perm (endsL (hm rs) p)
section
variable {P:Program} {w:World} {K:PySem.W.Frag} {mg:Str->Option Value} {base:Heap} {f g h f1 f2 f3 f4 f5 f6 fI C CN CR CT CL CX:Addr} {fd gd hd d1 d2 d3 d4 d5 d6 dI:FuncData}
inductive SpCTR (CT:Addr) (vs:List V) (H:Hp) (Q:VK) (E:XK):Prop
 | mk (n:Nat) (a b:Addr) (rs:List Rope) (ts:List (List Int)) (h_0:vs=[.int (n:Int),.ref a,.ref b]) (h_1:2≤n) (h_2:n≤15) (h_3:rs.length≤14) (h_4:TupR RopeR H a rs) (h_5:∀ r∈rs,r.1<n∧r.2.1<n) (h_6:TupR IntsT H b ts) (h_7:∀ t∈ts,t.length<64)
  (h_8:(∀ p,p<n->tOk rs ts p)->ts.length≤n->∀ H',Same H H'->Q .non H') (h_9:∀ p,p<n->¬ tOk rs ts p->(∀ i,i<p->tOk rs ts i)->X1 CT "place" H E (.int (p:Int))) (h_10:(∀ p,p<n->tOk rs ts p)->n<ts.length->X1 CT "place" H E (.int (n:Int))):SpCTR CT vs H Q E
def spCT (CT:Addr):Sp:=fun vs H Q E=>SpCTR CT vs H Q E
theorem ok_ct (F:Fun K "check_turns" "check_turns" s_check_turns f fd) (G:FnOk P w K mg base CX0 1 g gd ["places","ropes"] spEnds) (bG:Binds K gd ["places","ropes"] []) (kG:PySem.W.keepIn K (.ref g)=true) (mG:mg "ends_at" = some (.ref g)) (ml:mg "len" = none) (me:mg "enumerate" = none) (mso:mg "sorted" = none)
  (GI:FnOk P w K mg base CX0 1 fI dI ["self","place"] (sp1 CT "place")) (bI:Binds K dI ["self","place"] []) (iI:PySem.W.isFn K (.ref fI)=true) (mC:mg "NoTurn" = some (.ref CT)) (xC:excI K CT bmV "ValueError.__new__" fI=true):FnOk P w K mg base (CXr P w) 3 f fd ["places","ropes","turns"] (spCT CT):=by
 refine okX F scTu (fun vs H Q E h=>?_) (fun cdv A outer s H vs Q E hr h=>?_)
 ·obtain ⟨n,a,b,rs,ts,rfl,_⟩:=h
  rfl
 obtain ⟨n,a,b,rs,ts,rfl,n2,n15,m14,hR,hrs,⟨bs,hb,hB⟩,htl,q8,q9,q10⟩:=h
 have hu:=hu_of hr
 refine ⟨_,pss_cons (ps_for PassesOwn.leaving rfl (pi_enumL (by rfl) me (pa_cons (pe_call G (hr.mono (by decide)) (by rfl) mG kG bG .nil pass0 (pa_cons (pv 0) (pa_cons (pv 1) pa_nil))) pa_nil)) (pgTup (n:=2) (K:=K) rfl (pgs_cons (pg_name (i:=3) scTu.nd rfl (Or.inl rfl)) (pgs_cons (pg_name (i:=4) scTu.nd rfl (Or.inl rfl)) pgs_nil)))
   (pss_cons (ps_set (i:=5) scTu.nd rfl (Or.inl rfl) (pe_ifExp (pt_cmpR op_lt (pv 3) (pe_callB (callLen (K:=K)) (by rfl) ml bt_len (pa_cons (pv 2) pa_nil)) (nomark _)) (pe_ix (ixT (K:=K)) (pv 2) (pv 3) (fun _ _=>rfl)) (pe_tup pa_nil)))
    (pss_one (ps_if (pt_cmpR (op_neLI hr.units) (pe_callB call_sortT (by rfl) mso bt_sorted (pa_cons (pv 5) pa_nil)) (pv 4) (nomark _)) (pss_one (ps_raiseI (by rfl) mC xC PySem.F.excBase_ValueError rfl raise_outI GI (hr.mono (by decide)) bI iI (pa_cons (pv 3) pa_nil))) pss_nil))))
  (pss_one (ps_if (pt_cmpR op_gt (pe_callB (callLen (K:=K)) (by rfl) ml bt_len (pa_cons (pv 2) pa_nil)) (pv 0) (nomark _)) (pss_one (ps_raiseI (by rfl) mC xC PySem.F.excBase_ValueError rfl raise_outI GI (hr.mono (by decide)) bI iI (pa_cons (pv 0) pa_nil))) pss_nil)),?_⟩
 refine ⟨_,rfl,_,rfl,n,a,rs,rfl,n2,by omega,by omega,hR,hrs,fun p cs H1 s1 M=>?_⟩
 refine ⟨p,_,rfl,M.h1,?_⟩
 refine for_enumL (xs:=cs.map V.ref) (fun i σ H2=>(∃ u v t,σ=[some (.int n),some (.ref a),some (.ref b),u,v,t])∧Same H1 H2∧∀ j,j<i->tOk rs ts j) ⟨⟨none,none,none,rfl⟩,Same.refl _,fun j h=>by omega⟩ (fun i σ H2 _ ⟨_,s2,_⟩=>s2 _ _ M.h1) ?_ ?_
 ·rintro i x σ H2 p2 hx ⟨⟨u,v,t0,rfl⟩,s2,hj⟩ hp2
  obtain ⟨c,es,rfl,hc,hy,hE⟩:=M.rows.ref hx
  have hi:i<n:=by simpa using (List.getElem?_eq_some_iff.mp hy).1
  rw [List.getElem?_map,List.getElem?_range hi] at hy
  cases hy
  have s3:=s2.trans (same_new hp2 (.tup [.int i,.ref c]))
  have s03:=s1.trans s3
  refine ⟨p2,_,rfl,SqT.of upd_same,rfl,_,_,rfl,_,_,rfl,rfl,?_⟩
  generalize upd H2 p2 (.tup [.int i,.ref c])=H3 at s3 s03
  refine seq_hide fun U hU=>?_
  have key:∀ tb H4,Same H3 H4->H4 tb=some (.tup ((ts.getD i []).map V.int))->(ts.getD i []).length<64->U [some (.int n),some (.ref a),some (.ref b),some (.int (i:Int)),some (.ref c),some (.ref tb)] H4:=by
   intro tb H4 s4 htb hl
   subst hU
   refine ⟨_,rfl,tb,_,rfl,htb,hl,fun l ms hl pm2 srt=>?_⟩
   have s5:=same_new hl (.lst (ms.map V.int))
   refine ⟨_,rfl,l,c,ms,endsL (hm rs) i,rfl,rfl,upd_same,s5 _ _ (s4 _ _ (s3 _ _ hE)),_,rfl,?_⟩
   by_cases z:ms=endsL (hm rs) i
   ·have ok:tOk rs ts i:=by
     unfold tOk
     rw [←z]
     exact pm2.symm
    refine iteNS z ⟨⟨_,_,_,rfl⟩,(s3.trans s4).trans s5,fun j h=>?_⟩
    rcases Nat.lt_or_ge j i with y | y
    ·exact hj j y
    ·obtain rfl:j=i:=by omega
     exact ok
   ·refine iteNN z ⟨_,rfl,rz1 ((q9 i hi (fun y=>z ?_) hj).mono (s03.trans (s4.trans s5)))⟩
    exact sorted_eq srt (endsL_lt (hm rs) i) (pm2.trans y)
  refine ⟨_,rfl,_,rfl,b,_,rfl,.inr (SqT.of (s03 _ _ hb)),_,_,rfl,rfl,_,rfl,?_⟩
  rw [List.length_map,hB.1]
  by_cases z:(i:Int)<(ts.length:Int)
  ·have hi2:i<ts.length:=by omega
   have ht:ts[i]?=some ts[i]:=List.getElem?_eq_getElem hi2
   obtain ⟨tb,htb,hT⟩:=hB.get ht
   have eg:ts.getD i []=ts[i]:=by rw [List.getD_eq_getElem?_getD,ht]; rfl
   refine iteDT z ⟨_,rfl,_,rfl,b,_,_,_,rfl,rfl,SqT.of (s03 _ _ hb),atI_nat (ref_at htb),?_⟩
   exact key tb H3 (Same.refl _) (by rw [eg]; exact s03 _ _ hT) (by rw [eg]; exact htl _ (List.getElem_mem hi2))
  ·have eg:ts.getD i []=[]:=by rw [List.getD_eq_getElem?_getD,List.getElem?_eq_none (by omega)]; rfl
   refine iteDF z ⟨by show 0≤sizeLine; decide,fun tb htb=>?_⟩
   exact key tb _ (same_new htb _) (by rw [eg]; exact upd_same) (by rw [eg]; decide)
 ·rintro σ H2 ⟨⟨u,v,t0,rfl⟩,s2,hj⟩
  have hjn:∀ p,p<n->tOk rs ts p:=fun p hp=>hj p (by rw [List.length_map,M.rows.1,List.length_map,List.length_range]; exact hp)
  have s02:=s1.trans s2
  refine ⟨_,rfl,b,_,rfl,.inr (SqT.of (s02 _ _ hb)),_,rfl,_,_,rfl,rfl,_,rfl,?_⟩
  rw [List.length_map,hB.1]
  by_cases z:(n:Int)<(ts.length:Int)
  ·exact iteDT z ⟨_,rfl,rz1 ((q10 hjn (by omega)).mono s02)⟩
  ·exact iteDF z (q8 hjn (by omega) _ s02)
inductive SpCFR (CX:Addr) (vs:List V) (H:Hp) (Q:VK) (E:XK):Prop
 | mk (n:Int) (a b:Addr) (xs:List V) (m:Nat) (ts:List (List Int)) (h_0:vs=[.int n,.ref a,.ref b]) (h_1:H a=some (.tup xs)) (h_2:TupR IntsT H b ts) (h_3:Turns m ts) (h_4:m≤1000) (h_5:n-xs.length-1+(landsF (nxt ts) m).length≠2->X1 CX "lands" H E (.int ((landsF (nxt ts) m).length:Int))) (h_6:n-xs.length-1+(landsF (nxt ts) m).length=2->∀ H',Same H H'->Q .non H'):SpCFR CX vs H Q E
def spCF (CX:Addr):Sp:=fun vs H Q E=>SpCFR CX vs H Q E
theorem ok_cf (F:Fun K "check_flat" "check_flat" s_check_flat f fd) (G:FnOk P w K mg base CX0 3 g gd ["turns"] spRings) (bG:Binds K gd ["turns"] []) (kG:PySem.W.keepIn K (.ref g)=true) (mG:mg "rings" = some (.ref g)) (ml:mg "len" = none)
  (GI:FnOk P w K mg base CX0 1 fI dI ["self","lands"] (sp1 CX "lands")) (bI:Binds K dI ["self","lands"] []) (iI:PySem.W.isFn K (.ref fI)=true) (mC:mg "NotFlat" = some (.ref CX)) (xC:excI K CX bmV "ValueError.__new__" fI=true):FnOk P w K mg base (CXr P w) 4 f fd ["places","ropes","turns"] (spCF CX):=by
 refine okX F scFl (fun vs H Q E h=>?_) (fun cdv A outer s H vs Q E hr h=>?_)
 ·obtain ⟨n,a,b,xs,m,ts,rfl,_⟩:=h
  rfl
 obtain ⟨n,a,b,xs,m,ts,rfl,ha,⟨bs,hb,hB⟩,T,hm,qE,q⟩:=h
 refine ⟨_,pss_cons (ps_set (i:=3) scFl.nd rfl (Or.inl rfl) (pe_callB (callLen (K:=K)) (by rfl) ml bt_len (pa_cons (pe_call G hr (by rfl) mG kG bG .nil pass0 (pa_cons (pv 2) pa_nil)) pa_nil)))
  (pss_one (ps_if (pt_cmpR op_ne (pe_op op_add (pe_op op_sub (pe_op op_sub (pv 0) (pe_callB (callLen (K:=K)) (by rfl) ml bt_len (pa_cons (pv 1) pa_nil))) pe_int) (pv 3)) pe_int (nomark _)) (pss_one (ps_raiseI (by rfl) mC xC PySem.F.excBase_ValueError rfl raise_outI GI (hr.mono (by decide)) bI iI (pa_cons (pv 3) pa_nil))) pss_nil)),?_⟩
 refine ⟨_,rfl,b,bs,ts,m,rfl,⟨hb,hB⟩,T,hm,fun p cs H1 s1 _ hp hR=>?_⟩
 refine ⟨p,_,rfl,.inr (SqT.of hp),?_⟩
 refine ⟨_,rfl,_,rfl,a,_,rfl,.inr (SqT.of (s1 _ _ ha)),_,_,rfl,rfl,_,_,rfl,rfl,_,rfl,_,_,rfl,rfl,rfl,_,rfl,?_⟩
 rw [List.length_map,hR.1]
 by_cases z:n-xs.length-1+(landsF (nxt ts) m).length=2
 ·exact iteNS (iv z) (q z _ s1)
 ·exact iteNN (ivn z) ⟨_,rfl,rz1 ((qE z).mono s1)⟩
end
end My
namespace My
open PySem L2 Mth
inductive ShF
 | net (w:Str)
 | rope (k:Nat) (w:Str)
 | turn (p:Nat)
 | loose (p:Nat)
 | flat (l:Nat)
 | told
def stF:ShF->Nat
 | .net _=>0
 | .rope _ _=>1
 | .turn _=>2
 | .loose _=>3
 | .flat _=>4
 | .told=>5
def lndN (rs:List Raw) (ts:List (List Int)):Nat:=(landsF (nxt ts) (2*rs.length+2)).length
def stP (n:Int) (rs:List Raw) (ts:List (List Int)):Nat->Prop
 | 0=>(2≤n∧n≤15)∧1≤rs.length∧rs.length≤14
 | 1=>∀ r∈rs,okRp n r
 | 2=>(∀ p,p<n.toNat->tOk (rs.map toRp) ts p)∧ts.length≤n.toNat
 | 3=>∀ p,p<n.toNat->Rch (rs.map toRp) p
 | 4=>n-rs.length-1+lndN rs ts=2
 | _=>False
def detP (n:Int) (rs:List Raw) (ts:List (List Int)):ShF->Prop
 | .net w=>w=if 2≤n∧n≤15 then "ropes" else "places"
 | .rope k w=>∃ r,rs[k]?=some r∧¬ okRp n r∧(∀ (j:Nat) r',j<k->rs[j]?=some r'->okRp n r')∧w=if okPl n r then "ease" else "place"
 | .turn p=>(p<n.toNat∧¬ tOk (rs.map toRp) ts p∧∀ i,i<p->tOk (rs.map toRp) ts i)∨((∀ i,i<n.toNat->tOk (rs.map toRp) ts i)∧p=n.toNat)
 | .loose p=>p<n.toNat∧¬ Rch (rs.map toRp) p∧∀ i,i<p->Rch (rs.map toRp) i
 | .flat l=>l=lndN rs ts
 | .told=>True
structure DueP (n:Int) (rs:List Raw) (ts:List (List Int)) (d:ShF):Prop where
 ups:∀ i,i<stF d->stP n rs ts i
 at_:¬ stP n rs ts (stF d)
 det:detP n rs ts d
theorem due_uniq {n:Int} {rs:List Raw} {ts:List (List Int)} {d e:ShF} (hd:DueP n rs ts d) (he:DueP n rs ts e):d=e:=by
 have es:stF d=stF e:=by
  rcases Nat.lt_trichotomy (stF d) (stF e) with z | z | z
  ·exact absurd (he.ups _ z) hd.at_
  ·exact z
  ·exact absurd (hd.ups _ z) he.at_
 obtain ⟨_,_,h⟩:=hd
 obtain ⟨_,_,g⟩:=he
 match d,e,es,h,g with
 | .net w,.net w',_,h,g=>rw [show w=w' from h.trans g.symm]
 | .rope k w,.rope k' w',_,⟨r,h1,h2,h3,h4⟩,⟨r',g1,g2,g3,g4⟩ =>
  rcases Nat.lt_trichotomy k k' with z | z | z
  ·exact absurd (g3 k r z h1) h2
  ·subst z
   rw [h1] at g1
   cases g1
   rw [h4,g4]
  ·exact absurd (h3 k' r' z g1) g2
 | .turn p,.turn p',_,h,g =>
  rcases h with ⟨h1,h2,h3⟩ | ⟨h1,h2⟩ <;> rcases g with ⟨g1,g2,g3⟩ | ⟨g1,g2⟩
  ·rcases Nat.lt_trichotomy p p' with z | z | z
   ·exact absurd (g3 p z) h2
   ·rw [z]
   ·exact absurd (h3 p' z) g2
  ·exact absurd (g1 p h1) h2
  ·exact absurd (h1 p' g1) g2
  ·rw [h2,g2]
 | .loose p,.loose p',_,⟨h1,h2,h3⟩,⟨g1,g2,g3⟩ =>
  rcases Nat.lt_trichotomy p p' with z | z | z
  ·exact absurd (g3 p z) h2
  ·rw [z]
  ·exact absurd (h3 p' z) g2
 | .flat l,.flat l',_,h,g=>rw [show l=l' from h.trans g.symm]
 | .told,.told,_,_,_=>rfl
theorem ups0 {n:Int} {rs:List Raw} {ts:List (List Int)}:∀ i,i<0->stP n rs ts i:=fun i h=>absurd h (Nat.not_lt_zero i)
theorem ups_s {n:Int} {rs:List Raw} {ts:List (List Int)} {k:Nat} (h:∀ i,i<k->stP n rs ts i) (hk:stP n rs ts k):∀ i,i<k+1->stP n rs ts i:=fun i hi=>by
 rcases Nat.lt_or_ge i k with z | z
 ·exact h i z
 ·obtain rfl:i=k:=by omega
  exact hk
theorem hm0_lt {n:Nat}:∀ {rs:List Rope},(∀ r∈rs,r.1<n∧r.2.1<n)->∀ p∈hm0 rs,p<n
 | [],_,p,hp=>by cases hp
 | r :: rs,h,p,hp=>by
  have hp':p∈r.1 :: r.2.1 :: hm0 rs:=hp
  rcases List.mem_cons.mp hp' with z | z
  ·rw [z]; exact (h r (List.mem_cons_self ..)).1
  rcases List.mem_cons.mp z with z | z
  ·rw [z]; exact (h r (List.mem_cons_self ..)).2
  ·exact hm0_lt (fun r hr=>h r (List.mem_cons_of_mem _ hr)) p z
theorem hm_lt {n:Nat} {rs:List Rope} (n2:2≤n) (h:∀ r∈rs,r.1<n∧r.2.1<n) {x p:Nat} (e:(hm rs)[x]?=some p):p<n:=by
 have:=List.mem_of_getElem? e
 unfold hm at this
 rcases List.mem_append.mp this with z | z
 ·exact hm0_lt h p z
 ·simp at z
  omega
theorem turns_of {n:Nat} {rs:List Rope} {ts:List (List Int)} (n2:2≤n) (hrs:∀ r∈rs,r.1<n∧r.2.1<n) (ok:∀ p,p<n->tOk rs ts p) (hl:ts.length≤n):Turns (2*rs.length+2) ts:=by
 have at':∀ {p:Nat} {t:List Int},ts[p]?=some t->t.Perm (endsL (hm rs) p):=fun {p t} h=>by
  have:=ok p (by have:=(List.getElem?_eq_some_iff.mp h).1; omega)
  unfold tOk at this
  rw [List.getD_eq_getElem?_getD,h] at this
  exact this
 have ln:=hm_len rs
 refine ⟨?_,fun x=>?_,by omega⟩
 ·show List.Pairwise (·≠·) ts.flatten
  rw [List.pairwise_flatten]
  refine ⟨fun t ht=>?_,?_⟩
  ·obtain ⟨p,hp⟩:=List.mem_iff_getElem?.mp ht
   exact (at' hp).nodup_iff.mpr ((endsL_lt (hm rs) p).imp fun h=>Int.ne_of_lt h)
  ·rw [List.pairwise_iff_getElem]
   intro i j hi hj ij
   have ei:=at' (List.getElem?_eq_getElem hi)
   have ej:=at' (List.getElem?_eq_getElem hj)
   rintro x hx _ hy rfl
   obtain ⟨_,h1⟩:=mem_endsL.mp (ei.mem_iff.mp hx)
   obtain ⟨_,h2⟩:=mem_endsL.mp (ej.mem_iff.mp hy)
   rw [h1] at h2
   cases h2
   omega
 ·rw [List.mem_flatten]
  constructor
  ·rintro ⟨t,ht,hx⟩
   obtain ⟨p,hp⟩:=List.mem_iff_getElem?.mp ht
   obtain ⟨h0,h1⟩:=mem_endsL.mp ((at' hp).mem_iff.mp hx)
   have:=(List.getElem?_eq_some_iff.mp h1).1
   exact ⟨h0,by omega⟩
  ·rintro ⟨h0,h1⟩
   have hx:x.toNat<(hm rs).length:=by omega
   have he:(hm rs)[x.toNat]?=some (hm rs)[x.toNat]:=List.getElem?_eq_getElem hx
   generalize (hm rs)[x.toNat]=p at he
   have pn:=hm_lt n2 hrs he
   have hm':=(ok p pn).mem_iff.mpr (mem_endsL.mpr ⟨h0,he⟩)
   cases hq:ts[p]? with
   | none =>
    rw [List.getD_eq_getElem?_getD,hq] at hm'
    cases hm'
   | some t =>
    rw [List.getD_eq_getElem?_getD,hq] at hm'
    exact ⟨t,List.mem_of_getElem? hq,hm'⟩
theorem ends_ne {n:Nat} {rs:List Rope} (hg:∀ p,p<n->Rch rs p) {p:Nat} (pn:p<n):endsL (hm rs) p≠[]:=by
 have fin:∀ x:Nat,(hm rs)[x]?=some p->endsL (hm rs) p≠[]:=fun x h=>List.ne_nil_of_mem (a:=(x:Int)) (mem_endsL.mpr ⟨by omega,by rw [Int.toNat_natCast]; exact h⟩)
 obtain ⟨o0,o1⟩:=hm_out rs
 by_cases p0:p=0
 ·exact fin _ (by rw [o0,p0])
 by_cases p1:p=1
 ·exact fin _ (by rw [o1,p1])
 have:∃ r∈rs,r.1=p∨r.2.1=p:=Classical.byContradiction fun z=>by
  refine hg p pn (fun q=>q≠p) (Ne.symm p0) (fun r hr=>?_) rfl
  have a:r.1≠p:=fun e=>z ⟨r,hr,.inl e⟩
  have b:r.2.1≠p:=fun e=>z ⟨r,hr,.inr e⟩
  exact ⟨fun _=>b,fun _=>a⟩
 obtain ⟨r,hr,hrp⟩:=this
 obtain ⟨i,hi⟩:=List.mem_iff_getElem?.mp hr
 obtain ⟨g1,g2⟩:=hm_at hi
 rcases hrp with e | e
 ·exact fin _ (by rw [g1,e])
 ·exact fin _ (by rw [g2,e])
theorem told_len {n:Nat} {rs:List Rope} {ts:List (List Int)} (hg:∀ p,p<n->Rch rs p) (ok:∀ p,p<n->tOk rs ts p) (hl:ts.length≤n):ts.length=n∧∀ t∈ts,t≠[]:=by
 have ne:∀ p,p<n->ts.getD p []≠[]:=fun p pn z=>by
  have:=ok p pn
  unfold tOk at this
  rw [z] at this
  exact ends_ne hg pn this.nil_eq.symm
 constructor
 ·refine Nat.le_antisymm hl (Nat.not_lt.mp fun z=>ne ts.length z ?_)
  rw [List.getD_eq_getElem?_getD,List.getElem?_eq_none (Nat.le_refl _)]
  rfl
 ·intro t ht
  obtain ⟨p,hp⟩:=List.mem_iff_getElem?.mp ht
  have:=ne p (by have:=(List.getElem?_eq_some_iff.mp hp).1; omega)
  rw [List.getD_eq_getElem?_getD,hp] at this
  exact this
end My
namespace My
open PySem L2 Mth
def resF (CN CR CT CL CX:Addr) (H:Hp) (Q:VK) (E:XK) (n:Int) (a:Addr) (ts:List (List Int)):ShF->Prop
 | .net w=>X1 CN "word" H E (.str w)
 | .rope k w=>NRo CR H E (k:Int) w
 | .turn p=>X1 CT "place" H E (.int (p:Int))
 | .loose p=>X1 CL "place" H E (.int (p:Int))
 | .flat l=>X1 CX "lands" H E (.int (l:Int))
 | .told=>∀ p c H',Same H H'->H' p=some (.tup [.int n,.ref a,.ref c])->TupR IntsT H' c (ts.map begL)->Q (.ref p) H'
section
variable {P:Program} {w:World} {K:PySem.W.Frag} {mg:Str->Option Value} {base:Heap} {f g h f1 f2 f3 f4 f5 f6 fI C CN CR CT CL CX:Addr} {fd gd hd d1 d2 d3 d4 d5 d6 dI:FuncData}
inductive SpCkR (CN CR CT CL CX:Addr) (vs:List V) (H:Hp) (Q:VK) (E:XK):Prop
 | mk (n:Int) (a b:Addr) (rs:List Raw) (ts:List (List Int)) (h_0:vs=[.int n,.ref a,.ref b]) (h_1:TupR RawR H a rs) (h_2:TupR IntsT H b ts) (h_3:∀ t∈ts,t.length<64) (h_4:∀ d,DueP n rs ts d->resF CN CR CT CL CX H Q E n a ts d):SpCkR CN CR CT CL CX vs H Q E
def spCk (CN CR CT CL CX:Addr):Sp:=fun vs H Q E=>SpCkR CN CR CT CL CX vs H Q E
set_option maxHeartbeats 4000000 in
theorem ok_ck (F:Fun K "checked" "checked" s_checked f fd) (G1:FnOk P w K mg base (CXr P w) 3 f1 d1 ["places","ropes"] (spCN CN)) (b1:Binds K d1 ["places","ropes"] []) (k1:PySem.W.keepIn K (.ref f1)=true) (m1:mg "check_numbers" = some (.ref f1))
  (G2:FnOk P w K mg base (CXr P w) 3 f2 d2 ["places","number","rope"] (spCR CR)) (b2:Binds K d2 ["places","number","rope"] []) (k2:PySem.W.keepIn K (.ref f2)=true) (m2:mg "check_rope" = some (.ref f2))
  (G3:FnOk P w K mg base (CXr P w) 3 f3 d3 ["places","ropes","turns"] (spCT CT)) (b3:Binds K d3 ["places","ropes","turns"] []) (k3:PySem.W.keepIn K (.ref f3)=true) (m3:mg "check_turns" = some (.ref f3))
  (G4:FnOk P w K mg base (CXr P w) 3 f4 d4 ["places","ropes"] (spHg CL)) (b4:Binds K d4 ["places","ropes"] []) (k4:PySem.W.keepIn K (.ref f4)=true) (m4:mg "check_hanging" = some (.ref f4))
  (G5:FnOk P w K mg base (CXr P w) 4 f5 d5 ["places","ropes","turns"] (spCF CX)) (b5:Binds K d5 ["places","ropes","turns"] []) (k5:PySem.W.keepIn K (.ref f5)=true) (m5:mg "check_flat" = some (.ref f5))
  (G6:FnOk P w K mg base CX0 2 f6 d6 ["turns"] spTold) (b6:Binds K d6 ["turns"] []) (k6:PySem.W.keepIn K (.ref f6)=true) (m6:mg "told_turns" = some (.ref f6)) (me:mg "enumerate" = none) :
  FnOk P w K mg base (CXr P w) 5 f fd ["places","ropes","turns"] (spCk CN CR CT CL CX):=by
 refine okX F scCk (fun vs H Q E h=>?_) (fun cdv A outer s H vs Q E hr h=>?_)
 ·obtain ⟨n,a,b,rs,ts,rfl,_⟩:=h
  rfl
 obtain ⟨n,a,b,rs,ts,rfl,hR,hT,htl,q⟩:=h
 have r3:=hr.mono (show 3≤4 by decide)
 refine ⟨_,pss_cons (ps_expr (pe_call (CX:=CXr P w) (E:=E) G1 r3 (by rfl) m1 k1 b1 .nil pass_out (pa_cons (pv 0) (pa_cons (pv 1) pa_nil))))
  (pss_cons (ps_for PassesOwn.leaving rfl (pi_enum (by rfl) me (pa_cons (pv 1) pa_nil)) (pgTup (n:=2) (K:=K) rfl (pgs_cons (pg_name (i:=3) scCk.nd rfl (Or.inl rfl)) (pgs_cons (pg_name (i:=4) scCk.nd rfl (Or.inl rfl)) pgs_nil)))
   (pss_one (ps_expr (pe_call (CX:=CXr P w) (E:=E) G2 r3 (by rfl) m2 k2 b2 .nil pass_out (pa_cons (pv 0) (pa_cons (pv 3) (pa_cons (pv 4) pa_nil)))))))
  (pss_cons (ps_expr (pe_call (CX:=CXr P w) (E:=E) G3 r3 (by rfl) m3 k3 b3 .nil pass_out (pa_cons (pv 0) (pa_cons (pv 1) (pa_cons (pv 2) pa_nil)))))
  (pss_cons (ps_expr (pe_call (CX:=CXr P w) (E:=E) G4 r3 (by rfl) m4 k4 b4 .nil pass_out (pa_cons (pv 0) (pa_cons (pv 1) pa_nil))))
  (pss_cons (ps_expr (pe_call (CX:=CXr P w) (E:=E) G5 hr (by rfl) m5 k5 b5 .nil pass_out (pa_cons (pv 0) (pa_cons (pv 1) (pa_cons (pv 2) pa_nil)))))
  (pss_one (ps_ret (pe_tup (pa_cons (pv 0) (pa_cons (pv 1) (pa_cons (pe_call G6 (hr.mono (by decide)) (by rfl) m6 k6 b6 .nil pass0 (pa_cons (pv 2) pa_nil)) pa_nil)))))))))),?_⟩
 obtain ⟨bs,ha,hB⟩:=id hR
 have lbs:(bs.map V.ref).length=rs.length:=by rw [List.length_map,hB.1]
 refine ⟨_,rfl,_,rfl,n,a,_,rfl,ha,fun n2 n15 l1 l14=>?_,fun z=>?_,fun n2 n15 z=>?_⟩
 rotate_left
 ·exact q (.net "places") ⟨ups0,fun y=>z y.1,by show ("places":Str)=_; rw [if_neg z]⟩
 ·rw [lbs] at z
  exact q (.net "ropes") ⟨ups0,fun y=>z y.2,by show ("ropes":Str)=_; rw [if_pos ⟨n2,n15⟩]⟩
 rw [lbs] at l1 l14
 have U1:∀ i,i<1->stP n rs ts i:=ups_s ups0 ⟨⟨n2,n15⟩,l1,l14⟩
 dsimp only
 refine seq_hide fun UL hUL=>?_
 refine ⟨_,rfl,a,_,rfl,ha,?_⟩
 refine for_enum (xs:=bs.map V.ref) (fun i σ H2=>(∃ u v,σ=[some (.int n),some (.ref a),some (.ref b),u,v])∧Same H H2∧∀ (j:Nat) r,j<i->rs[j]?=some r->okRp n r) ⟨⟨none,none,rfl⟩,Same.refl _,fun j r h=>by omega⟩ (fun i σ H2 _ ⟨_,s2,_⟩=>s2 _ _ ha) ?_ ?_
 ·rintro i x σ H2 p2 hx ⟨⟨u,v,rfl⟩,s2,hj⟩ hp2
  obtain ⟨c,r,rfl,_,hy,hc⟩:=hB.ref hx
  have s3:=s2.trans (same_new hp2 (.tup [.int i,.ref c]))
  refine ⟨p2,_,rfl,SqT.of upd_same,rfl,_,_,rfl,_,_,rfl,rfl,?_⟩
  generalize upd H2 p2 (.tup [.int i,.ref c])=H3 at s3
  have nok:¬ okRp n r->¬ stP n rs ts 1:=fun z y=>z (y r (List.mem_of_getElem? hy))
  refine ⟨_,rfl,_,rfl,_,rfl,n,(i:Int),c,r,rfl,mo_raw s3 hc,fun ok H4 s4=>⟨⟨_,_,rfl⟩,s3.trans s4,fun j r' h1 h2=>?_⟩,fun z=>?_,fun z1 z2=>?_⟩
  ·rcases Nat.lt_or_ge j i with y | y
   ·exact hj j r' y h2
   ·obtain rfl:j=i:=by omega
    rw [hy] at h2
    cases h2
    exact ok
  ·have nz:¬ okRp n r:=fun y=>z y.1
   exact (show NRo CR H E (i:Int) "place" from q (.rope i "place") ⟨U1,nok nz,r,hy,nz,hj,by rw [if_neg z]⟩).mono s3
  ·have nz:¬ okRp n r:=fun y=>z2 y.2
   exact (show NRo CR H E (i:Int) "ease" from q (.rope i "ease") ⟨U1,nok nz,r,hy,nz,hj,by rw [if_pos z1]⟩).mono s3
 rintro σ H2 ⟨⟨u,v,rfl⟩,s2,hj⟩
 subst hUL
 have okA:∀ r∈rs,okRp n r:=fun r hr=>by
  obtain ⟨i,hi⟩:=List.mem_iff_getElem?.mp hr
  exact hj i r (by rw [lbs]; exact (List.getElem?_eq_some_iff.mp hi).1) hi
 have U2:∀ i,i<2->stP n rs ts i:=ups_s U1 okA
 obtain ⟨N,rfl⟩:=Int.eq_ofNat_of_zero_le (show 0≤n by omega)
 have eN:((N:Nat):Int).toNat=N:=Int.toNat_natCast N
 have hRp:=raws_ropes hR okA
 have hrs:∀ r∈rs.map toRp,r.1<N∧r.2.1<N:=fun r hr=>by
  obtain ⟨r',hr',rfl⟩:=List.mem_map.mp hr
  obtain ⟨⟨⟨a1,a2⟩,a3,a4⟩,_⟩:=okA r' hr'
  exact ⟨by show r'.1.toNat<N; omega,by show r'.2.1.toNat<N; omega⟩
 have lm:(rs.map toRp).length=rs.length:=List.length_map ..
 refine ⟨_,rfl,_,rfl,_,rfl,N,a,b,rs.map toRp,ts,rfl,by omega,by omega,by rw [lm]; exact l14,mo_rr s2 hRp,hrs,mo_tt s2 hT,htl,fun ok tl H3 s3=>?_,fun p pn z zs=>?_,fun ok z=>?_⟩
 rotate_left
 ·exact (show X1 CT "place" H E (.int (p:Int)) from q (.turn p) ⟨U2,fun y=>z (y.1 p (by rw [eN]; exact pn)),.inl ⟨by rw [eN]; exact pn,z,zs⟩⟩).mono s2
 ·exact (show X1 CT "place" H E (.int (N:Int)) from q (.turn N) ⟨U2,fun y=>by have:=y.2; rw [eN] at this; omega,.inr ⟨fun i hi=>ok i (by rw [eN] at hi; exact hi),eN.symm⟩⟩).mono s2
 have U3:∀ i,i<3->stP (N:Int) rs ts i:=ups_s U2 ⟨fun p hp=>ok p (by rw [eN] at hp; exact hp),by rw [eN]; exact tl⟩
 have s03:=s2.trans s3
 have TT:=turns_of (by omega) hrs ok tl
 rw [lm] at TT
 refine ⟨_,rfl,_,rfl,N,a,rs.map toRp,rfl,by omega,by omega,mo_rr s03 hRp,hrs,fun hg H4 s4=>?_,fun p d H4 pn nr hi s4 hd=>?_⟩
 rotate_left
 ·exact (show X1 CL "place" H E (.int (p:Int)) from q (.loose p) ⟨U3,fun y=>nr (y p (by rw [eN]; exact pn)),by rw [eN]; exact pn,nr,hi⟩) d H4 (s03.trans s4) hd
 have U4:∀ i,i<4->stP (N:Int) rs ts i:=ups_s U3 fun p hp=>hg p (by rw [eN] at hp; exact hp)
 have s04:=s03.trans s4
 refine ⟨_,rfl,_,rfl,_,rfl,(N:Int),a,b,_,2*rs.length+2,ts,rfl,s04 _ _ ha,mo_tt s04 hT,TT,by omega,fun z=>?_,fun z H5 s5=>?_⟩
 ·rw [lbs] at z
  exact (show X1 CX "lands" H E (.int (lndN rs ts:Int)) from q (.flat (lndN rs ts)) ⟨U4,z,rfl⟩).mono s04
 rw [lbs] at z
 have U5:∀ i,i<5->stP (N:Int) rs ts i:=ups_s U4 z
 have s05:=s04.trans s5
 obtain ⟨tn,tne⟩:=told_len hg ok tl
 refine ⟨_,rfl,_,rfl,_,rfl,b,ts,rfl,mo_tt s05 hT,by omega,fun t ht=>⟨tne t ht,by have:=htl t ht; omega⟩,fun c H6 s6 hc=>?_⟩
 refine ⟨by show 3≤sizeLine; decide,fun p hp=>?_⟩
 have s7:=same_new hp (.tup [.int (N:Int),.ref a,.ref c])
 exact q .told ⟨U5,fun y=>y,trivial⟩ p c _ (s05.trans (s6.trans s7)) upd_same (mo_tt s7 hc)
end
end My
namespace My
open PySem L2 Mth
section
variable {P:Program} {w:World} {K:PySem.W.Frag} {mg:Str->Option Value} {base:Heap} {f CN CR CT CL CX:Addr} {fd:FuncData}
def ssF (CN CR CT CL CX:Addr) (sp:Hp->VK->XK->Prop) (f:Addr) (H:Hp) (Q:VK):Prop:=sp H (fun v H1=>∀ p H',Same H1 H'->H' p=some (.tup [.str "told",v])->Q (.ref p) H')
 (fun cls od H1=>∃ d,od=some d∧((cls=.ref CN∧∃ y,H1 d=some (.xd [("word",y)])∧∀ p H',Same H1 H'->H' p=some (.tup [.str "net",y])->Q (.ref p) H') ∨
  (cls=.ref CR∧∃ r y,H1 d=some (.xd [("word",y),("rope",r)])∧∀ p H',Same H1 H'->H' p=some (.tup [.str "rope",r,y])->Q (.ref p) H') ∨
  (cls=.ref CT∧∃ y,H1 d=some (.xd [("place",y)])∧∀ p H',Same H1 H'->H' p=some (.tup [.str "turn",y])->Q (.ref p) H') ∨
  (cls=.ref CL∧∃ y,H1 d=some (.xd [("place",y)])∧∀ p H',Same H1 H'->H' p=some (.tup [.str "loose",y])->Q (.ref p) H') ∨
  (cls=.ref CX∧∃ y,H1 d=some (.xd [("lands",y)])∧∀ p H',Same H1 H'->H' p=some (.tup [.str "flat",y])->Q (.ref p) H')))
theorem scSd:FnScope ["_law_ask","_law_caught","_law_found","e"] ["_law_ask"] (defScope s_law_said):=⟨rfl,rfl,rfl,by decide +kernel,rfl,by decide +kernel,by decide +kernel⟩
theorem bt_ValueError:bootBuiltins "ValueError" = some (.type "ValueError"):=by decide +kernel
structure Kits (K:PySem.W.Frag) (C CN CR CT CL CX:Addr) (b1 b2 b3 b4 b5:Bool):Prop where
 v:PySem.W.kitOne K (.ref C) (.type "ValueError")=some true
 n:PySem.W.kitOne K (.ref C) (.ref CN)=some b1
 r:PySem.W.kitOne K (.ref C) (.ref CR)=some b2
 t:PySem.W.kitOne K (.ref C) (.ref CT)=some b3
 l:PySem.W.kitOne K (.ref C) (.ref CL)=some b4
 x:PySem.W.kitOne K (.ref C) (.ref CX)=some b5
set_option maxHeartbeats 4000000 in
theorem ok_said {CF:Addr} {j:Nat} (F:Fun K "_law_said" "_law_said" s_law_said f fd) (mF:mg "FloorError" = some (.ref CF)) (mN:mg "NoNet" = some (.ref CN)) (mR:mg "NoRope" = some (.ref CR)) (mT:mg "NoTurn" = some (.ref CT)) (mL:mg "Loose" = some (.ref CL)) (mX:mg "NotFlat" = some (.ref CX)) (ms:mg "isinstance" = none) (mv:mg "ValueError" = none)
  (xN:PySem.W.exmOne K (.ref CN) (.ref CF)=some true) (xR:PySem.W.exmOne K (.ref CR) (.ref CF)=some true) (xT:PySem.W.exmOne K (.ref CT) (.ref CF)=some true) (xL:PySem.W.exmOne K (.ref CL) (.ref CF)=some true) (xX:PySem.W.exmOne K (.ref CX) (.ref CF)=some true)
  (kN:Kits K CN CN CR CT CL CX true false false false false) (kR:Kits K CR CN CR CT CL CX false true false false false) (kT:Kits K CT CN CR CT CL CX false false true false false) (kL:Kits K CL CN CR CT CL CX false false false true false) (kX:Kits K CX CN CR CT CL CX false false false false true)
  (gN:XGet K CN "word") (gR1:XGet K CR "rope") (gR2:XGet K CR "word") (gT:XGet K CT "place") (gL:XGet K CL "place") (gX:XGet K CX "lands") :
  AskOk P w K mg base j (j+1) f fd ["_law_ask"] (ssF CN CR CT CL CX):=by
 obtain ⟨oc,od,kV,doc,pm,an,cdv,ct,osl,rfl,lk,hcd⟩:=F.ex
 refine ⟨fun A outer s H lam sp Q hr e0 LO hs hb=>?_⟩
 refine fn_at (k:=j) lk hcd scSd (vs:=[.ref lam]) (us:=[.ref lam]) rfl hr e0 hb (.cons rfl .nil) fun hr'=>?_
 refine ⟨_,pss_cons (ps_set (i:=1) scSd.nd rfl (Or.inl rfl) pe_non)
  (pss_cons (ps_set (i:=2) scSd.nd rfl (Or.inl rfl) pe_non)
  (pss_cons (ps_try (i:=3) scSd.nd rfl rfl (by rfl) mF rfl rfl (pxs_set (i:=2) scSd.nd rfl (Or.inl rfl) (px_ask LO rfl hr' (pv 0))) (fun a=>pss_one (ps_set (i:=1) scSd.nd rfl (Or.inl rfl) (pv 3))))
  (pss_cons (ps_if (pt_cmpR op_isN (pv 1) pe_non (nomark _)) (pss_one (ps_ret (pe_tup (pa_cons pe_str (pa_cons (pv 2) pa_nil))))) pss_nil)
  (pss_cons (ps_if (pt_not (pt_val (pe_callB (call_isiE (c:=.ty "ValueError") (cv:=.type "ValueError") fun _ z=>z) (by rfl) ms bt_isinstance (pa_cons (pv 1) (pa_cons (pe_bltn (v:=.ty "ValueError") (by rfl) mv bt_ValueError rfl) pa_nil))))) pss_never pss_nil)
  (pss_cons (ps_if (pt_val (pe_callB (call_isiE (c:=.ref CN) (cv:=.ref CN) fun _ z=>z) (by rfl) ms bt_isinstance (pa_cons (pv 1) (pa_cons (pe_glob (v:=.ref CN) (by rfl) mN rfl) pa_nil)))) (pss_one (ps_ret (pe_tup (pa_cons pe_str (pa_cons (pe_fldX (pv 1) rfl) pa_nil))))) pss_nil)
  (pss_cons (ps_if (pt_val (pe_callB (call_isiE (c:=.ref CR) (cv:=.ref CR) fun _ z=>z) (by rfl) ms bt_isinstance (pa_cons (pv 1) (pa_cons (pe_glob (v:=.ref CR) (by rfl) mR rfl) pa_nil)))) (pss_one (ps_ret (pe_tup (pa_cons pe_str (pa_cons (pe_fldX (pv 1) rfl) (pa_cons (pe_fldX (pv 1) rfl) pa_nil)))))) pss_nil)
  (pss_cons (ps_if (pt_val (pe_callB (call_isiE (c:=.ref CT) (cv:=.ref CT) fun _ z=>z) (by rfl) ms bt_isinstance (pa_cons (pv 1) (pa_cons (pe_glob (v:=.ref CT) (by rfl) mT rfl) pa_nil)))) (pss_one (ps_ret (pe_tup (pa_cons pe_str (pa_cons (pe_fldX (pv 1) rfl) pa_nil))))) pss_nil)
  (pss_cons (ps_if (pt_val (pe_callB (call_isiE (c:=.ref CL) (cv:=.ref CL) fun _ z=>z) (by rfl) ms bt_isinstance (pa_cons (pv 1) (pa_cons (pe_glob (v:=.ref CL) (by rfl) mL rfl) pa_nil)))) (pss_one (ps_ret (pe_tup (pa_cons pe_str (pa_cons (pe_fldX (pv 1) rfl) pa_nil))))) pss_nil)
  (pss_cons (ps_if (pt_val (pe_callB (call_isiE (c:=.ref CX) (cv:=.ref CX) fun _ z=>z) (by rfl) ms bt_isinstance (pa_cons (pv 1) (pa_cons (pe_glob (v:=.ref CX) (by rfl) mX rfl) pa_nil)))) (pss_one (ps_ret (pe_tup (pa_cons pe_str (pa_cons (pe_fldX (pv 1) rfl) pa_nil))))) pss_nil)
  pss_never))))))))),?_⟩
 refine ⟨_,rfl,rfl,LO.mono _ _ _ _ _ (fun v H1 q=>?_) (fun cls od H1 q=>?_) hs⟩
 ·refine ⟨_,rfl,rfl,_,rfl,iteT ?_⟩
  exact ⟨_,rfl,by show 2≤sizeLine; decide,fun p hp=>q p _ (same_new hp _) upd_same⟩
 obtain ⟨d,rfl,q⟩:=q
 rcases q with ⟨rfl,y,hd,q⟩ | ⟨rfl,r,y,hd,q⟩ | ⟨rfl,y,hd,q⟩ | ⟨rfl,y,hd,q⟩ | ⟨rfl,y,hd,q⟩
 ·refine ⟨xN,fun e he=>?_⟩
  have s2:=same_new he (excO e (.ref CN) (some d))
  have e2:(upd H1 e (excO e (.ref CN) (some d))) e=some (excO e (.ref CN) (some d)):=upd_same
  have hd2:=s2 _ _ hd
  generalize upd H1 e (excO e (.ref CN) (some d))=H2 at s2 e2 hd2
  refine ⟨_,rfl,?_⟩
  refine ⟨_,rfl,rfl,_,rfl,iteF ?_⟩
  refine ⟨_,rfl,e,CN,some d,true,rfl,e2,gN.c,kN.v,_,rfl,iteF ?_⟩
  refine ⟨_,rfl,e,CN,some d,true,rfl,e2,gN.c,kN.n,_,rfl,iteT ?_⟩
  exact ⟨_,rfl,e,CN,d,_,_,rfl,e2,hd2,gN,rfl,by show 2≤sizeLine; decide,fun p hp=>q p _ (s2.trans (same_new hp _)) upd_same⟩
 ·refine ⟨xR,fun e he=>?_⟩
  have s2:=same_new he (excO e (.ref CR) (some d))
  have e2:(upd H1 e (excO e (.ref CR) (some d))) e=some (excO e (.ref CR) (some d)):=upd_same
  have hd2:=s2 _ _ hd
  generalize upd H1 e (excO e (.ref CR) (some d))=H2 at s2 e2 hd2
  refine ⟨_,rfl,?_⟩
  refine ⟨_,rfl,rfl,_,rfl,iteF ?_⟩
  refine ⟨_,rfl,e,CR,some d,true,rfl,e2,gR1.c,kR.v,_,rfl,iteF ?_⟩
  refine ⟨_,rfl,e,CR,some d,false,rfl,e2,gR1.c,kR.n,_,rfl,iteF ?_⟩
  refine ⟨_,rfl,e,CR,some d,true,rfl,e2,gR1.c,kR.r,_,rfl,iteT ?_⟩
  exact ⟨_,rfl,e,CR,d,_,_,rfl,e2,hd2,gR1,rfl,_,rfl,e,CR,d,_,_,rfl,e2,hd2,gR2,rfl,by show 3≤sizeLine; decide,fun p hp=>q p _ (s2.trans (same_new hp _)) upd_same⟩
 ·refine ⟨xT,fun e he=>?_⟩
  have s2:=same_new he (excO e (.ref CT) (some d))
  have e2:(upd H1 e (excO e (.ref CT) (some d))) e=some (excO e (.ref CT) (some d)):=upd_same
  have hd2:=s2 _ _ hd
  generalize upd H1 e (excO e (.ref CT) (some d))=H2 at s2 e2 hd2
  refine ⟨_,rfl,?_⟩
  refine ⟨_,rfl,rfl,_,rfl,iteF ?_⟩
  refine ⟨_,rfl,e,CT,some d,true,rfl,e2,gT.c,kT.v,_,rfl,iteF ?_⟩
  refine ⟨_,rfl,e,CT,some d,false,rfl,e2,gT.c,kT.n,_,rfl,iteF ?_⟩
  refine ⟨_,rfl,e,CT,some d,false,rfl,e2,gT.c,kT.r,_,rfl,iteF ?_⟩
  refine ⟨_,rfl,e,CT,some d,true,rfl,e2,gT.c,kT.t,_,rfl,iteT ?_⟩
  exact ⟨_,rfl,e,CT,d,_,_,rfl,e2,hd2,gT,rfl,by show 2≤sizeLine; decide,fun p hp=>q p _ (s2.trans (same_new hp _)) upd_same⟩
 ·refine ⟨xL,fun e he=>?_⟩
  have s2:=same_new he (excO e (.ref CL) (some d))
  have e2:(upd H1 e (excO e (.ref CL) (some d))) e=some (excO e (.ref CL) (some d)):=upd_same
  have hd2:=s2 _ _ hd
  generalize upd H1 e (excO e (.ref CL) (some d))=H2 at s2 e2 hd2
  refine ⟨_,rfl,?_⟩
  refine ⟨_,rfl,rfl,_,rfl,iteF ?_⟩
  refine ⟨_,rfl,e,CL,some d,true,rfl,e2,gL.c,kL.v,_,rfl,iteF ?_⟩
  refine ⟨_,rfl,e,CL,some d,false,rfl,e2,gL.c,kL.n,_,rfl,iteF ?_⟩
  refine ⟨_,rfl,e,CL,some d,false,rfl,e2,gL.c,kL.r,_,rfl,iteF ?_⟩
  refine ⟨_,rfl,e,CL,some d,false,rfl,e2,gL.c,kL.t,_,rfl,iteF ?_⟩
  refine ⟨_,rfl,e,CL,some d,true,rfl,e2,gL.c,kL.l,_,rfl,iteT ?_⟩
  exact ⟨_,rfl,e,CL,d,_,_,rfl,e2,hd2,gL,rfl,by show 2≤sizeLine; decide,fun p hp=>q p _ (s2.trans (same_new hp _)) upd_same⟩
 ·refine ⟨xX,fun e he=>?_⟩
  have s2:=same_new he (excO e (.ref CX) (some d))
  have e2:(upd H1 e (excO e (.ref CX) (some d))) e=some (excO e (.ref CX) (some d)):=upd_same
  have hd2:=s2 _ _ hd
  generalize upd H1 e (excO e (.ref CX) (some d))=H2 at s2 e2 hd2
  refine ⟨_,rfl,?_⟩
  refine ⟨_,rfl,rfl,_,rfl,iteF ?_⟩
  refine ⟨_,rfl,e,CX,some d,true,rfl,e2,gX.c,kX.v,_,rfl,iteF ?_⟩
  refine ⟨_,rfl,e,CX,some d,false,rfl,e2,gX.c,kX.n,_,rfl,iteF ?_⟩
  refine ⟨_,rfl,e,CX,some d,false,rfl,e2,gX.c,kX.r,_,rfl,iteF ?_⟩
  refine ⟨_,rfl,e,CX,some d,false,rfl,e2,gX.c,kX.t,_,rfl,iteF ?_⟩
  refine ⟨_,rfl,e,CX,some d,false,rfl,e2,gX.c,kX.l,_,rfl,iteF ?_⟩
  refine ⟨_,rfl,e,CX,some d,true,rfl,e2,gX.c,kX.x,_,rfl,iteT ?_⟩
  exact ⟨_,rfl,e,CX,d,_,_,rfl,e2,hd2,gX,rfl,by show 2≤sizeLine; decide,fun p hp=>q p _ (s2.trans (same_new hp _)) upd_same⟩
end
end My
namespace My
open PySem L2 Mth
theorem natV_eq (os:List Nat):natV os=(os.map fun l:Nat=>(l:Int)).map V.int:=by
 rw [List.map_map]
 rfl
theorem inV_nat (x:Nat) (l:List Nat):inV (.int (x:Int)) (natV l)=decide (x∈l):=by
 rw [natV_eq,inV_ints,Bool.eq_iff_iff,decide_eq_true_eq,decide_eq_true_eq,List.mem_map]
 constructor
 ·rintro ⟨y,hy,e⟩
  obtain rfl:y=x:=by omega
  exact hy
 ·exact fun h=>⟨x,h,rfl⟩
theorem flat_nat (l:List Nat):(natV l).all flatV=true:=by rw [natV_eq]; exact flat_ints _
section
variable {P:Program} {w:World} {K:PySem.W.Frag} {mg:Str->Option Value} {base:Heap} {f g h f1 f2 f3 f4 f5 fI:Addr} {fd gd hd d1 d2 d3 d4 d5 dI:FuncData}
inductive SpLsR (vs:List V) (H:Hp) (Q:VK):Prop
 | mk (n:Nat) (a:Addr) (rs:List Rope) (h_0:vs=[.int (n:Int),.ref a]) (h_1:0<n) (h_2:n≤15) (h_3:TupR RopeR H a rs) (h_4:rs.length≤14) (h_5:∀ r∈rs,r.1<n∧r.2.1<n) (h_6:(∀ p,p<n->Rch rs p)->∀ H',Same H H'->Q .non H') (h_7:∀ p,p<n->¬ Rch rs p->(∀ i,i<p->Rch rs i)->∀ o H',Same H H'->H' o=some (.tup [.str "loose",.int (p:Int)])->Q (.ref o) H'):SpLsR vs H Q
def spLs:Sp:=fun vs H Q _=>SpLsR vs H Q
theorem scLs8:FnScope ["_law_places","_law_ropes","_law_near","_law_step","_law_rope","_law_place"] ["_law_places","_law_ropes"] (defScope s_law_loose_due):=⟨rfl,rfl,rfl,by decide +kernel,rfl,by decide +kernel,by decide +kernel⟩
theorem ok_ls (F:Fun K "_law_loose_due" "_law_loose_due" s_law_loose_due f fd) (mr:mg "range" = none):FnOk P w K mg base CX0 1 f fd ["_law_places","_law_ropes"] spLs:=by
 refine F.ok scLs8 (fun vs H Q E h=>?_) (fun cdv A outer s H vs Q E hr h=>?_)
 ·obtain ⟨n,a,rs,rfl,_⟩:=h
  rfl
 obtain ⟨n,a,rs,rfl,n0,n15,⟨cs,ha,hC⟩,m14,hb,q6,q7⟩:=h
 refine ⟨_,pss_cons (ps_set (i:=2) scLs8.nd rfl (Or.inl rfl) (pe_lst (pa_cons pe_int pa_nil)))
  (pss_cons (ps_for PassesOwn.never rfl (pi_range1 (by rfl) mr (pa_cons (pv 0) pa_nil)) (pg_name (i:=3) scLs8.nd rfl (Or.inl rfl))
   (pss_one (ps_for PassesOwn.never rfl (piTup (K:=K) (pv 1)) (pg_name (i:=4) scLs8.nd rfl (Or.inl rfl))
    (pss_one (ps_if (pt_cmpR op_ne (pe_cmpR op_in_seq (pe_ix (ixT (K:=K)) (pv 4) pe_int (fun _ _=>rfl)) (pv 2) (by with_unfolding_all rfl)) (pe_cmpR op_in_seq (pe_ix (ixT (K:=K)) (pv 4) pe_int (fun _ _=>rfl)) (pv 2) (by with_unfolding_all rfl)) (nomark _))
     (pss_one (ps_set (i:=2) scLs8.nd rfl (Or.inl rfl) (pe_op op_cat (pv 2) (pe_lst (pa_cons (pe_ix (ixT (K:=K)) (pv 4) pe_int (fun _ _=>rfl)) (pa_cons (pe_ix (ixT (K:=K)) (pv 4) pe_int (fun _ _=>rfl)) pa_nil)))))) pss_nil)))))
  (pss_cons (ps_for PassesOwn.never rfl (pi_range1 (by rfl) mr (pa_cons (pv 0) pa_nil)) (pg_name (i:=5) scLs8.nd rfl (Or.inl rfl))
   (pss_one (ps_if (pt_cmpR op_notIn_seq (pv 5) (pv 2) (by with_unfolding_all rfl)) (pss_one (ps_ret (pe_tup (pa_cons pe_str (pa_cons (pv 5) pa_nil))))) pss_nil)))
  (pss_one (ps_ret pe_non)))),?_⟩
 have lcs:cs.length=rs.length:=hC.1
 refine ⟨by show 1≤sizeLine; decide,fun L hL=>?_⟩
 have sL:=same_new hL (.lst [.int 0])
 have eL:(upd H L (.lst [.int 0])) L=some (.lst (natV [0])):=upd_same
 dsimp only
 refine name_goH ?_
 refine seq_hide fun U1 hU1=>?_
 generalize upd H L (.lst [.int 0])=H1 at sL eL
 have c0:0+1≤cntN n [0]:=by
  have:=cntN_new (n:=n) (x:=0) (l:=[]) (l':=[0]) (fun y hy=>by cases hy) n0 (by simp) (by simp)
  omega
 refine ⟨_,rfl,(n:Int),rfl,by omega,by omega,?_⟩
 rw [show ((n:Int)).toNat=n by omega]
 refine for_range (n:=n) (fun i σ H2=>∃ L l u v,σ=[some (.int (n:Int)),some (.ref a),some (.ref L),u,v,none]∧Same H H2∧H2 L=some (.lst (natV l))∧Near n rs l∧(Clo rs l∨i+1≤cntN n l)∧l.length≤1+28*i)
  ⟨L,[0],none,none,rfl,sL,eL,⟨by simp,fun x hx=>by rw [List.mem_singleton.mp hx]; exact fun S h0 _=>h0⟩,.inr c0,by decide⟩ ?_ ?_
 ·rintro i σ H2 hi ⟨L2,l,u,v,rfl,s2,e2,k2,c2,b2⟩
  refine ⟨_,rfl,a,rfl,⟨_,SqT.of (s2 _ _ ha)⟩,?_⟩
  refine for_tup (xs:=cs.map V.ref) (fun j σ H3=>∃ L3 v,σ=[some (.int (n:Int)),some (.ref a),some (.ref L3),some (.int ((0:Int)+(i:Nat))),v,none]∧Same H H3∧H3 L3=some (.lst (natV (nearF l (rs.take j))))∧Near n rs (nearF l (rs.take j))∧(nearF l (rs.take j)).length≤l.length+2*j)
   ⟨L2,v,rfl,s2,e2,k2,by show l.length≤l.length+2*0; omega⟩ (fun j σ H3 _ ⟨_,_,_,s3,_⟩=>SqT.of (s3 _ _ ha)) ?_ ?_
  ·rintro j x σ H3 hx ⟨L3,v3,rfl,s3,e3,k3,b3⟩
   obtain ⟨c,r,rfl,_,hy,e,hc,he⟩:=hC.ref hx
   have hj:j<rs.length:=(List.getElem?_eq_some_iff.mp hy).1
   have hc3:=s3 _ _ hc
   rw [nearF_snoc hy]
   have kS:=k3.step (List.mem_of_getElem? hy)
   generalize nearF l (rs.take j)=l3 at e3 k3 b3 kS
   have ln:=nearS_len l3 r
   refine ⟨_,rfl,c,_,_,_,rfl,rfl,SqT.of hc3,t3_0 _ _ _,_,rfl,L3,_,rfl,.inl (SqL.of e3),rfl,flat_nat _,?_⟩
   refine ⟨_,rfl,c,_,_,_,rfl,rfl,SqT.of hc3,t3_1 _ _ _,_,rfl,L3,_,rfl,.inl (SqL.of e3),rfl,flat_nat _,rfl,_,rfl,?_⟩
   rw [if_neg (by decide:¬ (false=true)),if_neg (by decide:¬ (false=true)),inV_nat,inV_nat]
   by_cases z:decide (r.1∈l3)=decide (r.2.1∈l3)
   ·refine iteNS (by rw [z]) ⟨L3,_,rfl,s3,?_,?_,?_⟩
    ·unfold nearS; rw [if_pos z]; exact e3
    ·exact kS
    ·omega
   ·refine iteNN (fun y=>z (V.bl.inj y)) ?_
    refine ⟨_,rfl,_,rfl,c,_,_,_,rfl,rfl,SqT.of hc3,t3_0 _ _ _,_,rfl,c,_,_,_,rfl,rfl,SqT.of hc3,t3_1 _ _ _,by show 2≤sizeLine; decide,fun L4 hL4=>?_⟩
    have s4:=same_new hL4 (.lst [.int (r.1:Int),.int (r.2.1:Int)])
    have e4:(upd H3 L4 (.lst [.int (r.1:Int),.int (r.2.1:Int)])) L4=some (.lst [.int (r.1:Int),.int (r.2.1:Int)]):=upd_same
    generalize upd H3 L4 (.lst [.int (r.1:Int),.int (r.2.1:Int)])=H4 at s4 e4
    refine ⟨L3,L4,_,_,rfl,rfl,s4 _ _ e3,e4,?_,fun L5 hL5=>⟨L5,_,rfl,(s3.trans s4).trans (same_new hL5 _),?_,kS,by omega⟩⟩
    ·show (natV l3).length+2≤sizeLine
     unfold natV
     rw [List.length_map,sizeLine_eq]
     omega
    ·rw [upd_same]
     unfold nearS
     rw [if_neg z]
     unfold natV
     rw [List.map_append]
     rfl
  ·rintro σ H3 ⟨L3,v3,rfl,s3,e3,k3,b3⟩
   rw [List.length_map,lcs,List.take_length] at e3 k3 b3
   exact ⟨L3,nearF l rs,_,_,rfl,s3,e3,k3,near_round hb c2,by omega⟩
 rintro σ H2 ⟨L2,l,u,v,rfl,s2,e2,k2,c2,b2⟩
 subst hU1
 have cl:Clo rs l:=by
  rcases c2 with c | c
  ·exact c
  ·have:=cntN_le n l
   omega
 have rc:=near_rch k2 cl
 refine ⟨_,rfl,(n:Int),rfl,by omega,by omega,?_⟩
 rw [show ((n:Int)).toNat=n by omega]
 refine for_range (n:=n) (fun i σ H3=>(∃ w,σ=[some (.int (n:Int)),some (.ref a),some (.ref L2),u,v,w])∧H3=H2∧∀ j,j<i->Rch rs j) ⟨⟨none,rfl⟩,rfl,fun j h=>by omega⟩ ?_ ?_
 ·rintro i σ H3 hi ⟨⟨w',rfl⟩,rfl,hj⟩
  refine ⟨_,rfl,_,rfl,L2,_,rfl,.inl (SqL.of e2),rfl,flat_nat _,_,rfl,?_⟩
  rw [if_pos rfl,show (0:Int)+(i:Nat)=(i:Int) by omega,inV_nat]
  by_cases z:i∈l
  ·refine iteNS z ⟨⟨_,rfl⟩,rfl,fun j h=>?_⟩
   rcases Nat.lt_or_ge j i with y | y
   ·exact hj j y
   ·obtain rfl:j=i:=by omega
    exact (rc j).mp z
  ·exact iteNN z ⟨_,rfl,by show 2≤sizeLine; decide,fun o ho=>q7 i hi (fun y=>z ((rc i).mpr y)) hj o _ (s2.trans (same_new ho _)) upd_same⟩
 ·rintro σ H3 ⟨⟨w',rfl⟩,rfl,hj⟩
  exact q6 hj _ s2
inductive SpRDR (vs:List V) (H:Hp) (Q:VK):Prop
 | mk (n k:Int) (a:Addr) (r:Raw) (h_0:vs=[.int n,.int k,.ref a]) (h_1:RawR H a r) (h_2:okRp n r->Q .non H) (h_3:¬ okRp n r->∀ o H',Same H H'->H' o=some (.tup [.str "rope",.int k,.str (if okPl n r then "ease" else "place")])->Q (.ref o) H'):SpRDR vs H Q
def spRD:Sp:=fun vs H Q _=>SpRDR vs H Q
theorem scRD:FnScope ["_law_places","_law_number","_law_rope","_law_top","_law_bottom"] ["_law_places","_law_number","_law_rope"] (defScope s_law_rope_due):=⟨rfl,rfl,rfl,by decide +kernel,rfl,by decide +kernel,by decide +kernel⟩
theorem ok_rd (F:Fun K "_law_rope_due" "_law_rope_due" s_law_rope_due f fd) (G1:FnOk P w K mg base CX0 1 f1 d1 ["_law_one","_law_other"] spGcd) (b1:Binds K d1 ["_law_one","_law_other"] []) (k1:PySem.W.keepIn K (.ref f1)=true) (m1:mg "_law_common" = some (.ref f1)):FnOk P w K mg base CX0 2 f fd ["_law_places","_law_number","_law_rope"] spRD:=by
 refine F.ok scRD (fun vs H Q E h=>?_) (fun cdv A outer s H vs Q E hr h=>?_)
 ·obtain ⟨n,k,a,r,rfl,_⟩:=h
  rfl
 obtain ⟨n,k,a,r,rfl,⟨e,ha,he⟩,q2,q3⟩:=h
 refine ⟨_,pss_cons (ps_if (PW.pt (pw_or (pt_not (pt_chain op_le op_lt pe_int (pe_ix (ixT (K:=K)) (pv 2) pe_int (fun _ _=>rfl)) (pv 0))) (pw_or1 (pt_not (pt_chain op_le op_lt pe_int (pe_ix (ixT (K:=K)) (pv 2) pe_int (fun _ _=>rfl)) (pv 0)))))) (pss_one (ps_ret (pe_tup (pa_cons pe_str (pa_cons (pv 1) (pa_cons pe_str pa_nil)))))) pss_nil)
  (pss_cons (ps_asg (pe_ix (ixT (K:=K)) (pv 2) pe_int (fun _ _=>rfl)) (pgTup (n:=2) (K:=K) rfl (pgs_cons (pg_name (i:=3) scRD.nd rfl (Or.inl rfl)) (pgs_cons (pg_name (i:=4) scRD.nd rfl (Or.inl rfl)) pgs_nil))))
  (pss_cons (ps_if (PW.pt (pw_or (pt_not (pt_chain op_lt op_lt pe_int (pv 3) (pe_op op_pow pe_int pe_int))) (pw_or (pt_not (pt_chain op_lt op_lt pe_int (pv 4) (pe_op op_pow pe_int pe_int))) (pw_or1 (pt_cmpR op_ne (pe_call G1 hr (by rfl) m1 k1 b1 .nil pass0 (pa_cons (pv 3) (pa_cons (pv 4) pa_nil))) pe_int (nomark _)))))) (pss_one (ps_ret (pe_tup (pa_cons pe_str (pa_cons (pv 1) (pa_cons pe_str pa_nil)))))) pss_nil)
  (pss_one (ps_ret pe_non)))),?_⟩
 have badP:¬ okPl n r->∀ p,H p=none->Q (.ref p) (upd H p (.tup [.str "rope",.int k,.str "place"])):=fun z p hp=>q3 (fun y=>z y.1) p _ (same_new hp _) (by rw [upd_same,if_neg z])
 have out3:∀ {σ:L2.St} {wd:Str},σ[1]?=some (some (.int k))->(∀ p,H p=none->Q (.ref p) (upd H p (.tup [.str "rope",.int k,.str wd])))->tRet (tTup (tCons (tC (.str "rope")) (tCons (tVar 1) (tCons (tC (.str wd)) tNil)))) { nx:=fun _ H'=>Q .non H',rt:=Q } σ H:=fun e z=>⟨_,e,by show 3≤sizeLine; decide,z⟩
 refine ⟨_,rfl,a,_,_,_,rfl,rfl,SqT.of ha,t3_0 _ _ _,_,_,rfl,rfl,_,rfl,?_⟩
 by_cases x1:0≤r.1
 rotate_left
 ·exact iteDF x1 ⟨_,rfl,iteT (out3 rfl (badP fun y=>x1 y.1.1))⟩
 refine iteDT x1 ⟨_,rfl,_,_,rfl,rfl,_,rfl,?_⟩
 by_cases x2:r.1<n
 rotate_left
 ·rw [decide_eq_false x2]
  exact iteT (out3 rfl (badP fun y=>x2 y.1.2))
 rw [decide_eq_true x2]
 refine iteF ?_
 refine ⟨_,rfl,a,_,_,_,rfl,rfl,SqT.of ha,t3_1 _ _ _,_,_,rfl,rfl,_,rfl,?_⟩
 by_cases x3:0≤r.2.1
 rotate_left
 ·exact iteDF x3 ⟨_,rfl,iteT (out3 rfl (badP fun y=>x3 y.2.1))⟩
 refine iteDT x3 ⟨_,rfl,_,_,rfl,rfl,_,rfl,?_⟩
 by_cases x4:r.2.1<n
 rotate_left
 ·rw [decide_eq_false x4]
  exact iteT (out3 rfl (badP fun y=>x4 y.2.2))
 rw [decide_eq_true x4]
 refine iteF ?_
 have pl:okPl n r:=⟨⟨x1,x2⟩,x3,x4⟩
 have badE:¬ EzOk r.2.2.1 r.2.2.2->∀ p,H p=none->Q (.ref p) (upd H p (.tup [.str "rope",.int k,.str "ease"])):=fun z p hp=>q3 (fun y=>z y.2) p _ (same_new hp _) (by rw [upd_same,if_pos pl])
 refine ⟨_,rfl,a,_,_,_,rfl,rfl,SqT.of ha,t3_2 _ _ _,e,_,rfl,SqT.of he,rfl,_,_,rfl,_,_,rfl,rfl,?_⟩
 have p40:(10:Int) ^ ((40:Int).toNat)=10 ^ 40:=rfl
 have cp:CPow 10 40:=⟨by decide,by decide,by decide⟩
 have good:EzOk r.2.2.1 r.2.2.2->Q .non H:=fun z=>q2 ⟨pl,z⟩
 clear q2 q3
 generalize r.2.2.1=t at *
 generalize r.2.2.2=b at *
 refine ⟨_,rfl,_,_,rfl,rfl,_,rfl,?_⟩
 by_cases y1:0<t
 rotate_left
 ·exact iteDF y1 ⟨_,rfl,iteT (out3 rfl (badE fun z=>y1 (by have:=z.1; omega)))⟩
 refine iteDT y1 ⟨_,_,rfl,rfl,cp,_,_,rfl,rfl,_,rfl,?_⟩
 rw [p40]
 by_cases y2:t<10 ^ 40
 rotate_left
 ·rw [decide_eq_false y2]
  exact iteT (out3 rfl (badE fun z=>y2 z.2.1))
 rw [decide_eq_true y2]
 refine iteF ?_
 refine ⟨_,rfl,_,_,rfl,rfl,_,rfl,?_⟩
 by_cases y3:0<b
 rotate_left
 ·exact iteDF y3 ⟨_,rfl,iteT (out3 rfl (badE fun z=>y3 (by have:=z.2.2.1; omega)))⟩
 refine iteDT y3 ⟨_,_,rfl,rfl,cp,_,_,rfl,rfl,_,rfl,?_⟩
 rw [p40]
 by_cases y4:b<10 ^ 40
 rotate_left
 ·rw [decide_eq_false y4]
  exact iteT (out3 rfl (badE fun z=>y4 z.2.2.2.1))
 rw [decide_eq_true y4]
 refine iteF ?_
 refine ⟨_,rfl,_,rfl,t,b,rfl,rfl,_,rfl,?_⟩
 by_cases y5:Int.gcd t b=1
 rotate_left
 ·exact iteNN (ivn (by omega)) (out3 rfl (badE fun z=>y5 z.2.2.2.2))
 exact iteNS (iv (by omega)) (good ⟨by omega,y2,by omega,y4,y5⟩)
end
end My
namespace My
open PySem L2 Mth
def PrR (H:Hp) (c:Addr) (p:Nat×Nat):Prop:=∃ more,H c=some (.tup (.int (p.1:Int) :: .int (p.2:Int) :: more))
theorem mo_pr:Mo PrR:=fun s ⟨m,h⟩=>⟨m,s _ _ h⟩
def hmQ (ps:List (Nat×Nat)):List Nat:=ps.flatMap fun r=>[r.1,r.2]
theorem hmQ_len:∀ ps:List (Nat×Nat),(hmQ ps).length=2*ps.length
 | []=>rfl
 | p :: ps=>by
  show (p.1 :: p.2 :: hmQ ps).length=2*(ps.length+1)
  rw [List.length_cons,List.length_cons,hmQ_len ps]
  omega
theorem hmQ_snoc (ps:List (Nat×Nat)) (r:Nat×Nat):hmQ (ps++[r])=hmQ ps++[r.1]++[r.2]:=by unfold hmQ; simp
def prsOf (rs:List Rope):List (Nat×Nat):=rs.map (fun r=>(r.1,r.2.1))++[(0,1)]
theorem hmQ_prs (rs:List Rope):hmQ (prsOf rs)=hm rs:=by
 unfold prsOf hm
 rw [hmQ_snoc]
 have:∀ rs:List Rope,hmQ (rs.map fun r=>(r.1,r.2.1))=hm0 rs:=fun rs=>by
  induction rs with
  | nil=>rfl
  | cons r rs ih =>
   show r.1 :: r.2.1 :: hmQ (rs.map fun r=>(r.1,r.2.1))=r.1 :: r.2.1 :: hm0 rs
   rw [ih]
 rw [this]
 simp
theorem at_hd {x y:V} {xs:List V}:atI (x :: y :: xs) 0=some x:=atI_nat (j:=0) rfl
theorem at_hd1 {x y:V} {xs:List V}:atI (x :: y :: xs) 1=some y:=atI_nat (j:=1) rfl
theorem pr_up {H:Hp} {b:Addr} {o:HO} {ys:List V} {cs:List Addr} {ps:List (Nat×Nat)} (h:At PrR H cs ps) (hb:H b=some (.lst ys)):At PrR (upd H b o) cs ps:=⟨h.1,fun i c p e1 e2=>by
 obtain ⟨m,hc⟩:=h.2 i c p e1 e2
 exact ⟨m,by rw [upd_ne fun z=>by rw [z,hb] at hc; cases hc]; exact hc⟩⟩
theorem pr_ropes {H:Hp} {bs:List Addr} {rs:List Rope} (h:At RopeR H bs rs):At PrR H bs (rs.map fun r=>(r.1,r.2.1)):=⟨by rw [List.length_map]; exact h.1,fun i c p e1 e2=>by
 rw [List.getElem?_map] at e2
 obtain ⟨r,hr,rfl⟩:=Option.map_eq_some_iff.mp e2
 obtain ⟨e,h1,_⟩:=h.2 i c r e1 hr
 exact ⟨_,h1⟩⟩
theorem prs_lt {n:Nat} {rs:List Rope} (n2:2≤n) (h:∀ r∈rs,r.1<n∧r.2.1<n):∀ p∈prsOf rs,p.1<n∧p.2<n:=fun p hp=>by
 rcases List.mem_append.mp hp with z | z
 ·obtain ⟨r,hr,rfl⟩:=List.mem_map.mp z
  exact h r hr
 ·rw [List.mem_singleton.mp z]
  exact ⟨by show 0<n; omega,by show 1<n; omega⟩
section
variable {P:Program} {w:World} {K:PySem.W.Frag} {mg:Str->Option Value} {base:Heap} {f g h f1 f2 f3 f4 f5 fI:Addr} {fd gd hd d1 d2 d3 d4 d5 dI:FuncData}
inductive SpEDuR (vs:List V) (H:Hp) (Q:VK):Prop
 | mk (n:Nat) (a b:Addr) (rs:List Rope) (ts:List (List Int)) (h_0:vs=[.int (n:Int),.ref a,.ref b]) (h_1:2≤n) (h_2:n≤15) (h_3:rs.length≤14) (h_4:TupR RopeR H a rs) (h_5:∀ r∈rs,r.1<n∧r.2.1<n) (h_6:TupR IntsT H b ts) (h_7:∀ t∈ts,t.length<64)
  (h_8:(∀ p,p<n->tOk rs ts p)->ts.length≤n->∀ H',Same H H'->Q .non H') (h_9:∀ p o H',p<n->¬ tOk rs ts p->(∀ i,i<p->tOk rs ts i)->Same H H'->H' o=some (.tup [.str "turn",.int (p:Int)])->Q (.ref o) H') (h_10:∀ o H',(∀ p,p<n->tOk rs ts p)->n<ts.length->Same H H'->H' o=some (.tup [.str "turn",.int (n:Int)])->Q (.ref o) H'):SpEDuR vs H Q
def spEDu:Sp:=fun vs H Q _=>SpEDuR vs H Q
theorem scEu:FnScope ["_law_places","_law_ropes","_law_turns","_law_ends","_law_number","_law_rope","_law_place","_law_turn"] ["_law_places","_law_ropes","_law_turns"] (defScope s_law_ends_due):=⟨rfl,rfl,rfl,by decide +kernel,rfl,by decide +kernel,by decide +kernel⟩
theorem ndLK:(["_law_k"]:List Str).Nodup:=by decide +kernel
set_option maxHeartbeats 4000000 in
theorem ok_eu (F:Fun K "_law_ends_due" "_law_ends_due" s_law_ends_due f fd) (ml:mg "len" = none) (mr:mg "range" = none) (me:mg "enumerate" = none) (mli:mg "list" = none) (mso:mg "sorted" = none):FnOk P w K mg base CX0 1 f fd ["_law_places","_law_ropes","_law_turns"] spEDu:=by
 refine F.ok scEu (fun vs H Q E h=>?_) (fun cdv A outer s H vs Q E hr h=>?_)
 ·obtain ⟨n,a,b,rs,ts,rfl,_⟩:=h
  rfl
 obtain ⟨n,a,b,rs,ts,rfl,n2,n15,m14,⟨bs,ha,hB⟩,hrs,⟨us,hb,hV⟩,htl,q8,q9,q10⟩:=h
 refine ⟨_,pss_cons (ps_setComp (i:=3) scEu.nd rfl (Or.inl rfl) (Nc:=["_law_k"]) (cap:=[]) (g:=gName 0) (te:=tLst tNil) rfl (pi_range1 (by rfl) mr (pa_cons (pv 0) pa_nil))
   (comp_mk rfl rfl (by decide +kernel) (by decide +kernel) (List.forall_mem_nil _) rfl (List.forall_mem_nil _)) (fun C fp pins s' H'=>pg_name (i:=0) ndLK rfl (Or.inl rfl)) (fun C fp pins s' H'=>pe_lst pa_nil))
  (pss_cons (ps_for PassesOwn.never rfl (pi_enumL (by rfl) me (pa_cons (pe_op op_cat (pe_callTy (callLst (K:=K)) (by rfl) mli bt_list (pa_cons (pv 1) pa_nil)) (pe_lst (pa_cons (pe_tup (pa_cons pe_int (pa_cons pe_int pa_nil))) pa_nil))) pa_nil)) (pgTup (n:=2) (K:=K) rfl (pgs_cons (pg_name (i:=4) scEu.nd rfl (Or.inl rfl)) (pgs_cons (pg_name (i:=5) scEu.nd rfl (Or.inl rfl)) pgs_nil)))
   (pss_cons (ps_expr (pe_bmK K PySem.F.plainAttrs_list PySem.F.slot_list_append PySem.F.type_list_append mt_append (pe_ix (ixL (K:=K)) (pv 3) (pe_ix (ixT (K:=K)) (pv 5) pe_int (fun _ _=>rfl)) (fun _ _=>rfl)) (pa_cons (pe_op op_mul pe_int (pv 4)) pa_nil)))
    (pss_one (ps_expr (pe_bmK K PySem.F.plainAttrs_list PySem.F.slot_list_append PySem.F.type_list_append mt_append (pe_ix (ixL (K:=K)) (pv 3) (pe_ix (ixT (K:=K)) (pv 5) pe_int (fun _ _=>rfl)) (fun _ _=>rfl)) (pa_cons (pe_op op_add (pe_op op_mul pe_int (pv 4)) pe_int) pa_nil))))))
  (pss_cons (ps_for PassesOwn.never rfl (pi_range1 (by rfl) mr (pa_cons (pv 0) pa_nil)) (pg_name (i:=6) scEu.nd rfl (Or.inl rfl))
   (pss_cons (ps_set (i:=7) scEu.nd rfl (Or.inl rfl) (pe_lst pa_nil))
   (pss_cons (ps_if (pt_cmpR op_lt (pv 6) (pe_callB (callLen (K:=K)) (by rfl) ml bt_len (pa_cons (pv 2) pa_nil)) (nomark _)) (pss_one (ps_set (i:=7) scEu.nd rfl (Or.inl rfl) (pe_callB call_sortT (by rfl) mso bt_sorted (pa_cons (pe_ix (ixT (K:=K)) (pv 2) (pv 6) (fun _ _=>rfl)) pa_nil)))) pss_nil)
   (pss_one (ps_if (pt_cmpR (op_neLI hr.units) (pv 7) (pe_ix (ixL (K:=K)) (pv 3) (pv 6) (fun _ _=>rfl)) (nomark _)) (pss_one (ps_ret (pe_tup (pa_cons pe_str (pa_cons (pv 6) pa_nil))))) pss_nil)))))
  (pss_cons (ps_if (pt_cmpR op_gt (pe_callB (callLen (K:=K)) (by rfl) ml bt_len (pa_cons (pv 2) pa_nil)) (pv 0) (nomark _)) (pss_one (ps_ret (pe_tup (pa_cons pe_str (pa_cons (pv 0) pa_nil))))) pss_nil)
  (pss_one (ps_ret pe_non))))),?_⟩
 refine ⟨_,rfl,(n:Int),rfl,by omega,by omega,fun acc hacc=>?_⟩
 rw [show ((n:Nat):Int).toNat=n by omega]
 refine comp_run run_range (by omega) hacc (fun i ys σ hp=>∃ ds:List Addr,ys=ds.map V.ref∧At IntsL hp ds (List.replicate i [])∧ds.Nodup∧(∀ d∈ds,H d=none)∧∃ u,σ=[u]) ⟨[],rfl,At.nil,by simp,by simp,none,rfl⟩ ?_ ?_
 ·rintro i ys σ H2 x H3 hi sm hacc2 ⟨ds,rfl,hD,nd,fr,u,rfl⟩ ⟨rfl,rfl⟩ Cc hC
  refine ⟨by show 0≤sizeLine; decide,fun l hl=>?_⟩
  have s1:=same_new hl (.lst [])
  have lacc:l≠acc:=fun z=>by rw [z,hacc2] at hl; cases hl
  refine hC _ _ _ s1 ⟨ds++[l],by simp,?_,?_,?_,_,rfl⟩
  ·rw [List.replicate_succ']
   exact (hD.keep mo_ints (del_mono acc s1)).snoc (show IntsL _ l [] from by unfold IntsL; rw [del_ne lacc]; exact upd_same)
  ·rw [List.nodup_append]
   refine ⟨nd,by simp,fun x hx y hy z=>?_⟩
   rw [List.mem_singleton] at hy
   subst hy
   subst z
   obtain ⟨k,hk,ek⟩:=List.getElem_of_mem hx
   have hl2:k<(List.replicate i ([]:List Int)).length:=by rw [←hD.1]; exact hk
   have h1:=hD.2 k x _ (by rw [List.getElem?_eq_getElem hk,ek]) (List.getElem?_eq_getElem hl2)
   rw [del_sub _ _ _ _ h1] at hl; cases hl
  ·intro d hd'
   rcases List.mem_append.mp hd' with h' | h'
   ·exact fr d h'
   ·rw [List.mem_singleton] at h'; rw [h']; exact sm.free hl
 rintro ys σ1 H2 s2 hacc2 hl2 ⟨ds,rfl,hD,nd,fr,u,rfl⟩
 have e0:(List.range n).map (endsL (hmQ []))=List.replicate n []:=by
  refine List.ext_getElem (by simp) fun i h1 h2=>?_
  simp [endsL,hmQ]
 have M0:TurnsM H2 acc ds ((List.range n).map (endsL (hmQ []))):=by
  rw [e0]
  refine ⟨hacc2,hD.keep mo_ints (del_sub H2 acc),List.nodup_cons.mpr ⟨fun z=>?_,nd⟩⟩
  obtain ⟨k,hk,ek⟩:=List.getElem_of_mem z
  have hl2:k<(List.replicate n ([]:List Int)).length:=by rw [←hD.1]; exact hk
  have h1:=hD.2 k acc _ (by rw [List.getElem?_eq_getElem hk,ek]) (List.getElem?_eq_getElem hl2)
  unfold IntsL at h1
  rw [del_self] at h1; cases h1
 have far:∀ {H0 H3:Hp} {b:Addr} {o:HO},(∀ d∈ds,H0 d=none)->Same H0 H3->b∈ds->Same H0 (upd H3 b o):=fun fr s hb=>s.up (fr _ hb) _
 have mul2:∀ x:Int,CMul 2 x:=fun x=>.inl ⟨by decide,by decide⟩
 have one:∀ {H3:Hp} {hs:List Nat} {p:Nat} (z:Int),z=hs.length->p<n->hs.length≤1000->TurnsM H3 acc ds ((List.range n).map (endsL hs))->∃ b,atI (ds.map V.ref) (p:Int)=some (.ref b)∧b∈ds∧H3 b=some (.lst ((endsL hs p).map V.int))∧((endsL hs p).map V.int).length<sizeLine ∧
   TurnsM (upd H3 b (.lst ((endsL hs p).map V.int++[.int z]))) acc ds ((List.range n).map (endsL (hs++[p]))):=by
  intro H3 hs p z ez hp hl M
  subst ez
  obtain ⟨b,hb,hB⟩:=M.rows.get (show ((List.range n).map (endsL hs))[p]?=some (endsL hs p) by rw [List.getElem?_map,List.getElem?_range hp]; rfl)
  refine ⟨b,atI_nat (ref_at hb),List.mem_of_getElem? hb,hB,?_,?_⟩
  ·rw [List.length_map]; have:=endsL_len hs p; exact szl (by omega)
  ·rw [ends_step hs hp]
   have:=M.put (t:=endsL hs p++[(hs.length:Int)]) hb
   rw [List.map_append] at this
   exact this
 dsimp only
 refine name_goH ?_
 refine seq_hide fun UL hUL=>?_
 refine ⟨_,rfl,a,_,rfl,.inr (SqT.of (s2 _ _ ha)),fun L1 hL1=>?_⟩
 have s3:=same_new hL1 (.lst (bs.map V.ref))
 have e3:(upd H2 L1 (.lst (bs.map V.ref))) L1=some (.lst (bs.map V.ref)):=upd_same
 generalize upd H2 L1 (.lst (bs.map V.ref))=H3 at s3 e3
 refine ⟨by show 2≤sizeLine; decide,fun pz hpz=>?_⟩
 have s4:=same_new hpz (.tup [.int 0,.int 1])
 have e4:(upd H3 pz (.tup [.int 0,.int 1])) pz=some (.tup [.int 0,.int 1]):=upd_same
 generalize upd H3 pz (.tup [.int 0,.int 1])=H4 at s4 e4
 refine ⟨by show 1≤sizeLine; decide,fun L2 hL2=>?_⟩
 have s5:=same_new hL2 (.lst [.ref pz])
 have e5:(upd H4 L2 (.lst [.ref pz])) L2=some (.lst [.ref pz]):=upd_same
 generalize upd H4 L2 (.lst [.ref pz])=H5 at s5 e5
 have lbs:bs.length=rs.length:=hB.1
 refine ⟨L1,L2,_,_,rfl,rfl,s5 _ _ (s4 _ _ e3),e5,?_,fun L3 hL3=>?_⟩
 ·rw [List.length_map,sizeLine_eq]
  show bs.length+1≤_
  omega
 have s6:=same_new hL3 (.lst (bs.map V.ref++[.ref pz]))
 have e6:(upd H5 L3 (.lst (bs.map V.ref++[.ref pz]))) L3=some (.lst ((bs++[pz]).map V.ref)):=by rw [upd_same,List.map_append]; rfl
 have s25:=s3.trans (s4.trans s5)
 have nL3:∀ d∈ds,d≠L3:=fun d hd z=>by
  obtain ⟨k,hk⟩:=List.mem_iff_getElem?.mp hd
  have kl:=(List.getElem?_eq_some_iff.mp hk).1
  have hl2:k<((List.range n).map (endsL (hmQ []))).length:=by rw [←M0.rows.1]; exact kl
  have h1:=M0.rows.2 k d _ hk (List.getElem?_eq_getElem hl2)
  have h2:=s25 _ _ h1
  rw [z,hL3] at h2
  cases h2
 generalize upd H5 L3 (.lst (bs.map V.ref++[.ref pz]))=H6 at s6 e6
 have s26:=s25.trans s6
 have hP6:At PrR H6 (bs++[pz]) (prsOf rs):=(((pr_ropes hB).keep mo_pr (s2.trans s26))).snoc ⟨[],s6 _ _ (s5 _ _ e4)⟩
 have plt:=prs_lt n2 hrs
 have lps:(prsOf rs).length=rs.length+1:=by unfold prsOf; rw [List.length_append,List.length_map]; rfl
 refine ⟨L3,_,rfl,e6,?_⟩
 refine for_enumL (xs:=(bs++[pz]).map V.ref) (fun i σ H7=>(∃ u v,σ=[some (.int (n:Int)),some (.ref a),some (.ref b),some (.ref acc),u,v,none,none])∧Same H H7∧H7 L3=some (.lst ((bs++[pz]).map V.ref))∧At PrR H7 (bs++[pz]) (prsOf rs)∧TurnsM H7 acc ds ((List.range n).map (endsL (hmQ ((prsOf rs).take i))))) ⟨⟨none,none,rfl⟩,s2.trans s26,e6,hP6,M0.keep s26⟩ (fun i σ H7 _ ⟨_,_,e7,_⟩=>e7) ?_ ?_
 ·rintro i x σ H7 p hx ⟨⟨u1,u2,rfl⟩,s7,e7,hP7,M⟩ hp
  obtain ⟨c,r,rfl,_,hy,hc⟩:=hP7.ref hx
  obtain ⟨r1,r2⟩:=plt r (List.mem_of_getElem? hy)
  have sp:=same_new hp (.tup [.int i,.ref c])
  have s8:=s7.trans sp
  have hi:i<(prsOf rs).length:=(List.getElem?_eq_some_iff.mp hy).1
  have le:(hmQ ((prsOf rs).take i)).length=2*i:=by rw [hmQ_len,List.length_take]; omega
  obtain ⟨b1,g1,g2,g3,g4,M1⟩:=one (2*(i:Int)) (by rw [le]; push_cast; rfl) r1 (by omega) (M.keep sp)
  obtain ⟨b2,k1,k2,k3,k4,M2⟩:=one (2*(i:Int)+1) (by rw [List.length_append,le]; simp) r2 (by rw [List.length_append,le]; simp; omega) M1
  obtain ⟨mo,hc8⟩:=mo_pr sp hc
  have hP8:=hP7.keep mo_pr sp
  have ncb:c≠b1:=fun z=>by
   have g3':=g3
   rw [←z,hc8] at g3'
   cases g3'
  have hc9:∀ o,(upd (upd H7 p (.tup [.int i,.ref c])) b1 o) c=some (.tup (.int (r.1:Int) :: .int (r.2:Int) :: mo)):=fun o=>by rw [upd_ne ncb]; exact hc8
  refine ⟨p,_,rfl,SqT.of upd_same,rfl,_,_,rfl,_,_,rfl,rfl,?_⟩
  refine ⟨_,rfl,_,rfl,c,_,_,_,rfl,rfl,SqT.of hc8,at_hd,acc,_,_,_,rfl,rfl,SqL.of (M.keep sp).h1,g1,.inl ⟨rfl,_,SqL.of g3⟩,_,rfl,_,_,rfl,rfl,mul2 _,b1,_,_,rfl,rfl,g3,g4,?_⟩
  refine ⟨_,rfl,_,rfl,c,_,_,_,rfl,rfl,SqT.of (hc9 _),at_hd1,acc,_,_,_,rfl,rfl,SqL.of M1.h1,k1,.inl ⟨rfl,_,SqL.of k3⟩,_,rfl,_,_,rfl,rfl,mul2 _,_,_,rfl,rfl,b2,_,_,rfl,rfl,k3,k4,?_⟩
  refine ⟨⟨_,_,rfl⟩,far fr (far fr s8 g2) k2,?_,pr_up (pr_up hP8 g3) k3,?_⟩
  ·rw [upd_ne (nL3 b2 k2).symm,upd_ne (nL3 b1 g2).symm]
   exact sp _ _ e7
  ·rw [take_snoc hy,hmQ_snoc]
   exact M2
 rintro σ H7 ⟨⟨u1,u2,rfl⟩,s7,e7,hP7,M⟩
 subst hUL
 rw [List.length_map,show (bs++[pz]).length=(prsOf rs).length by rw [lps,List.length_append,lbs]; rfl,List.take_length,hmQ_prs] at M
 refine ⟨_,rfl,(n:Int),rfl,by omega,by omega,?_⟩
 rw [show ((n:Int)).toNat=n by omega]
 refine for_range (n:=n) (fun i σ H8=>(∃ u v,σ=[some (.int (n:Int)),some (.ref a),some (.ref b),some (.ref acc),u1,u2,u,v])∧Same H7 H8∧∀ j,j<i->tOk rs ts j) ⟨⟨none,none,rfl⟩,Same.refl _,fun j h=>by omega⟩ ?_ ?_
 ·rintro i σ H8 hi ⟨⟨u,v,rfl⟩,s8,hj⟩
  have s08:=s7.trans s8
  dsimp only
  refine name_goH ?_
  refine ⟨by show 0≤sizeLine; decide,fun l0 hl0=>?_⟩
  have s9:=same_new hl0 (.lst [])
  have e9:(upd H8 l0 (.lst [])) l0=some (.lst []):=upd_same
  generalize upd H8 l0 (.lst [])=H9 at s9 e9
  dsimp only
  refine name_goH ?_
  refine seq_hide fun U hU=>?_
  obtain ⟨cr,hcr,hcR⟩:=M.rows.get (show ((List.range n).map (endsL (hm rs)))[i]?=some (endsL (hm rs) i) by rw [List.getElem?_map,List.getElem?_range hi]; rfl)
  have key:∀ l (ms:List Int) HA,Same H9 HA->HA l=some (.lst (ms.map V.int))->ms.Perm (ts.getD i [])->ms.Pairwise (·≤·)->U [some (.int (n:Int)),some (.ref a),some (.ref b),some (.ref acc),u1,u2,some (.int ((0:Int)+(i:Nat))),some (.ref l)] HA:=by
   intro l ms HA sA hl pm srt
   subst hU
   have s7A:=s8.trans (s9.trans sA)
   refine ⟨_,rfl,_,rfl,_,rfl,acc,_,_,_,rfl,rfl,SqL.of (M.keep s7A).h1,by rw [Int.zero_add]; exact atI_nat (ref_at hcr),l,cr,ms,endsL (hm rs) i,rfl,rfl,hl,s7A _ _ hcR,_,rfl,?_⟩
   by_cases z:ms=endsL (hm rs) i
   ·refine iteNS z ⟨⟨_,_,rfl⟩,s7A,fun j h=>?_⟩
    rcases Nat.lt_or_ge j i with y | y
    ·exact hj j y
    ·obtain rfl:j=i:=by omega
     unfold tOk
     rw [←z]
     exact pm.symm
   ·refine iteNN z ⟨_,rfl,by show 2≤sizeLine; decide,fun o ho=>q9 i o _ hi (fun y=>z ?_) hj ((s7.trans s7A).trans (same_new ho _)) (by rw [upd_same,Int.zero_add])⟩
    exact sorted_eq srt (endsL_lt (hm rs) i) (pm.trans y)
  refine ⟨_,rfl,_,rfl,b,_,rfl,.inr (SqT.of (s9 _ _ (s08 _ _ hb))),_,_,rfl,rfl,_,rfl,?_⟩
  rw [List.length_map,hV.1]
  by_cases z:(0:Int)+(i:Nat)<(ts.length:Int)
  ·have hi2:i<ts.length:=by omega
   have ht:ts[i]?=some ts[i]:=List.getElem?_eq_getElem hi2
   obtain ⟨tb,htb,hT⟩:=hV.get ht
   have eg:ts.getD i []=ts[i]:=by rw [List.getD_eq_getElem?_getD,ht]; rfl
   refine iteDT z ⟨_,rfl,_,rfl,b,_,_,_,rfl,rfl,SqT.of (s9 _ _ (s08 _ _ hb)),by rw [Int.zero_add]; exact atI_nat (ref_at htb),tb,_,rfl,s9 _ _ (s08 _ _ hT),htl _ (List.getElem_mem hi2),fun l ms hl pm srt=>?_⟩
   exact key l ms _ (same_new hl _) upd_same (by rw [eg]; exact pm) srt
  ·have eg:ts.getD i []=[]:=by rw [List.getD_eq_getElem?_getD,List.getElem?_eq_none (by omega)]; rfl
   exact iteDF z (key l0 [] H9 (Same.refl _) e9 (by rw [eg]) .nil)
 ·rintro σ H8 ⟨⟨u,v,rfl⟩,s8,hj⟩
  have s08:=s7.trans s8
  refine ⟨_,rfl,b,_,rfl,.inr (SqT.of (s08 _ _ hb)),_,rfl,_,_,rfl,rfl,_,rfl,?_⟩
  rw [List.length_map,hV.1]
  by_cases z:(n:Int)<(ts.length:Int)
  ·exact iteDT z ⟨_,rfl,by show 2≤sizeLine; decide,fun o ho=>q10 o _ hj (by omega) (s08.trans (same_new ho _)) upd_same⟩
  ·exact iteDF z (q8 hj (by omega) _ s08)
end
end My
namespace My
open PySem L2 Mth
def dropI (L:List (Int×Int)) (e:Int):List (Int×Int):=L.filter fun p=>!decide (p.1=e)
theorem lk_drop (L:List (Int×Int)) (e x:Int):lk (dropI L e) x=if x=e then none else lk L x:=by
 induction L with
 | nil=>simp [dropI,lk]
 | cons p L ih =>
  unfold dropI lk at *
  by_cases h:p.1=e
  ·rw [List.filter_cons_of_neg (by simp [h])]
   rw [ih]
   by_cases hx:x=e
   ·rw [if_pos hx,if_pos hx]
   ·rw [if_neg hx,if_neg hx,List.find?_cons_of_neg (by simp; intro z; exact hx (z.symm.trans h))]
  ·rw [List.filter_cons_of_pos (by simp [h])]
   by_cases hp:p.1=x
   ·rw [List.find?_cons_of_pos (by simp [hp]),List.find?_cons_of_pos (by simp [hp]),if_neg (by intro z; exact h (hp.trans z))]
   ·rw [List.find?_cons_of_neg (by simp [hp]),List.find?_cons_of_neg (by simp [hp])]
    exact ih
theorem keys_drop {L:List (Int×Int)} {e x:Int}:x∈(dropI L e).map (·.1)↔x∈L.map (·.1)∧x≠e:=by
 unfold dropI
 rw [List.mem_map,List.mem_map]
 constructor
 ·rintro ⟨p,hp,rfl⟩
  obtain ⟨h1,h2⟩:=List.mem_filter.mp hp
  exact ⟨⟨p,h1,rfl⟩,by simpa using h2⟩
 ·rintro ⟨⟨p,hp,rfl⟩,h⟩
  exact ⟨p,List.mem_filter.mpr ⟨hp,by simpa using h⟩,rfl⟩
theorem dropK_kvI (L:List (Int×Int)) (e:Int):dropK (kvI L) (Sum.inl e:Key)=kvI (dropI L e):=by
 induction L with
 | nil=>rfl
 | cons p L ih =>
  have h1:kvI (p :: L)=((Sum.inl p.1:Key),V.int p.2) :: kvI L:=rfl
  unfold dropI at *
  by_cases h:p.1=e
  ·rw [List.filter_cons_of_neg (by simp [h]),←ih,h1]
   first | rw [dropK_pos (by rw [h])] | (unfold dropK; simp [h])
  ·rw [List.filter_cons_of_pos (by simp [h]),show kvI (p :: L.filter fun p=>!decide (p.1=e))=((Sum.inl p.1:Key),V.int p.2) :: kvI (L.filter fun p=>!decide (p.1=e)) from rfl,←ih,h1]
   first | rw [dropK_neg (fun z=>h (Sum.inl.inj z))] | (unfold dropK; simp [h])
structure DicF (φ:Int->Int) (M:Nat) (S:List Int) (L:List (Int×Int)):Prop where
 nd:(L.map (·.1)).Nodup
 key:∀ x,x∈L.map (·.1)↔(InR M x∧x∉S)
 val:∀ x,InR M x->x∉S->lk L x=some (φ x)
theorem DicF.len {φ:Int->Int} {M:Nat} {S:List Int} {L:List (Int×Int)} (d:DicF φ M S L):L.length≤M:=by
 have:=len_le M _ d.nd fun x hx=>((d.key x).mp hx).1
 rw [List.length_map] at this
 exact this
theorem DicF.pop {φ:Int->Int} {M:Nat} {S:List Int} {L:List (Int×Int)} (d:DicF φ M S L) (e:Int):DicF φ M (S++[e]) (dropI L e):=by
 refine ⟨?_,fun x=>?_,fun x hx hs=>?_⟩
 ·unfold dropI
  exact d.nd.sublist (List.filter_sublist.map _)
 ·rw [keys_drop,d.key]
  constructor
  ·rintro ⟨⟨a,b⟩,c⟩
   exact ⟨a,fun z=>by rcases List.mem_append.mp z with z | z; exact b z; exact c (List.mem_singleton.mp z)⟩
  ·rintro ⟨a,b⟩
   exact ⟨⟨a,fun z=>b (List.mem_append_left _ z)⟩,fun z=>b (List.mem_append_right _ (List.mem_singleton.mpr z))⟩
 ·rw [lk_drop,if_neg fun z=>hs (List.mem_append_right _ (List.mem_singleton.mpr z))]
  exact d.val x hx fun z=>hs (List.mem_append_left _ z)
def behL (A:List (Int×Int)):List (Int×Int):=A.map fun p=>(oth p.1,p.2)
theorem behL_keys (A:List (Int×Int)):(behL A).map (·.1)=(A.map (·.1)).map oth:=by
 unfold behL
 rw [List.map_map,List.map_map]
 rfl
theorem oth_inj {x y:Int} (h:oth x=oth y):x=y:=by rw [←oth_oth x,h,oth_oth]
theorem behL_lk (x:Int):∀ A:List (Int×Int),lk (behL A) x=lk A (oth x)
 | []=>rfl
 | p :: A=>by
  have ih:=behL_lk x A
  unfold lk behL at *
  rw [List.map_cons]
  by_cases h:p.1=oth x
  ·rw [List.find?_cons_of_pos (by simp [h,oth_oth]),List.find?_cons_of_pos (by simp [h])]
   rfl
  ·rw [List.find?_cons_of_neg (by simp; intro z; exact h (by rw [←z,oth_oth])),List.find?_cons_of_neg (by simp [h])]
   exact ih
theorem beh_first {M:Nat} {ts:List (List Int)} (T:Turns M ts):DicF (nxt ts) M [] (behL (aheadL ts)):=by
 refine ⟨?_,fun x=>?_,fun x hx _=>?_⟩
 ·rw [behL_keys,aheadL_fst]
  exact nd_map T.nd fun x _ y _ e=>oth_inj e
 ·rw [behL_keys,aheadL_fst,List.mem_map]
  constructor
  ·rintro ⟨y,hy,rfl⟩
   exact ⟨oth_in T.even ((T.mem y).mp hy),by simp⟩
  ·rintro ⟨h,_⟩
   exact ⟨oth x,(T.mem _).mpr (oth_in T.even h),oth_oth x⟩
 ·rw [behL_lk]
  exact T.nxt_is hx
theorem lands_up {φ:Int->Int} {M:Nat} (PM:Perm1 φ M) {i j:Nat} (hj:j≤M) (h:∀ k:Nat,i≤k->k<j->(k:Int)∈(landsF φ i).flatten) (ij:i≤j):landsF φ j=landsF φ i:=by
 induction j with
 | zero=>rw [show i=0 by omega]
 | succ j ih =>
  rcases Nat.lt_or_ge j i with z | z
  ·rw [show j+1=i by omega]
  ·have e:=ih (by omega) (fun k a b=>h k a (by omega)) z
   rw [landsF_pos (by rw [e]; exact h j z (by omega)),e]
theorem lands_in {φ:Int->Int} {M i:Nat} (PM:Perm1 φ M) (hi:i≤M) {k:Nat} (hk:k<i):(k:Int)∈(landsF φ i).flatten:=by
 exact (landsF_ok PM i hi).all k (by omega) (by omega)
end My
namespace My
open PySem L2 Mth
theorem drop_lt {L:List (Int×Int)} {e:Int} (h:e∈L.map (·.1)):(dropI L e).length<L.length:=by
 obtain ⟨p,hp,rfl⟩:=List.mem_map.mp h
 unfold dropI
 exact List.length_filter_lt_length_iff_exists.mpr ⟨p,hp,by simp⟩
theorem keys_kvI (L:List (Int×Int)):(kvI L).map (fun p=>kV p.1)=(L.map (·.1)).map V.int:=by
 unfold kvI
 rw [List.map_map,List.map_map]
 rfl
section
variable {P:Program} {w:World} {K:PySem.W.Frag} {mg:Str->Option Value} {base:Heap} {f g h f1 f2 f3 f4 f5 fI:Addr} {fd gd hd d1 d2 d3 d4 d5 dI:FuncData}
inductive SpLanR (vs:List V) (H:Hp) (Q:VK):Prop
 | mk (a:Addr) (ts:List (List Int)) (M:Nat) (h_0:vs=[.ref a]) (h_1:TupR IntsT H a ts) (h_2:Turns M ts) (h_3:M≤40) (h_4:∀ H',Same H H'->Q (.int ((landsF (nxt ts) M).length:Int)) H'):SpLanR vs H Q
def spLan:Sp:=fun vs H Q _=>SpLanR vs H Q
theorem scLa5:FnScope ["_law_turns","_law_behind","_law_turn","_law_k","_law_many","_law_here"] ["_law_turns"] (defScope s_law_lands):=⟨rfl,rfl,rfl,by decide +kernel,rfl,by decide +kernel,by decide +kernel⟩
set_option maxHeartbeats 4000000 in
theorem ok_lan (F:Fun K "_law_lands" "_law_lands" s_law_lands f fd) (ml:mg "len" = none) (mr:mg "range" = none) (mn:mg "min" = none) (mli:mg "list" = none):FnOk P w K mg base CX0 1 f fd ["_law_turns"] spLan:=by
 refine F.ok scLa5 (fun vs H Q E h=>?_) (fun cdv A outer s H vs Q E hr h=>?_)
 ·obtain ⟨a,ts,M,rfl,_⟩:=h
  rfl
 obtain ⟨a,ts,M,rfl,⟨bs,ha,hB⟩,T,hM,q⟩:=h
 have hu:=hu_of hr
 have hu0:(A.deeper (PyProof.Rows.envOfC "_law_lands" (defScope s_law_lands) s.heap.objs.size f cdv)).units<PySem.cLine:=by omega
 refine ⟨_,pss_cons (ps_set (i:=1) scLa5.nd rfl (Or.inl rfl) pe_dnewK)
  (pss_cons (ps_for PassesOwn.never rfl (piTup (K:=K) (pv 0)) (pg_name (i:=2) scLa5.nd rfl (Or.inl rfl))
   (pss_one (ps_for PassesOwn.never rfl (pi_range1 (by rfl) mr (pa_cons (pe_callB (callLen (K:=K)) (by rfl) ml bt_len (pa_cons (pv 2) pa_nil)) pa_nil)) (pg_name (i:=3) scLa5.nd rfl (Or.inl rfl))
    (pss_one (ps_dput hu (pv 1) (pe_op op_xor (pe_ix (ixT (K:=K)) (pv 2) (pv 3) (fun _ _=>rfl)) pe_int) (pe_ix (ixT (K:=K)) (pv 2) (pe_op op_sub (pv 3) pe_int) (fun _ _=>rfl)) rfl)))))
  (pss_cons (ps_set (i:=4) scLa5.nd rfl (Or.inl rfl) pe_int)
  (pss_cons (ps_while PassesOwn.never (pt_cmpR (op_neDz hu0) (pv 1) pe_dnewK (nomark _))
   (pss_cons (ps_set (i:=5) scLa5.nd rfl (Or.inl rfl) (pe_callB (call_minL rfl) (by rfl) mn bt_min (pa_cons (pe_callTy (call_lstD rfl) (by rfl) mli bt_list (pa_cons (pv 1) pa_nil)) pa_nil)))
   (pss_cons (ps_set (i:=4) scLa5.nd rfl (Or.inl rfl) (pe_op op_add (pv 4) pe_int))
   (pss_one (ps_while PassesOwn.never (pt_cmp (pc_din hu (pv 5) (pv 1)) (by with_unfolding_all rfl))
    (pss_one (ps_set (i:=5) scLa5.nd rfl (Or.inl rfl) (pe_dpop1 (pv 1) (pv 5) ⟨rfl,rfl,rfl,rfl⟩))))))))
  (pss_one (ps_ret (pv 4)))))),?_⟩
 have PM:=T.perm
 refine fun d hd=>?_
 have s1:=same_new hd (.dK [])
 have e1:(upd H d (.dK [])) d=some (.dK (kvI (behL (aheadL (ts.take 0))))):=upd_same
 dsimp only
 refine name_goH ?_
 refine seq_hide fun UL hUL=>?_
 generalize upd H d (.dK [])=H1 at s1 e1
 refine ⟨_,rfl,a,rfl,⟨_,SqT.of (s1 _ _ ha)⟩,?_⟩
 refine for_tup (xs:=bs.map V.ref) (fun i σ H2=>(∃ t k,σ=[some (.ref a),some (.ref d),t,k,none,none])∧Same H H2∧H2 d=some (.dK (kvI (behL (aheadL (ts.take i)))))) ⟨⟨none,none,rfl⟩,s1,e1⟩ (fun i σ H2 _ ⟨_,s,_⟩=>SqT.of (s _ _ ha)) ?_ ?_
 ·rintro i x σ H2 hx ⟨⟨t0,k0,rfl⟩,sm,hd2⟩
  obtain ⟨c,row,rfl,_,hrow,hc'⟩:=hB.ref hx
  have hc:H c=some (.tup (row.map V.int)):=hc'
  have tl:row.length≤M:=by rw [←T.len]; exact flat_sub (List.mem_of_getElem? hrow)
  dsimp only
  refine name_goH ?_
  refine ⟨_,rfl,c,_,rfl,.inr (SqT.of (sm _ _ hc)),(row.length:Int),by rw [List.length_map],by omega,by omega,?_⟩
  rw [show ((row.length:Nat):Int).toNat=row.length by omega]
  refine for_range (n:=row.length) (fun j σ H3=>(∃ k,σ=[some (.ref a),some (.ref d),some (.ref c),k,none,none])∧Same H H3∧H3 d=some (.dK (kvI (behL (aheadL (ts.take i)++(rowP row).take j))))) ⟨⟨_,rfl⟩,sm,by rw [List.take_zero,List.append_nil]; exact hd2⟩ ?_ ?_
  ·rintro j σ H3 hj ⟨⟨k1,rfl⟩,sm3,hd3⟩
   have he:row[j]?=some row[j]:=List.getElem?_eq_getElem hj
   generalize row[j]=e at he
   have keys:(behL (aheadL (ts.take i)++(rowP row).take j)).map (·.1)=((ts.take i).flatten++row.take j).map oth:=by
    rw [behL_keys,List.map_append,aheadL_fst,List.map_take,rowP_fst]
   have fr:oth e∉(behL (aheadL (ts.take i)++(rowP row).take j)).map (·.1):=by
    rw [keys]
    intro z
    obtain ⟨y,hy,ey⟩:=List.mem_map.mp z
    rw [oth_inj ey] at hy
    exact fresh_end T.nd hrow he hy
   have ln:(kvI (behL (aheadL (ts.take i)++(rowP row).take j))).length<sizeLine:=by
    have l1:=congrArg List.length keys
    rw [List.length_map,List.length_map] at l1
    have l2:((ts.take i).flatten++row.take j).length≤M:=by
     rw [←T.len]
     have e1:ts=ts.take i++ts.drop i:=(List.take_append_drop i ts).symm
     have hd:ts.drop i=row :: ts.drop (i+1):=by
      obtain ⟨hi,q1⟩:=List.getElem?_eq_some_iff.mp hrow
      rw [←q1,List.getElem_cons_drop]
     have e2:ts.flatten.length=(ts.take i).flatten.length+(row.length+(ts.drop (i+1)).flatten.length):=by
      conv=>lhs; rw [e1,hd]
      rw [List.flatten_append,List.flatten_cons,List.length_append,List.length_append]
     rw [e2,List.length_append,List.length_take]
     omega
    unfold kvI
    rw [List.length_map,l1]
    exact szl (by omega)
   have hin:InR M e:=(T.mem e).mp (List.mem_flatten.mpr ⟨row,List.mem_of_getElem? hrow,List.mem_of_getElem? he⟩)
   have ex:=xorI hin hM
   refine ⟨_,rfl,_,rfl,_,_,rfl,rfl,c,_,_,_,rfl,rfl,SqT.of (sm3 _ _ hc),by rw [Int.zero_add]; exact at_prev hj,_,rfl,_,rfl,_,rfl,c,_,_,_,rfl,rfl,SqT.of (sm3 _ _ hc),by rw [Int.zero_add]; exact atI_nat (at_int he),_,_,rfl,rfl,d,_,rfl,DPut.k (k:=Sum.inl (Builtin.bitXor e 1)) hd3 ln,?_⟩
   refine ⟨⟨_,rfl⟩,sm3.up hd _,?_⟩
   have rp:(rowP row)[j]?=some (e,prevAt row j):=by
    unfold rowP
    rw [List.getElem?_map,List.getElem?_range hj]
    show some (row.getD j 0,prevAt row j)=_
    rw [List.getD_eq_getElem?_getD,he]
    rfl
   rw [upd_same,ex,put_kvI fr,take_snoc rp,←List.append_assoc]
   unfold behL
   rw [List.map_append (l₁:=aheadL (ts.take i)++(rowP row).take j)]
   rfl
  ·rintro σ H3 ⟨⟨k1,rfl⟩,sm3,hd3⟩
   refine ⟨⟨_,_,rfl⟩,sm3,?_⟩
   rw [hd3,take_snoc hrow,aheadL_snoc,show (rowP row).take row.length=rowP row from List.take_of_length_le (by rw [rowP_len]; exact Nat.le_refl _)]
 rintro σ H2 ⟨⟨t0,k0,rfl⟩,s2,hd2⟩
 subst hUL
 rw [List.length_map,hB.1,List.take_of_length_le (Nat.le_refl _)] at hd2
 have D0:=beh_first T
 generalize behL (aheadL ts)=L0 at hd2 D0
 generalize nxt ts=φ at PM D0 q
 dsimp only
 refine seq_hide fun U2 hU2=>?_
 show U2 [some (.ref a),some (.ref d),t0,k0,some (.int 0),none] H2
 subst hU2
 refine while_by (fun σ H3=>∃ (i:Nat) (L:List (Int×Int)) (v:Option V),i≤M∧σ=[some (.ref a),some (.ref d),t0,k0,some (.int ((landsF φ i).length:Int)),v]∧Same H H3∧H3 d=some (.dK (kvI L))∧DicF φ M (landsF φ i).flatten L)
  (fun _ H3=>match H3 d with | some (.dK kvs)=>kvs.length | _=>0) ⟨0,L0,none,Nat.zero_le _,rfl,s2,hd2,D0⟩ ?_ ?_
 ·rintro σ H3 ⟨i,L,v,hi,rfl,s3,hd3,D3⟩
  refine ⟨_,rfl,fun p hp=>?_⟩
  have s4:=same_new hp (.dK [])
  have e4:(upd H3 p (.dK [])) p=some (.dK []):=upd_same
  generalize upd H3 p (.dK [])=H4 at s4 e4
  refine ⟨d,p,kvI L,rfl,rfl,s4 _ _ hd3,e4,_,rfl,?_⟩
  by_cases hL:L=[]
  ·subst hL
   refine iteF ?_
   have all:∀ k:Nat,k<M->(k:Int)∈(landsF φ i).flatten:=fun k hk=>Classical.byContradiction fun z=>by
    have:=(D3.key (k:Int)).mpr ⟨⟨by omega,by omega⟩,z⟩
    cases this
   have:=lands_up PM (Nat.le_refl M) (fun k _ hk=>all k hk) hi
   exact ⟨_,rfl,by rw [←this]; exact q _ (s3.trans s4)⟩
  ·have ne:(!(kvI L).isEmpty)=true:=by
    cases L with
    | nil=>exact absurd rfl hL
    | cons _ _=>rfl
   rw [ne]
   refine iteT ?_
   refine ⟨_,rfl,d,_,rfl,s4 _ _ hd3,fun l hl=>?_⟩
   have s5:=same_new hl (.lst ((kvI L).map fun p=>kV p.1))
   have e5:(upd H4 l (.lst ((kvI L).map fun p=>kV p.1))) l=some (.lst ((L.map (·.1)).map V.int)):=by rw [upd_same,keys_kvI]
   generalize upd H4 l (.lst ((kvI L).map fun p=>kV p.1))=H5 at s5 e5
   refine ⟨l,L.map (·.1),rfl,e5,by rw [List.length_map]; exact List.length_pos_iff.mpr hL,fun m mm mle=>?_⟩
   obtain ⟨min,mns⟩:=(D3.key m).mp mm
   obtain ⟨j,rfl⟩:=Int.eq_ofNat_of_zero_le min.1
   have jM:j<M:=by have:=min.2; omega
   have ij:i≤j:=Nat.not_lt.mp fun z=>mns (lands_in PM hi z)
   have eu:landsF φ j=landsF φ i:=lands_up PM (by omega) (fun k hk1 hk2=>Classical.byContradiction fun z=>by
    have:=mle (k:Int) ((D3.key _).mpr ⟨⟨by omega,by omega⟩,z⟩)
    omega) ij
   have en:landsF φ (j+1)=landsF φ i++[ring φ (j:Int)]:=by rw [landsF_neg (by rw [eu]; exact mns),eu]
   have PEr:=per_is PM min
   have LB:=landsF_ok PM i hi
   have apart:=ring_apart PM min (S:=(landsF φ i).flatten) (fun x hx h=>LB.bwd PM hx h) mns
   refine ⟨_,rfl,_,_,rfl,rfl,?_⟩
   refine while_by (fun σ H6=>∃ (t:Nat) (L':List (Int×Int)),t≤per φ (j:Int)∧σ=[some (.ref a),some (.ref d),t0,k0,some (.int (((landsF φ i).length:Int)+1)),some (.int (itn φ t (j:Int)))]∧Same H H6∧H6 d=some (.dK (kvI L'))∧DicF φ M ((landsF φ i).flatten++ringL φ (j:Int) t) L'∧(t=0∧L'=L∨L'.length<L.length))
    (fun _ H6=>match H6 d with | some (.dK kvs)=>kvs.length | _=>0) ⟨0,L,Nat.zero_le _,rfl,s3.trans (s4.trans s5),s5 _ _ (s4 _ _ hd3),by rw [show ringL φ (j:Int) 0=[] from rfl,List.append_nil]; exact D3,.inl ⟨rfl,rfl⟩⟩ ?_ ?_
   ·rintro σ H6 ⟨t,L',ht,rfl,s6,hd6,D6,hlen⟩
    refine ⟨_,rfl,_,rfl,d,_,rfl,DGet.k (k:=Sum.inl (itn φ t (j:Int))) hd6,_,rfl,?_⟩
    rw [val_kvI]
    by_cases z:t<per φ (j:Int)
    ·have ein:InR M (itn φ t (j:Int)):=itn_in PM min t
     have ens:itn φ t (j:Int)∉(landsF φ i).flatten++ringL φ (j:Int) t:=fun y=>by
      rcases List.mem_append.mp y with y | y
      ·exact apart _ (ringL_mem.mpr ⟨t,z,rfl⟩) y
      ·have nd:=ring_nodup PM min (m:=t+1) (fun k k1 k2=>PEr.2.2 k k1 (by omega))
       rw [ringL_snoc,List.nodup_append] at nd
       exact nd.2.2 _ y _ (List.mem_singleton_self _) rfl
     have lv:=D6.val _ ein ens
     have km:itn φ t (j:Int)∈L'.map (·.1):=(D6.key _).mpr ⟨ein,ens⟩
     rw [lv]
     refine iteT ?_
     refine ⟨_,rfl,d,rfl,.inl ⟨_,.inl hd6⟩,_,rfl,kvI L',Sum.inl (itn φ t (j:Int)),.int (φ (itn φ t (j:Int))),hd6,rfl,by rw [val_kvI,lv]; rfl,?_⟩
     refine ⟨⟨t+1,dropI L' (itn φ t (j:Int)),z,rfl,s6.up hd _,?_,?_,?_⟩,?_⟩
     ·rw [upd_same,dropK_kvI]
     ·rw [ringL_snoc,←List.append_assoc]
      exact D6.pop _
     ·have:=drop_lt km
      rcases hlen with ⟨_,y⟩ | y
      ·rw [y] at this ⊢
       exact .inr this
      ·exact .inr (by omega)
     ·rw [upd_same,hd6]
      show (dropK (kvI L') (Sum.inl (itn φ t (j:Int)))).length<(kvI L').length
      rw [dropK_kvI]
      unfold kvI
      rw [List.length_map,List.length_map]
      exact drop_lt km
    ·have et:t=per φ (j:Int):=by omega
     have e0:itn φ t (j:Int)=(j:Int):=by rw [et]; exact PEr.2.1
     have hin:itn φ t (j:Int)∈(landsF φ i).flatten++ringL φ (j:Int) t:=List.mem_append_right _ (ringL_mem.mpr ⟨0,by rw [et]; exact PEr.1,e0.symm⟩)
     have nk:itn φ t (j:Int)∉L'.map (·.1):=fun y=>((D6.key _).mp y).2 hin
     rw [lk_none nk]
     refine iteF ?_
     refine ⟨⟨j+1,L',some (.int (itn φ t (j:Int))),by omega,?_,s6,hd6,?_⟩,?_⟩
     ·rw [en,List.length_append]
      rfl
     ·rw [en,List.flatten_append]
      have:([ring φ (j:Int)]:List (List Int)).flatten=ringL φ (j:Int) t:=by
       rw [et]
       show ring φ (j:Int)++[]=_
       rw [List.append_nil]
       rfl
      rw [this]
      exact D6
     ·rw [hd6,hd3]
      show (kvI L').length<(kvI L).length
      unfold kvI
      rw [List.length_map,List.length_map]
      rcases hlen with ⟨y,_⟩ | y
      ·have:=PEr.1
       omega
      ·exact y
   ·rintro σ H6 Q1 Q2 hq ⟨v,e,v',e',a1,o1,hx,hg,bb,eb,z⟩
    exact ⟨v,e,v',e',a1,o1,hx,hg,bb,eb,hq _ _ z⟩
 ·rintro σ H3 Q1 Q2 hq ⟨v,e,k⟩
  refine ⟨v,e,fun p hp=>?_⟩
  obtain ⟨a1,b1,kvs,h1,h2,h3,h4,bb,eb,z⟩:=k p hp
  exact ⟨a1,b1,kvs,h1,h2,h3,h4,bb,eb,hq _ _ z⟩
end
end My
namespace My
open PySem L2 Mth
def resH (H:Hp) (n:Int) (rs:List Raw) (ts:List (List Int)) (o:Addr):ShF->Prop
 | .net w=>H o=some (.tup [.str "net",.str w])
 | .rope k w=>H o=some (.tup [.str "rope",.int (k:Int),.str w])
 | .turn p=>H o=some (.tup [.str "turn",.int (p:Int)])
 | .loose p=>H o=some (.tup [.str "loose",.int (p:Int)])
 | .flat l=>H o=some (.tup [.str "flat",.int (l:Int)])
 | .told=>∃ p a c,H o=some (.tup [.str "told",.ref p])∧H p=some (.tup [.int n,.ref a,.ref c])∧TupR RawR H a rs∧TupR IntsT H c (ts.map begL)
theorem mo_rw {H H':Hp} {a:Addr} {rs:List Raw} (s:Same H H') (h:TupR RawR H a rs):TupR RawR H' a rs:=mo_tup (R:=RawR) (fun s h=>mo_raw s h) s h
def EuX (n:Nat) (rs:List Rope) (ts:List (List Int)) (H:Hp) (x:V):Prop:=(x=.non∧(∀ p,p<n->tOk rs ts p)∧ts.length≤n)∨∃ (p:Nat) (o:Addr),x=.ref o∧((p<n∧¬ tOk rs ts p∧∀ i,i<p->tOk rs ts i)∨((∀ i,i<n->tOk rs ts i)∧n<ts.length∧p=n))∧H o=some (.tup [.str "turn",.int (p:Int)])
def LsX (n:Nat) (rs:List Rope) (H:Hp) (x:V):Prop:=(x=.non∧∀ p,p<n->Rch rs p)∨∃ (p:Nat) (o:Addr),x=.ref o∧(p<n∧¬ Rch rs p∧∀ i,i<p->Rch rs i)∧H o=some (.tup [.str "loose",.int (p:Int)])
theorem mo_eu {n:Nat} {rs:List Rope} {ts:List (List Int)} {H H':Hp} {x:V} (s:Same H H') (h:EuX n rs ts H x):EuX n rs ts H' x:=by
 rcases h with h | ⟨p,o,h1,h2,h3⟩
 ·exact .inl h
 ·exact .inr ⟨p,o,h1,h2,s _ _ h3⟩
theorem mo_lx {n:Nat} {rs:List Rope} {H H':Hp} {x:V} (s:Same H H') (h:LsX n rs H x):LsX n rs H' x:=by
 rcases h with h | ⟨p,o,h1,h2,h3⟩
 ·exact .inl h
 ·exact .inr ⟨p,o,h1,h2,s _ _ h3⟩
section
variable {H:Hp} {Q:VK} {E:XK} {a b:Addr} {n:Nat} {rs:List Rope} {ts:List (List Int)}
theorem eu_go (n2:2≤n) (n15:n≤15) (m14:rs.length≤14) (hR:TupR RopeR H a rs) (hrs:∀ r∈rs,r.1<n∧r.2.1<n) (hT:TupR IntsT H b ts) (htl:∀ t∈ts,t.length<64) (q:∀ x H',Same H H'->EuX n rs ts H' x->Q x H'):spEDu [.int (n:Int),.ref a,.ref b] H Q E :=
 .mk n a b rs ts rfl n2 n15 m14 hR hrs hT htl (fun h1 h2 H' s=>q _ H' s (.inl ⟨rfl,h1,h2⟩)) (fun p o H' h1 h2 h3 s h=>q _ H' s (.inr ⟨p,o,rfl,.inl ⟨h1,h2,h3⟩,h⟩)) fun o H' h1 h2 s h=>q _ H' s (.inr ⟨n,o,rfl,.inr ⟨h1,h2,rfl⟩,h⟩)
theorem ls_go (n0:0<n) (n15:n≤15) (m14:rs.length≤14) (hR:TupR RopeR H a rs) (hrs:∀ r∈rs,r.1<n∧r.2.1<n) (q:∀ x H',Same H H'->LsX n rs H' x->Q x H'):spLs [.int (n:Int),.ref a] H Q E :=
 .mk n a rs rfl n0 n15 hR m14 hrs (fun h H' s=>q _ H' s (.inl ⟨rfl,h⟩)) fun p h1 h2 h3 o H' s h=>q _ H' s (.inr ⟨p,o,rfl,⟨h1,h2,h3⟩,h⟩)
end
section
variable {P:Program} {w:World} {K:PySem.W.Frag} {mg:Str->Option Value} {base:Heap} {f g h f1 f2 f3 f4 f5 fI:Addr} {fd gd hd d1 d2 d3 d4 d5 dI:FuncData}
inductive SpDueR (vs:List V) (H:Hp) (Q:VK):Prop
 | mk (n:Int) (a b:Addr) (rs:List Raw) (ts:List (List Int)) (h_0:vs=[.int n,.ref a,.ref b]) (h_1:TupR RawR H a rs) (h_2:TupR IntsT H b ts) (h_3:∀ t∈ts,t.length<64) (h_4:∀ d o H',Same H H'->DueP n rs ts d->resH H' n rs ts o d->Q (.ref o) H'):SpDueR vs H Q
def spDue:Sp:=fun vs H Q _=>SpDueR vs H Q
theorem scDu5:FnScope ["_law_places","_law_ropes","_law_turns","_law_number","_law_rope","_law_due_here","_law_lands_here"] ["_law_places","_law_ropes","_law_turns"] (defScope s_law_due):=⟨rfl,rfl,rfl,by decide +kernel,rfl,by decide +kernel,by decide +kernel⟩
theorem ndLT5:(["_law_turn"]:List Str).Nodup:=by decide +kernel
set_option maxHeartbeats 4000000 in
theorem ok_due (F:Fun K "_law_due" "_law_due" s_law_due f fd) (G1:FnOk P w K mg base CX0 2 f1 d1 ["_law_places","_law_number","_law_rope"] spRD) (b1:Binds K d1 ["_law_places","_law_number","_law_rope"] []) (k1:PySem.W.keepIn K (.ref f1)=true) (m1:mg "_law_rope_due" = some (.ref f1))
  (G2:FnOk P w K mg base CX0 1 f2 d2 ["_law_places","_law_ropes","_law_turns"] spEDu) (b2:Binds K d2 ["_law_places","_law_ropes","_law_turns"] []) (k2:PySem.W.keepIn K (.ref f2)=true) (m2:mg "_law_ends_due" = some (.ref f2))
  (G3:FnOk P w K mg base CX0 1 f3 d3 ["_law_places","_law_ropes"] spLs) (b3:Binds K d3 ["_law_places","_law_ropes"] []) (k3:PySem.W.keepIn K (.ref f3)=true) (m3:mg "_law_loose_due" = some (.ref f3))
  (G4:FnOk P w K mg base CX0 1 f4 d4 ["_law_turns"] spLan) (b4:Binds K d4 ["_law_turns"] []) (k4:PySem.W.keepIn K (.ref f4)=true) (m4:mg "_law_lands" = some (.ref f4))
  (G5:FnOk P w K mg base CX0 1 f5 d5 ["_law_turn"] spBeg) (b5:Binds K d5 ["_law_turn"] []) (k5:PySem.W.keepIn K (.ref f5)=true) (m5:mg "_law_begun" = some (.ref f5)) (ml:mg "len" = none) (me:mg "enumerate" = none) (mt:mg "tuple" = none) :
  FnOk P w K mg base CX0 3 f fd ["_law_places","_law_ropes","_law_turns"] spDue:=by
 refine F.ok scDu5 (fun vs H Q E h=>?_) (fun cdv A outer s H vs Q E hr h=>?_)
 ·obtain ⟨n,a,b,rs,ts,rfl,_⟩:=h
  rfl
 obtain ⟨n,a,b,rs,ts,rfl,hR,hT,htl,q⟩:=h
 have r1:=hr.mono (show 1≤2 by decide)
 refine ⟨_,pss_cons (ps_if (pt_not (pt_chain op_lt op_lt pe_int (pv 0) pe_int)) (pss_one (ps_ret (pe_tup (pa_cons pe_str (pa_cons pe_str pa_nil))))) pss_nil)
  (pss_cons (ps_if (pt_not (pt_chain op_lt op_lt pe_int (pe_callB (callLen (K:=K)) (by rfl) ml bt_len (pa_cons (pv 1) pa_nil)) pe_int)) (pss_one (ps_ret (pe_tup (pa_cons pe_str (pa_cons pe_str pa_nil))))) pss_nil)
  (pss_cons (ps_for PassesOwn.never rfl (pi_enum (by rfl) me (pa_cons (pv 1) pa_nil)) (pgTup (n:=2) (K:=K) rfl (pgs_cons (pg_name (i:=3) scDu5.nd rfl (Or.inl rfl)) (pgs_cons (pg_name (i:=4) scDu5.nd rfl (Or.inl rfl)) pgs_nil)))
   (pss_cons (ps_set (i:=5) scDu5.nd rfl (Or.inl rfl) (pe_call G1 hr (by rfl) m1 k1 b1 .nil pass0 (pa_cons (pv 0) (pa_cons (pv 3) (pa_cons (pv 4) pa_nil)))))
   (pss_one (ps_if (pt_cmpR op_notN (pv 5) pe_non (nomark _)) (pss_one (ps_ret (pv 5))) pss_nil))))
  (pss_cons (ps_for PassesOwn.never rfl (piLst (K:=K) (pe_lst (pa_cons (pe_call G2 r1 (by rfl) m2 k2 b2 .nil pass0 (pa_cons (pv 0) (pa_cons (pv 1) (pa_cons (pv 2) pa_nil)))) (pa_cons (pe_call G3 r1 (by rfl) m3 k3 b3 .nil pass0 (pa_cons (pv 0) (pa_cons (pv 1) pa_nil))) pa_nil)))) (pg_name (i:=5) scDu5.nd rfl (Or.inl rfl))
   (pss_one (ps_if (pt_cmpR op_notN (pv 5) pe_non (nomark _)) (pss_one (ps_ret (pv 5))) pss_nil)))
  (pss_cons (ps_set (i:=6) scDu5.nd rfl (Or.inl rfl) (pe_call G4 r1 (by rfl) m4 k4 b4 .nil pass0 (pa_cons (pv 2) pa_nil)))
  (pss_cons (ps_if (pt_cmpR op_ne (pe_op op_add (pe_op op_sub (pe_op op_sub (pv 0) (pe_callB (callLen (K:=K)) (by rfl) ml bt_len (pa_cons (pv 1) pa_nil))) pe_int) (pv 6)) pe_int (nomark _)) (pss_one (ps_ret (pe_tup (pa_cons pe_str (pa_cons (pv 6) pa_nil))))) pss_nil)
  (pss_one (ps_ret (pe_tup (pa_cons pe_str (pa_cons (pe_tup (pa_cons (pv 0) (pa_cons (pv 1) (pa_cons (pe_callTy (callTup (K:=K)) (by rfl) mt bt_tuple (pa_cons (pe_comp (Nc:=["_law_turn"]) (cap:=[]) (g:=gName 0) (te:=tCall spBeg [] E0 (tCons (tVar 0) tNil)) rfl (piTup (K:=K) (pv 2))
    (comp_mk rfl rfl (by decide +kernel) (by decide +kernel) (List.forall_mem_nil _) rfl (List.forall_mem_nil _)) (fun C fp pins s' H'=>pg_name (i:=0) ndLT5 rfl (Or.inl rfl)) (fun C fp pins s' H'=>pe_call G5 r1 (by rfl) m5 k5 b5 .nil pass0 (pa_cons (pv 0) pa_nil))) pa_nil)) pa_nil)))) pa_nil)))))))))),?_⟩
 obtain ⟨bs,ha,hB⟩:=id hR
 have lbs:(bs.map V.ref).length=rs.length:=by rw [List.length_map,hB.1]
 have netO:∀ wd:Str,DueP n rs ts (.net wd)->∀ o,H o=none->Q (.ref o) (upd H o (.tup [.str "net",.str wd])):=fun wd z o ho=>q (.net wd) o _ (same_new ho _) z upd_same
 have d0:¬ (2≤n∧n≤15)->DueP n rs ts (.net "places"):=fun z=>⟨ups0,fun y=>z y.1,by show ("places":Str)=_; rw [if_neg z]⟩
 refine ⟨_,rfl,_,_,rfl,rfl,_,rfl,?_⟩
 by_cases x1:1<n
 rotate_left
 ·exact iteDF x1 ⟨_,rfl,iteT ⟨by show 2≤sizeLine; decide,netO _ (d0 (by omega))⟩⟩
 refine iteDT x1 ⟨_,_,rfl,rfl,_,rfl,?_⟩
 by_cases x2:n<16
 rotate_left
 ·rw [decide_eq_false x2]
  exact iteT ⟨by show 2≤sizeLine; decide,netO _ (d0 (by omega))⟩
 rw [decide_eq_true x2]
 refine iteF ?_
 have nn:2≤n∧n≤15:=⟨by omega,by omega⟩
 have d1':¬ (1≤rs.length∧rs.length≤14)->DueP n rs ts (.net "ropes"):=fun z=>⟨ups0,fun y=>z y.2,by show ("ropes":Str)=_; rw [if_pos nn]⟩
 refine ⟨_,rfl,a,_,rfl,.inr (SqT.of ha),_,_,rfl,rfl,_,rfl,?_⟩
 rw [lbs]
 by_cases x3:0<(rs.length:Int)
 rotate_left
 ·exact iteDF x3 ⟨_,rfl,iteT ⟨by show 2≤sizeLine; decide,netO _ (d1' (by omega))⟩⟩
 refine iteDT x3 ⟨_,_,rfl,rfl,_,rfl,?_⟩
 by_cases x4:(rs.length:Int)<15
 rotate_left
 ·rw [decide_eq_false x4]
  exact iteT ⟨by show 2≤sizeLine; decide,netO _ (d1' (by omega))⟩
 rw [decide_eq_true x4]
 refine iteF ?_
 have l14:rs.length≤14:=by omega
 have U1:∀ i,i<1->stP n rs ts i:=ups_s ups0 ⟨nn,by omega,l14⟩
 dsimp only [tNext]
 refine seq_hide fun UL hUL=>?_
 refine ⟨_,rfl,a,_,rfl,ha,?_⟩
 refine for_enum (xs:=bs.map V.ref) (fun i σ H2=>(∃ u v w',σ=[some (.int n),some (.ref a),some (.ref b),u,v,w',none])∧Same H H2∧∀ (j:Nat) r,j<i->rs[j]?=some r->okRp n r) ⟨⟨none,none,none,rfl⟩,Same.refl _,fun j r h=>by omega⟩ (fun i σ H2 _ ⟨_,s2,_⟩=>s2 _ _ ha) ?_ ?_
 ·rintro i x σ H2 p2 hx ⟨⟨u,v,w',rfl⟩,s2,hj⟩ hp2
  obtain ⟨c,r,rfl,_,hy,hc⟩:=hB.ref hx
  have s3:=s2.trans (same_new hp2 (.tup [.int i,.ref c]))
  refine ⟨p2,_,rfl,SqT.of upd_same,rfl,_,_,rfl,_,_,rfl,rfl,?_⟩
  generalize upd H2 p2 (.tup [.int i,.ref c])=H3 at s3
  refine ⟨_,rfl,_,rfl,_,rfl,n,(i:Int),c,r,rfl,mo_raw s3 hc,fun ok=>?_,fun nok o H4 s4 ho=>?_⟩
  ·refine ⟨_,rfl,rfl,_,rfl,?_⟩
   refine iteNS rfl ⟨⟨_,_,_,rfl⟩,s3,fun j r' h1 h2=>?_⟩
   rcases Nat.lt_or_ge j i with y | y
   ·exact hj j r' y h2
   ·obtain rfl:j=i:=by omega
    rw [hy] at h2
    cases h2
    exact ok
  ·refine ⟨_,rfl,rfl,_,rfl,?_⟩
   refine iteNN (by intro y; cases y) ?_
   exact ⟨_,rfl,q (.rope i (if okPl n r then "ease" else "place")) o H4 (s3.trans s4) ⟨U1,fun y=>nok ((show ∀ r∈rs,okRp n r from y) r (List.mem_of_getElem? hy)),r,hy,nok,hj,by split <;> rfl⟩ ho⟩
 rintro σ H2 ⟨⟨u,v,w',rfl⟩,s2,hj⟩
 subst hUL
 have okA:∀ r∈rs,okRp n r:=fun r hr=>by
  obtain ⟨i,hi⟩:=List.mem_iff_getElem?.mp hr
  exact hj i r (by rw [lbs]; exact (List.getElem?_eq_some_iff.mp hi).1) hi
 have U2:∀ i,i<2->stP n rs ts i:=ups_s U1 okA
 obtain ⟨N,rfl⟩:=Int.eq_ofNat_of_zero_le (show 0≤n by omega)
 have eN:((N:Nat):Int).toNat=N:=Int.toNat_natCast N
 have hRp:=raws_ropes hR okA
 have hrs:∀ r∈rs.map toRp,r.1<N∧r.2.1<N:=fun r hr=>by
  obtain ⟨r',hr',rfl⟩:=List.mem_map.mp hr
  obtain ⟨⟨⟨a1,a2⟩,a3,a4⟩,_⟩:=okA r' hr'
  exact ⟨by show r'.1.toNat<N; omega,by show r'.2.1.toNat<N; omega⟩
 have lm:(rs.map toRp).length=rs.length:=List.length_map ..
 have N2:2≤N:=by omega
 have N15:N≤15:=by omega
 refine ⟨_,rfl,_,rfl,_,rfl,eu_go (E:=E0) N2 N15 (by rw [lm]; exact l14) (mo_rr s2 hRp) hrs (mo_tt s2 hT) htl fun y1 H3 s3 e3=>?_⟩
 refine ⟨_,rfl,_,rfl,ls_go (E:=E0) (by omega) N15 (by rw [lm]; exact l14) (mo_rr (s2.trans s3) hRp) hrs fun y2 H4 s4 e4=>?_⟩
 refine ⟨by show 2≤sizeLine; decide,fun L hL=>?_⟩
 have s5:=same_new hL (.lst [y1,y2])
 have e5:(upd H4 L (.lst [y1,y2])) L=some (.lst [y1,y2]):=upd_same
 generalize upd H4 L (.lst [y1,y2])=H5 at s5 e5
 have f3:=mo_eu (s4.trans s5) e3
 have f4:=mo_lx s5 e4
 have s05:=s2.trans (s3.trans (s4.trans s5))
 clear e3 e4
 refine ⟨L,rfl,⟨_,SqL.of e5⟩,?_⟩
 refine for_list (xs:=[y1,y2]) (fun i σ H6=>(∃ z,σ=[some (.int (N:Int)),some (.ref a),some (.ref b),u,v,z,none])∧Same H5 H6∧(1≤i->(∀ p,p<N->tOk (rs.map toRp) ts p)∧ts.length≤N)∧(2≤i->∀ p,p<N->Rch (rs.map toRp) p)) ⟨⟨_,rfl⟩,Same.refl _,fun z=>absurd z (by decide),fun z=>absurd z (by decide)⟩ (fun i σ H6 _ ⟨_,s6,_⟩=>SqL.of (s6 _ _ e5)) ?_ ?_
 ·rintro i x σ H6 hx ⟨⟨z0,rfl⟩,s6,h1,h2⟩
  dsimp only
  refine name_goH ?_
  match i,hx,h1 with
  | 0,hx,h1 =>
   cases hx
   rcases f3 with ⟨rfl,t1,t2⟩ | ⟨p,o,rfl,dt,ho⟩
   ·refine ⟨_,rfl,rfl,_,rfl,?_⟩
    exact iteNS rfl ⟨⟨_,rfl⟩,s6,fun _=>⟨t1,t2⟩,fun z=>absurd z (by decide)⟩
   ·refine ⟨_,rfl,rfl,_,rfl,?_⟩
    refine iteNN (by intro y; cases y) ?_
    refine ⟨_,rfl,q (.turn p) o H6 (s05.trans s6) ⟨U2,fun y=>?_,?_⟩ (s6 _ _ ho)⟩
    ·obtain ⟨y1,y2⟩:=y
     rw [eN] at y1 y2
     rcases dt with ⟨g1,g2,_⟩ | ⟨_,g,_⟩
     ·exact g2 (y1 p g1)
     ·omega
    ·show _∨_
     rw [eN]
     rcases dt with g | ⟨g1,_,g3⟩
     ·exact .inl g
     ·exact .inr ⟨g1,g3⟩
  | 1,hx,h1 =>
   cases hx
   have U3:∀ i,i<3->stP (N:Int) rs ts i:=ups_s U2 (by obtain ⟨g1,g2⟩:=h1 (Nat.le_refl _); exact ⟨by rw [eN]; exact g1,by rw [eN]; exact g2⟩)
   rcases f4 with ⟨rfl,t1⟩ | ⟨p,o,rfl,dt,ho⟩
   ·refine ⟨_,rfl,rfl,_,rfl,?_⟩
    exact iteNS rfl ⟨⟨_,rfl⟩,s6,fun _=>h1 (Nat.le_refl _),fun _=>t1⟩
   ·refine ⟨_,rfl,rfl,_,rfl,?_⟩
    refine iteNN (by intro y; cases y) ?_
    exact ⟨_,rfl,q (.loose p) o H6 (s05.trans s6) ⟨U3,fun y=>dt.2.1 (y p (by rw [eN]; exact dt.1)),by rw [eN]; exact dt.1,dt.2.1,dt.2.2⟩ (s6 _ _ ho)⟩
 rintro σ H6 ⟨⟨z0,rfl⟩,s6,h1,h2⟩
 obtain ⟨ok,tl⟩:=h1 (show 1≤2 by decide)
 have hg:=h2 (show 2≤2 by decide)
 have U3:∀ i,i<3->stP (N:Int) rs ts i:=ups_s U2 ⟨by rw [eN]; exact ok,by rw [eN]; exact tl⟩
 have U4:∀ i,i<4->stP (N:Int) rs ts i:=ups_s U3 fun p hp=>hg p (by rw [eN] at hp; exact hp)
 have TT:=turns_of N2 hrs ok tl
 rw [lm] at TT
 have s06:=s05.trans s6
 refine ⟨_,rfl,b,ts,2*rs.length+2,rfl,mo_tt s06 hT,TT,by omega,fun H7 s7=>?_⟩
 have s07:=s06.trans s7
 refine ⟨_,rfl,_,rfl,a,_,rfl,.inr (SqT.of (s07 _ _ ha)),_,_,rfl,rfl,_,_,rfl,rfl,_,rfl,_,_,rfl,rfl,rfl,_,rfl,?_⟩
 rw [lbs]
 by_cases z:((N:Int))-rs.length-1+(lndN rs ts:Int)=2
 rotate_left
 ·refine iteNN (ivn z) ⟨_,rfl,by show 2≤sizeLine; decide,fun o ho=>?_⟩
  exact q (.flat (lndN rs ts)) o _ (s07.trans (same_new ho _)) ⟨U4,z,rfl⟩ upd_same
 refine iteNS (iv z) ?_
 have U5:∀ i,i<5->stP (N:Int) rs ts i:=ups_s U4 z
 obtain ⟨tn,tne⟩:=told_len hg ok tl
 obtain ⟨us,hb,hV⟩:=id hT
 have hb7:=s07 _ _ hb
 refine ⟨_,rfl,_,rfl,_,rfl,b,rfl,⟨_,SqT.of hb7⟩,fun acc hacc=>?_⟩
 refine comp_run (run_tup hb7) (by rw [List.length_map,hV.1]; omega) hacc (fun i ys σ hp=>∃ ds:List Addr,ys=ds.map V.ref∧At IntsT hp ds ((ts.map begL).take i)∧∃ u,σ=[u]) ⟨[],rfl,At.nil,none,rfl⟩ ?_ ?_
 ·rintro i ys σ H8 x H9 hi sm hacc2 ⟨ds,rfl,hD,u,rfl⟩ ⟨rfl,hx⟩ Cc hC
  obtain ⟨c,t,rfl,_,hy,hc⟩:=hV.ref hx
  have tm:=List.mem_of_getElem? hy
  refine ⟨_,rfl,c,t,rfl,(s07.trans sm) _ _ hc,tne t tm,by have:=htl t tm; omega,fun p HA sA hp=>?_⟩
  refine hC _ _ _ sA ⟨ds++[p],by simp,?_,_,rfl⟩
  have ec:(ts.map begL)[i]?=some (begL t):=by rw [List.getElem?_map,hy]; rfl
  rw [take_snoc ec]
  exact (hD.keep mo_intsT (del_mono acc sA)).snoc (IntsT.del (t:=begL t) hp (sA _ _ hacc2))
 rintro ys σ H8 s8 ha8 hl8 ⟨gs,rfl,hG,u,rfl⟩
 rw [List.length_map,hV.1,List.take_of_length_le (by rw [List.length_map]; exact Nat.le_refl _)] at hG
 refine ⟨acc,_,rfl,.inl ⟨SqL.of ha8,fun pd hpd=>?_⟩⟩
 have s9:=same_new hpd (.tup (gs.map V.ref))
 have h9:TupR IntsT (upd H8 pd (.tup (gs.map V.ref))) pd (ts.map begL):=⟨gs,upd_same,(hG.keep mo_intsT (del_sub H8 acc)).keep mo_intsT s9⟩
 generalize upd H8 pd (.tup (gs.map V.ref))=H9 at s9 h9
 refine ⟨by show 3≤sizeLine; decide,fun p8 hp8=>⟨by show 2≤sizeLine; decide,fun p9 hp9=>?_⟩⟩
 have sA:=same_new hp8 (.tup [.int (N:Int),.ref a,.ref pd])
 have eA:(upd H9 p8 (.tup [.int (N:Int),.ref a,.ref pd])) p8=some (.tup [.int (N:Int),.ref a,.ref pd]):=upd_same
 generalize upd H9 p8 (.tup [.int (N:Int),.ref a,.ref pd])=HA at sA eA hp9
 have sB:=same_new hp9 (.tup [.str "told",.ref p8])
 have s0B:=s07.trans (s8.trans (s9.trans (sA.trans sB)))
 exact q .told p9 _ s0B ⟨U5,fun y=>y,trivial⟩ ⟨p8,a,pd,upd_same,sB _ _ eA,mo_rw s0B hR,mo_tt (sA.trans sB) h9⟩
end
end My
namespace My
open PySem L2 Mth
def PairR (H:Hp) (b:Addr) (x:Int×Int):Prop:=H b=some (.tup [.int x.1,.int x.2])
theorem mo_pair:Mo PairR:=fun s h=>s _ _ h
section
variable {P:Program} {w:World} {K:PySem.W.Frag} {mg:Str->Option Value} {base:Heap} {f g h f1 f2 f3 f4 f5 fI:Addr} {fd gd hd d1 d2 d3 d4 d5 dI:FuncData}
inductive SpOeR (vs:List V) (H:Hp) (Q:VK):Prop
 | mk (z:Int) (h_0:vs=[.int z]) (h_2:∀ p (t b:Int) H',Same H H'->H' p=some (.tup [.int t,.int b])->Q (.ref p) H'):SpOeR vs H Q
def spOe:Sp:=fun vs H Q _=>SpOeR vs H Q
theorem scOe:FnScope ["_law_cell","_law_some"] ["_law_cell"] (defScope s_law_other_ease):=⟨rfl,rfl,rfl,by decide +kernel,rfl,by decide +kernel,by decide +kernel⟩
set_option maxHeartbeats 4000000 in
seal L2.PSs L2.PS L2.PE L2.PA in
theorem ok_oe (F:Fun K "_law_other_ease" "_law_other_ease" s_law_other_ease f fd):FnOk P w K mg base CX0 1 f fd ["_law_cell"] spOe:=by
 refine F.ok scOe (fun vs H Q E h=>?_) (fun cdv A outer s H vs Q E hr h=>?_)
 ·obtain ⟨z,rfl,_⟩:=h
  rfl
 obtain ⟨z,rfl,q⟩:=h
 refine ⟨_,pss_cons (ps_set (i:=1) scOe.nd rfl (Or.inl rfl) (pe_lst (pa_cons (pe_tup (pa_cons pe_int (pa_cons pe_int pa_nil))) (pa_cons (pe_tup (pa_cons (pe_un un_neg pe_int) (pa_cons pe_int pa_nil))) (pa_cons (pe_tup (pa_cons pe_int (pa_cons pe_int pa_nil))) (pa_cons (pe_tup (pa_cons pe_int (pa_cons pe_int pa_nil))) (pa_cons (pe_tup (pa_cons pe_int (pa_cons (pe_un un_neg pe_int) pa_nil))) (pa_cons (pe_tup (pa_cons (pe_op op_pow pe_int pe_int) (pa_cons pe_int pa_nil))) (pa_cons (pe_tup (pa_cons pe_int (pa_cons (pe_op op_pow pe_int pe_int) pa_nil))) (pa_cons (pe_tup (pa_cons (pe_op op_sub (pe_op op_pow pe_int pe_int) pe_int) (pa_cons pe_int pa_nil))) (pa_cons (pe_tup (pa_cons pe_int (pa_cons pe_int pa_nil))) (pa_cons (pe_tup (pa_cons (pe_un un_neg pe_int) (pa_cons (pe_un un_neg pe_int) pa_nil))) pa_nil))))))))))))
  (pss_one (ps_ret (pe_ix (ixL (K:=K)) (pv 1) (pe_op op_mod (pv 0) pe_int) (fun _ _=>rfl)))),?_⟩
 have cp:CPow 10 40:=⟨by decide,by decide,by decide⟩
 have two:([V.int 0,V.int 0]:List V).length≤sizeLine:=by decide
 have a0:At PairR H [] []:=At.nil
 refine ⟨two,fun p0 hp0=>?_⟩
 have s0:=same_new hp0 (.tup [.int (0),.int (1)])
 have e0:PairR (upd H p0 (.tup [.int (0),.int (1)])) p0 (0,1):=upd_same
 generalize upd H p0 (.tup [.int (0),.int (1)])=H0 at s0 e0
 have a1:=(a0.keep mo_pair s0).snoc e0
 refine ⟨_,rfl,two,fun p1 hp1=>?_⟩
 have s1:=same_new hp1 (.tup [.int (-1),.int (2)])
 have e1:PairR (upd H0 p1 (.tup [.int (-1),.int (2)])) p1 (-1,2):=upd_same
 generalize upd H0 p1 (.tup [.int (-1),.int (2)])=H1 at s1 e1
 have a2:=(a1.keep mo_pair s1).snoc e1
 refine ⟨two,fun p2 hp2=>?_⟩
 have s2:=same_new hp2 (.tup [.int (2),.int (4)])
 have e2:PairR (upd H1 p2 (.tup [.int (2),.int (4)])) p2 (2,4):=upd_same
 generalize upd H1 p2 (.tup [.int (2),.int (4)])=H2 at s2 e2
 have a3:=(a2.keep mo_pair s2).snoc e2
 refine ⟨two,fun p3 hp3=>?_⟩
 have s3:=same_new hp3 (.tup [.int (1),.int (0)])
 have e3:PairR (upd H2 p3 (.tup [.int (1),.int (0)])) p3 (1,0):=upd_same
 generalize upd H2 p3 (.tup [.int (1),.int (0)])=H3 at s3 e3
 have a4:=(a3.keep mo_pair s3).snoc e3
 refine ⟨_,rfl,two,fun p4 hp4=>?_⟩
 have s4:=same_new hp4 (.tup [.int (1),.int (-1)])
 have e4:PairR (upd H3 p4 (.tup [.int (1),.int (-1)])) p4 (1,-1):=upd_same
 generalize upd H3 p4 (.tup [.int (1),.int (-1)])=H4 at s4 e4
 have a5:=(a4.keep mo_pair s4).snoc e4
 refine ⟨_,_,rfl,rfl,cp,two,fun p5 hp5=>?_⟩
 have s5:=same_new hp5 (.tup [.int (10 ^ ((40:Int).toNat)),.int (1)])
 have e5:PairR (upd H4 p5 (.tup [.int (10 ^ ((40:Int).toNat)),.int (1)])) p5 (10 ^ ((40:Int).toNat),1):=upd_same
 generalize upd H4 p5 (.tup [.int (10 ^ ((40:Int).toNat)),.int (1)])=H5 at s5 e5
 have a6:=(a5.keep mo_pair s5).snoc e5
 refine ⟨_,_,rfl,rfl,cp,two,fun p6 hp6=>?_⟩
 have s6:=same_new hp6 (.tup [.int (1),.int (10 ^ ((40:Int).toNat))])
 have e6:PairR (upd H5 p6 (.tup [.int (1),.int (10 ^ ((40:Int).toNat))])) p6 (1,10 ^ ((40:Int).toNat)):=upd_same
 generalize upd H5 p6 (.tup [.int (1),.int (10 ^ ((40:Int).toNat))])=H6 at s6 e6
 have a7:=(a6.keep mo_pair s6).snoc e6
 refine ⟨_,_,rfl,rfl,cp,_,_,rfl,rfl,two,fun p7 hp7=>?_⟩
 have s7:=same_new hp7 (.tup [.int (10 ^ ((40:Int).toNat)-1),.int (1)])
 have e7:PairR (upd H6 p7 (.tup [.int (10 ^ ((40:Int).toNat)-1),.int (1)])) p7 (10 ^ ((40:Int).toNat)-1,1):=upd_same
 generalize upd H6 p7 (.tup [.int (10 ^ ((40:Int).toNat)-1),.int (1)])=H7 at s7 e7
 have a8:=(a7.keep mo_pair s7).snoc e7
 refine ⟨two,fun p8 hp8=>?_⟩
 have s8:=same_new hp8 (.tup [.int (0),.int (0)])
 have e8:PairR (upd H7 p8 (.tup [.int (0),.int (0)])) p8 (0,0):=upd_same
 generalize upd H7 p8 (.tup [.int (0),.int (0)])=H8 at s8 e8
 have a9:=(a8.keep mo_pair s8).snoc e8
 refine ⟨_,rfl,_,rfl,two,fun p9 hp9=>?_⟩
 have s9:=same_new hp9 (.tup [.int (-3),.int (-2)])
 have e9:PairR (upd H8 p9 (.tup [.int (-3),.int (-2)])) p9 (-3,-2):=upd_same
 generalize upd H8 p9 (.tup [.int (-3),.int (-2)])=H9 at s9 e9
 have a10:=(a9.keep mo_pair s9).snoc e9
 have s00:=s0.trans (s1.trans (s2.trans (s3.trans (s4.trans (s5.trans (s6.trans (s7.trans (s8.trans (s9)))))))))
 clear e0 s0 e1 s1 e2 s2 e3 s3 e4 s4 e5 s5 e6 s6 e7 s7 e8 s8 e9 s9 a0 a1 a2 a3 a4 a5 a6 a7 a8 a9
 refine ⟨by show 10≤sizeLine; decide,fun L hL=>?_⟩
 have sL:=same_new hL (.lst (([p0,p1,p2,p3,p4,p5,p6,p7,p8,p9]:List Addr).map V.ref))
 have eL:(upd H9 L (.lst (([p0,p1,p2,p3,p4,p5,p6,p7,p8,p9]:List Addr).map V.ref))) L=some (.lst (([p0,p1,p2,p3,p4,p5,p6,p7,p8,p9]:List Addr).map V.ref)):=upd_same
 have aL:=a10.keep mo_pair sL
 dsimp only
 refine name_goH ?_
 have s0L:=s00.trans sL
 change At PairR _ [p0,p1,p2,p3,p4,p5,p6,p7,p8,p9] _ at aL
 obtain ⟨i,hi⟩:∃ i:Nat,z % 10=(i:Int):=⟨(z % 10).toNat,by omega⟩
 have i7:i<10:=by omega
 obtain ⟨xs,axs⟩:∃ xs,At PairR (upd H9 L (.lst (([p0,p1,p2,p3,p4,p5,p6,p7,p8,p9]:List Addr).map V.ref))) [p0,p1,p2,p3,p4,p5,p6,p7,p8,p9] xs:=⟨_,aL⟩
 have hl7:10=xs.length:=axs.1
 have hb:([p0,p1,p2,p3,p4,p5,p6,p7,p8,p9]:List Addr)[i]?=some (([p0,p1,p2,p3,p4,p5,p6,p7,p8,p9]:List Addr)[i]'i7):=List.getElem?_eq_getElem i7
 generalize ([p0,p1,p2,p3,p4,p5,p6,p7,p8,p9]:List Addr)[i]'i7=b at hb
 have hx:xs[i]?=some (xs[i]'(by omega)):=List.getElem?_eq_getElem (by omega)
 generalize xs[i]'(by omega)=x at hx
 have hP:=axs.2 i b x hb hx
 refine ⟨_,rfl,_,rfl,_,_,rfl,rfl,(show (0:Int)<10 by decide),L,_,_,_,rfl,rfl,SqL.of eL,?_,q b x.1 x.2 _ s0L hP⟩
 rw [hi]
 exact atI_nat (ref_at hb)
end
end My
namespace L2
open PySem PySem.Spec PyProof.Rows PySem.W
section
def rCatB:R2:=fun x y H Q=>∃ a b xs ys,x=.ref a∧y=.ref b∧H a=some (.tup xs)∧H b=some (.tup ys)∧xs.length+ys.length≤sizeLine∧∀ p H',Same H H'->H' p=some (.tup (xs++ys))->Q (.ref p) H'
theorem op_catB {X:Cx}:OpR X (binaryOp .Add) rCatB:=by
 intro pins s σ H x y v u Q I rx ry h
 obtain ⟨a,b,xs,ys,rfl,rfl,ha,hb,hz,q⟩:=h
 by_cases hy:ys=[]
 ·by_cases hx:xs=[]
  ·subst hx hy
   cases rx
   cases ry
   obtain ⟨its,r1,p1,_⟩:=I.tuple (SqT.of ha)
   obtain ⟨its2,r2,p2,_⟩:=I.tuple (SqT.of hb)
   have e0:its=[]:=r1.nil_iff.mpr rfl
   obtain ⟨⟨cls,dd,data,sl⟩,ho,hc,n,hd⟩:=id p1
   obtain ⟨⟨cls2,dd2,data2,sl2⟩,ho2,hc2,n2,hd2⟩:=id p2
   simp only at hc hd hc2 hd2
   subst hc hd hc2 hd2
   exact concat_meets ⟨_,ho,rfl⟩ ⟨_,ho2,rfl⟩ noFill_tuple_add seq_tuple_add PySem.F.slot_tuple_add PySem.F.entry_tuple_add (PySem.F.args_tuple_add_2 _ _)
    (tuple_addW0 a b its.toArray its2.toArray n n2 dd dd2 sl sl2 (by simp [e0])) ⟨ho,ho2,⟨.ref b,H,I,rfl,q b H (Same.refl _) hb⟩⟩
  ·exact op_catT pins s σ H _ _ v u Q I rx ry ⟨a,b,xs,ys,rfl,rfl,SqT.of ha,SqT.of hb,hx,hz,fun z=>q a H (Same.refl _) (by rw [z,List.append_nil]; exact ha),fun z=>absurd hy z⟩
 ·exact op_catA pins s σ H _ _ v u Q I rx ry ⟨a,b,xs,ys,rfl,rfl,SqT.of ha,SqT.of hb,hy,hz,fun z=>q b H (Same.refl _) (by rw [z,List.nil_append]; exact hb),fun _ p hp=>q p _ (My.same_new hp _) upd_same⟩
end
end L2
namespace My
open PySem L2 Mth
theorem cut_whole {xs:List V} {lo hi:Option Int} (z:HT.sIx xs.length 0 lo=0∧HT.sIx xs.length xs.length hi=xs.length):cutV xs lo hi=xs:=by
 unfold cutV
 rw [z.1,z.2]
 simp
theorem slA_go {K:PySem.W.Frag} {a:Addr} {xs:List V} {lo hi:Option Int} {H:Hp} {Q:VK} (ha:H a=some (.tup xs)) (q:∀ p H',Same H H'->H' p=some (.tup (cutV xs lo hi))->Q (.ref p) H'):rSlTA K (.ref a) lo hi H Q :=
 ⟨a,xs,rfl,SqT.of ha,fun z=>q a H (Same.refl _) (by rw [ha,cut_whole z]),fun _ p hp=>q p _ (same_new hp _) upd_same⟩
theorem if_seq {c:TT} {t u rest:TS} {D:Ends} {σ:L2.St} {H:Hp} (C:L2.St->Hp->Prop) (hr:∀ σ' H',C σ' H'->rest D σ' H') (hi:∀ nx:L2.St->Hp->Prop,(∀ σ' H',C σ' H'->nx σ' H')->tIfS c t u { D with nx:=nx } σ H):tSeq (tIfS c t u) rest D σ H:=hi (rest D) hr
theorem sIx_min (n d j:Nat):HT.sIx n d (some (j:Int))=min j n:=by
 simp [HT.sIx]
 try omega
def cutL {α:Type} (xs:List α) (lo hi:Option Int):List α:=(xs.drop (HT.sIx xs.length 0 lo)).take (HT.sIx xs.length xs.length hi-HT.sIx xs.length 0 lo)
theorem cutL_int (t:List Int) (lo hi:Option Int):cutV (t.map V.int) lo hi=(cutL t lo hi).map V.int:=by
 unfold cutV cutL
 rw [List.length_map,List.map_take,List.map_drop]
theorem cutL_ref (t:List Addr) (lo hi:Option Int):cutV (t.map V.ref) lo hi=(cutL t lo hi).map V.ref:=by
 unfold cutV cutL
 rw [List.length_map,List.map_take,List.map_drop]
theorem At.cut {α:Type} {R:Hp->Addr->α->Prop} {H:Hp} {bs:List Addr} {xs:List α} (h:At R H bs xs) (lo hi:Option Int):At R H (cutL bs lo hi) (cutL xs lo hi):=by
 unfold cutL
 rw [h.1]
 exact (h.drop _).take _
theorem cutL_mem {α:Type} {xs:List α} {lo hi:Option Int} {x:α} (h:x∈cutL xs lo hi):x∈xs:=List.mem_of_mem_drop (List.mem_of_mem_take h)
theorem lenT {α:Type} (xs:List α) (j:Nat):(cutL xs none (some (j:Int))).length=min j xs.length:=by
 unfold cutL
 rw [sIx_min,List.length_take,List.length_drop,sIx_non]
 omega
theorem lenD {α:Type} (xs:List α) (j:Nat):(cutL xs (some (j:Int)) none).length=xs.length-min j xs.length:=by
 unfold cutL
 rw [sIx_min,List.length_take,List.length_drop,sIx_non]
 omega
theorem lenB {α:Type} (xs:List α) (i j:Nat):(cutL xs (some (i:Int)) (some (j:Int))).length≤min j xs.length-min i xs.length:=by
 unfold cutL
 rw [sIx_min,sIx_min,List.length_take]
 omega
section
variable {P:Program} {w:World} {K:PySem.W.Frag} {mg:Str->Option Value} {base:Heap} {f g h f1 f2 f3 f4 f5 fI:Addr} {fd gd hd d1 d2 d3 d4 d5 dI:FuncData}
inductive SpOtR (vs:List V) (H:Hp) (Q:VK):Prop
 | mk (a:Addr) (ts:List (List Int)) (way z:Int) (C:Nat) (h_0:vs=[.ref a,.int way,.int z]) (h_1:TupR IntsT H a ts) (h_2:ts≠[]) (h_3:ts.length≤100) (h_4:∀ t∈ts,t.length≤C) (h_5:C≤60) (h_6:∀ p ts' H',Same H H'->TupR IntsT H' p ts'->ts'.length≤ts.length+1->(∀ t∈ts',t.length≤C+1)->Q (.ref p) H'):SpOtR vs H Q
def spOt:Sp:=fun vs H Q _=>SpOtR vs H Q
theorem scOt5:FnScope ["_law_turns","_law_way","_law_cell","_law_at","_law_turn","_law_spot","_law_both"] ["_law_turns","_law_way","_law_cell"] (defScope s_law_other_turns):=⟨rfl,rfl,rfl,by decide +kernel,rfl,by decide +kernel,by decide +kernel⟩
set_option maxHeartbeats 4000000 in
theorem ok_ot (F:Fun K "_law_other_turns" "_law_other_turns" s_law_other_turns f fd) (ml:mg "len" = none) (mx:mg "max" = none):FnOk P w K mg base CX0 1 f fd ["_law_turns","_law_way","_law_cell"] spOt:=by
 refine F.ok scOt5 (fun vs H Q E h=>?_) (fun cdv A outer s H vs Q E hr h=>?_)
 ·obtain ⟨a,ts,way,z,C,rfl,_⟩:=h
  rfl
 obtain ⟨a,ts,way,z,C,rfl,⟨bs,ha,hB⟩,tne,tl,hC,c60,q⟩:=h
 refine ⟨_,pss_cons (ps_set (i:=3) scOt5.nd rfl (Or.inl rfl) (pe_op op_mod (pv 2) (pe_callB (callLen (K:=K)) (by rfl) ml bt_len (pa_cons (pv 0) pa_nil))))
  (pss_cons (ps_set (i:=4) scOt5.nd rfl (Or.inl rfl) (pe_ix (ixT (K:=K)) (pv 0) (pv 3) (fun _ _=>rfl)))
  (pss_cons (ps_set (i:=5) scOt5.nd rfl (Or.inl rfl) (pe_op op_mod (pe_op op_fdiv (pv 2) pe_int) (pe_callB (call_max2 rfl) (by rfl) mx bt_max (pa_cons pe_int (pa_cons (pe_callB (callLen (K:=K)) (by rfl) ml bt_len (pa_cons (pv 4) pa_nil)) pa_nil)))))
  (pss_cons (ps_if (pt_cmpR op_eq (pv 1) pe_int (nomark _)) (pss_one (ps_set (i:=4) scOt5.nd rfl (Or.inl rfl) (pe_op op_catB (pe_slice (slTA (K:=K)) (pv 4) po_none (po_some (pv 5))) (pe_slice (slTA (K:=K)) (pv 4) (po_some (pe_op op_add (pv 5) pe_int)) po_none))))
   (pss_one (ps_if (pt_cmpR op_eq (pv 1) pe_int (nomark _)) (pss_one (ps_set (i:=4) scOt5.nd rfl (Or.inl rfl) (pe_op op_catB (pe_op op_catB (pe_slice (slTA (K:=K)) (pv 4) po_none (po_some (pv 5))) (pe_tup (pa_cons (pe_op op_sub (pe_op op_mod (pe_op op_fdiv (pv 2) pe_int) pe_int) pe_int) pa_nil))) (pe_slice (slTA (K:=K)) (pv 4) (po_some (pv 5)) po_none))))
   (pss_one (ps_if (PW.pt (pw_and (pt_cmpR op_eq (pv 1) pe_int (nomark _)) (pw_and1 (pt_cmpR op_gt (pe_callB (callLen (K:=K)) (by rfl) ml bt_len (pa_cons (pv 4) pa_nil)) pe_int (nomark _))))) (pss_one (ps_set (i:=4) scOt5.nd rfl (Or.inl rfl) (pe_op op_catB (pe_op op_catB (pe_tup (pa_cons (pe_ix (ixT (K:=K)) (pv 4) (pv 5) (fun _ _=>rfl)) pa_nil)) (pe_slice (slTA (K:=K)) (pv 4) po_none (po_some (pv 5)))) (pe_slice (slTA (K:=K)) (pv 4) (po_some (pe_op op_add (pv 5) pe_int)) po_none))))
   (pss_one (ps_if (PW.pt (pw_and (pt_cmpR op_eq (pv 1) pe_int (nomark _)) (pw_and1 (pt_cmpR op_gt (pe_callB (callLen (K:=K)) (by rfl) ml bt_len (pa_cons (pv 4) pa_nil)) pe_int (nomark _))))) (pss_cons (ps_set (i:=5) scOt5.nd rfl (Or.inl rfl) (pe_callB (call_max2 rfl) (by rfl) mx bt_max (pa_cons pe_int (pa_cons (pv 5) pa_nil))))
     (pss_cons (ps_set (i:=6) scOt5.nd rfl (Or.inl rfl) (pe_op op_catB (pe_slice (slTA (K:=K)) (pv 4) (po_some (pv 5)) (po_some (pe_op op_add (pv 5) pe_int))) (pe_slice (slTA (K:=K)) (pv 4) (po_some (pe_op op_sub (pv 5) pe_int)) (po_some (pv 5)))))
     (pss_one (ps_set (i:=4) scOt5.nd rfl (Or.inl rfl) (pe_op op_catB (pe_op op_catB (pe_slice (slTA (K:=K)) (pv 4) po_none (po_some (pe_op op_sub (pv 5) pe_int))) (pv 6)) (pe_slice (slTA (K:=K)) (pv 4) (po_some (pe_op op_add (pv 5) pe_int)) po_none))))))
   (pss_one (ps_if (pt_cmpR op_eq (pv 1) pe_int (nomark _)) (pss_one (ps_ret (pe_slice (slTA (K:=K)) (pv 0) po_none (po_some (pv 3)))))
   (pss_one (ps_if (pt_cmpR op_eq (pv 1) pe_int (nomark _)) (pss_one (ps_ret (pe_op op_catB (pv 0) (pe_tup (pa_cons (pe_tup pa_nil) pa_nil))))) pss_nil)))))))))))
  (pss_one (ps_ret (pe_op op_catB (pe_op op_catB (pe_slice (slTA (K:=K)) (pv 0) po_none (po_some (pv 3))) (pe_tup (pa_cons (pv 4) pa_nil))) (pe_slice (slTA (K:=K)) (pv 0) (po_some (pe_op op_add (pv 3) pe_int)) po_none))))))),?_⟩
 have lbs:bs.length=ts.length:=hB.1
 have tp:0<ts.length:=List.length_pos_iff.mpr tne
 have lB:(bs.map V.ref).length=ts.length:=by rw [List.length_map,lbs]
 refine ⟨_,rfl,_,rfl,a,_,rfl,.inr (SqT.of ha),_,_,rfl,rfl,by rw [lB]; omega,?_⟩
 rw [lB]
 obtain ⟨aa,haa⟩:∃ k:Nat,z % (ts.length:Int)=k:=⟨(z % (ts.length:Int)).toNat,by have:=Int.emod_nonneg z (show (ts.length:Int)≠0 by omega); omega⟩
 have atl:aa<ts.length:=by have:=Int.emod_lt_of_pos z (show (0:Int)<ts.length by omega); omega
 rw [haa]
 have htt:ts[aa]?=some ts[aa]:=List.getElem?_eq_getElem atl
 have tCl:=hC _ (List.getElem_mem atl)
 generalize ts[aa]=t at htt tCl
 obtain ⟨c,hc,hct'⟩:=hB.get htt
 have hct:H c=some (.tup (t.map V.int)):=hct'
 refine ⟨_,rfl,_,rfl,a,_,_,_,rfl,rfl,SqT.of ha,atI_nat (ref_at hc),?_⟩
 refine ⟨_,rfl,_,_,rfl,rfl,⟨by decide,by decide⟩,_,rfl,c,_,rfl,.inr (SqT.of hct),1,_,rfl,_,_,rfl,rfl,by split <;> omega,?_⟩
 rw [List.length_map]
 obtain ⟨sp,hsp,spl⟩:∃ k:Nat,z / 20 % (if (t.length:Int) > 1 then (t.length:Int) else 1)=k∧(1<t.length->k<t.length):=by
  have m0:(0:Int)<(if (t.length:Int) > 1 then (t.length:Int) else 1):=by split <;> omega
  have h1:=Int.emod_nonneg (z / 20) (show (if (t.length:Int) > 1 then (t.length:Int) else 1)≠0 by omega)
  have h2:=Int.emod_lt_of_pos (z / 20) m0
  refine ⟨(z / 20 % (if (t.length:Int) > 1 then (t.length:Int) else 1)).toNat,by omega,fun h=>?_⟩
  rw [if_pos (by omega)] at h1 h2 ⊢
  omega
 rw [hsp]
 dsimp only
 refine name_goH ?_
 refine if_seq (fun σ H'=>∃ (u v:Option V) (tb:Addr) (t':List Int),σ=[some (.ref a),some (.int way),some (.int z),some (.int (aa:Int)),some (.ref tb),u,v]∧Same H H'∧H' tb=some (.tup (t'.map V.int))∧t'.length≤C+1) ?_ fun nx hn=>?_
 ·rintro σ H' ⟨u,v,tb,t',rfl,s',hb',hl'⟩
  refine ⟨_,rfl,_,rfl,_,rfl,slA_go (s' _ _ ha) fun p1 H1 s1 e1=>?_⟩
  rw [cutL_ref] at e1
  refine ⟨_,rfl,by show 1≤sizeLine; decide,fun p2 hp2=>?_⟩
  have s2:=same_new hp2 (.tup [.ref tb])
  have e2:(upd H1 p2 (.tup [.ref tb])) p2=some (.tup [.ref tb]):=upd_same
  generalize upd H1 p2 (.tup [.ref tb])=H2 at s2 e2
  have l1:=lenT bs aa
  refine ⟨p1,p2,_,_,rfl,rfl,s2 _ _ e1,e2,?_,fun p3 H3 s3 e3=>?_⟩
  ·rw [List.length_map,sizeLine_eq]
   show _+1≤_
   omega
  refine ⟨_,rfl,_,rfl,_,_,rfl,rfl,_,rfl,?_⟩
  dsimp only [tNoPart]
  have s03:=s'.trans (s1.trans (s2.trans s3))
  refine slA_go (s03 _ _ ha) fun p4 H4 s4 e4=>?_
  rw [show ((aa:Nat):Int)+1=((aa+1:Nat):Int) by omega,cutL_ref] at e4
  have l4:=lenD bs (aa+1)
  refine ⟨p3,p4,_,_,rfl,rfl,s4 _ _ e3,e4,?_,fun p5 H5 s5 e5=>?_⟩
  ·rw [List.length_append,List.length_map,List.length_map,sizeLine_eq]
   show _+1+_≤_
   omega
  have s05:=s03.trans (s4.trans s5)
  have sb:Same H' H5:=s1.trans (s2.trans (s3.trans (s4.trans s5)))
  refine q p5 (cutL ts none (some (aa:Int))++[t']++cutL ts (some ((aa+1:Nat):Int)) none) H5 s05 ⟨cutL bs none (some (aa:Int))++[tb]++cutL bs (some ((aa+1:Nat):Int)) none,?_,?_⟩ ?_ ?_
  ·rw [e5,List.map_append,List.map_append]
   rfl
  ·exact (((hB.keep mo_intsT s05).cut _ _).snoc (show IntsT H5 tb t' from sb _ _ hb')).app ((hB.keep mo_intsT s05).cut _ _)
  ·rw [List.length_append,List.length_append,lenT,lenD]
   show _+1+_≤_
   omega
  ·intro x hx
   rcases List.mem_append.mp hx with hx | hx
   ·rcases List.mem_append.mp hx with hx | hx
    ·have:=hC x (cutL_mem hx); omega
    ·rw [List.mem_singleton.mp hx]; exact hl'
   ·have:=hC x (cutL_mem hx); omega
 refine ⟨_,rfl,rfl,_,rfl,?_⟩
 by_cases w0:way=0
 ·refine iteDT (iv w0) ?_
  refine ⟨_,rfl,_,rfl,_,rfl,slA_go hct fun p1 H1 s1 e1=>?_⟩
  rw [cutL_int] at e1
  refine ⟨_,rfl,_,rfl,_,_,rfl,rfl,_,rfl,?_⟩
  dsimp only [tNoPart]
  refine slA_go (s1 _ _ hct) fun p2 H2 s2 e2=>?_
  rw [show ((sp:Nat):Int)+1=((sp+1:Nat):Int) by omega,cutL_int] at e2
  have l1:=lenT t sp
  have l2:=lenD t (sp+1)
  refine ⟨p1,p2,_,_,rfl,rfl,s2 _ _ e1,e2,?_,fun p3 H3 s3 e3=>?_⟩
  ·rw [List.length_map,List.length_map,sizeLine_eq]
   omega
  rw [←List.map_append] at e3
  exact hn _ _ ⟨_,_,p3,_,rfl,s1.trans (s2.trans s3),e3,by rw [List.length_append]; omega⟩
 refine iteDF (ivn w0) ⟨_,rfl,rfl,_,rfl,?_⟩
 by_cases w1:way=1
 ·refine iteDT (iv w1) ?_
  refine ⟨_,rfl,_,rfl,_,rfl,slA_go hct fun p1 H1 s1 e1=>?_⟩
  rw [cutL_int] at e1
  refine ⟨_,rfl,_,_,rfl,rfl,⟨by decide,by decide⟩,_,_,rfl,rfl,(show (0:Int)<40 by decide),_,_,rfl,rfl,by show 1≤sizeLine; decide,fun p2 hp2=>?_⟩
  have s2:=same_new hp2 (.tup [.int (z / 400 % 40-2)])
  have e2:(upd H1 p2 (.tup [.int (z / 400 % 40-2)])) p2=some (.tup (([z / 400 % 40-2]:List Int).map V.int)):=upd_same
  generalize upd H1 p2 (.tup [.int (z / 400 % 40-2)])=H2 at s2 e2
  have l1:=lenT t sp
  refine ⟨p1,p2,_,_,rfl,rfl,s2 _ _ e1,e2,?_,fun p3 H3 s3 e3=>?_⟩
  ·rw [List.length_map,sizeLine_eq]
   show _+1≤_
   omega
  rw [←List.map_append] at e3
  refine ⟨_,rfl,_,rfl,_,rfl,?_⟩
  dsimp only [tNoPart]
  have s03:=s1.trans (s2.trans s3)
  refine slA_go (s03 _ _ hct) fun p4 H4 s4 e4=>?_
  rw [cutL_int] at e4
  have l4:=lenD t sp
  refine ⟨p3,p4,_,_,rfl,rfl,s4 _ _ e3,e4,?_,fun p5 H5 s5 e5=>?_⟩
  ·rw [List.length_map,List.length_append,List.length_map,sizeLine_eq]
   show _+1+_≤_
   omega
  rw [←List.map_append] at e5
  refine hn _ _ ⟨_,_,p5,_,rfl,s03.trans (s4.trans s5),e5,?_⟩
  rw [List.length_append,List.length_append]
  show _+1+_≤_
  omega
 refine iteDF (ivn w1) ?_
 have keep:nx [some (.ref a),some (.int way),some (.int z),some (.int (aa:Int)),some (.ref c),some (.int (sp:Int)),none] H:=hn _ _ ⟨_,_,c,t,rfl,Same.refl _,hct,by omega⟩
 have w45:∀ {t4 t5:TS},t4 { nx:=nx,rt:=Q } [some (.ref a),some (.int way),some (.int z),some (.int (aa:Int)),some (.ref c),some (.int (sp:Int)),none] H->t5 { nx:=nx,rt:=Q } [some (.ref a),some (.int way),some (.int z),some (.int (aa:Int)),some (.ref c),some (.int (sp:Int)),none] H->tIfS (tTest (tOp rEq (tVar 1) (tC (.int 4)))) t4 (tIfS (tTest (tOp rEq (tVar 1) (tC (.int 5)))) t5 tNext) { nx:=nx,rt:=Q } [some (.ref a),some (.int way),some (.int z),some (.int (aa:Int)),some (.ref c),some (.int (sp:Int)),none] H:=by
  intro t4 t5 h4 h5
  refine ⟨_,rfl,rfl,_,rfl,?_⟩
  by_cases w4:way=4
  ·exact iteDT (iv w4) h4
  refine iteDF (ivn w4) ⟨_,rfl,rfl,_,rfl,?_⟩
  by_cases w5:way=5
  ·exact iteDT (iv w5) h5
  exact iteDF (ivn w5) keep
 have tst:∀ {A B:TS} (k m:Int),(way=k->m<(t.length:Int)->A { nx:=nx,rt:=Q } [some (.ref a),some (.int way),some (.int z),some (.int (aa:Int)),some (.ref c),some (.int (sp:Int)),none] H)->(B { nx:=nx,rt:=Q } [some (.ref a),some (.int way),some (.int z),some (.int (aa:Int)),some (.ref c),some (.int (sp:Int)),none] H) →
   tIfS (tAnd (tTest (tOp rEq (tVar 1) (tC (.int k)))) (tTest (tOp (rI0 fun i j=>.bl (decide (j<i))) (tCB (LenR K) (tCons (tVar 4) tNil)) (tC (.int m))))) A B { nx:=nx,rt:=Q } [some (.ref a),some (.int way),some (.int z),some (.int (aa:Int)),some (.ref c),some (.int (sp:Int)),none] H:=by
  intro A B k m hA hB
  refine ⟨_,rfl,rfl,_,rfl,?_⟩
  by_cases w:way=k
  ·refine iteDT (iv w) ⟨_,rfl,c,_,rfl,.inr (SqT.of hct),_,_,rfl,rfl,_,rfl,?_⟩
   rw [List.length_map]
   by_cases l:m<(t.length:Int)
   ·exact iteDT l (hA w l)
   ·exact iteDF l hB
  ·exact iteDF (ivn w) (iteF hB)
 refine tst 2 1 (fun w l=>?_) (tst 3 2 (fun w l=>?_) (w45 ?_ ?_))
 ·have sl:=spl (by omega)
  have hsv:t[sp]?=some t[sp]:=List.getElem?_eq_getElem sl
  generalize t[sp]=e at hsv
  refine ⟨_,rfl,_,rfl,c,_,_,_,rfl,rfl,SqT.of hct,atI_nat (at_int hsv),by show 1≤sizeLine; decide,fun p1 hp1=>?_⟩
  have s1:=same_new hp1 (.tup [.int e])
  have e1:(upd H p1 (.tup [.int e])) p1=some (.tup (([e]:List Int).map V.int)):=upd_same
  generalize upd H p1 (.tup [.int e])=H1 at s1 e1
  refine ⟨_,rfl,_,rfl,_,rfl,slA_go (s1 _ _ hct) fun p2 H2 s2 e2=>?_⟩
  rw [cutL_int] at e2
  have l2:=lenT t sp
  refine ⟨p1,p2,_,_,rfl,rfl,s2 _ _ e1,e2,?_,fun p3 H3 s3 e3=>?_⟩
  ·rw [List.length_map,List.length_map,sizeLine_eq]
   show 1+_≤_
   omega
  rw [←List.map_append] at e3
  refine ⟨_,rfl,_,rfl,_,_,rfl,rfl,_,rfl,?_⟩
  dsimp only [tNoPart]
  have s03:=s1.trans (s2.trans s3)
  refine slA_go (s03 _ _ hct) fun p4 H4 s4 e4=>?_
  rw [show ((sp:Nat):Int)+1=((sp+1:Nat):Int) by omega,cutL_int] at e4
  have l4:=lenD t (sp+1)
  refine ⟨p3,p4,_,_,rfl,rfl,s4 _ _ e3,e4,?_,fun p5 H5 s5 e5=>?_⟩
  ·rw [List.length_map,List.length_append,List.length_map,sizeLine_eq]
   show 1+_+_≤_
   omega
  rw [←List.map_append] at e5
  refine hn _ _ ⟨_,_,p5,_,rfl,s03.trans (s4.trans s5),e5,?_⟩
  rw [List.length_append,List.length_append]
  show 1+_+_≤_
  omega
 ·refine ⟨_,rfl,1,_,rfl,?_⟩
  obtain ⟨s2',hs2,s21⟩:∃ k:Nat,(if (sp:Int) > 1 then (sp:Int) else 1)=((k+1:Nat):Int)∧True:=by
   by_cases y:(sp:Int) > 1
   ·exact ⟨sp-1,by rw [if_pos y]; omega,trivial⟩
   ·exact ⟨0,by rw [if_neg y]; rfl,trivial⟩
  rw [hs2]
  dsimp only
  refine name_goH ?_
  refine ⟨_,rfl,_,rfl,_,rfl,_,rfl,_,_,rfl,rfl,_,rfl,slA_go hct fun p1 H1 s1 e1=>?_⟩
  rw [show ((s2' + 1:Nat):Int)+1=((s2' + 2:Nat):Int) by omega,cutL_int] at e1
  refine ⟨_,rfl,_,rfl,_,_,rfl,rfl,_,rfl,_,rfl,_,rfl,slA_go (s1 _ _ hct) fun p2 H2 s2 e2=>?_⟩
  rw [show ((s2' + 1:Nat):Int)-1=((s2':Nat):Int) by omega,cutL_int] at e2
  have l1:=lenB t (s2' + 1) (s2' + 2)
  have l2:=lenB t s2' (s2' + 1)
  refine ⟨p1,p2,_,_,rfl,rfl,s2 _ _ e1,e2,?_,fun p3 H3 s3 e3=>?_⟩
  ·rw [List.length_map,List.length_map,sizeLine_eq]
   omega
  rw [←List.map_append] at e3
  have s03:=s1.trans (s2.trans s3)
  refine ⟨_,rfl,_,rfl,_,_,rfl,rfl,_,rfl,slA_go (s03 _ _ hct) fun p4 H4 s4 e4=>?_⟩
  rw [show ((s2' + 1:Nat):Int)-1=((s2':Nat):Int) by omega,cutL_int] at e4
  have l4:=lenT t s2'
  refine ⟨_,rfl,p4,p3,_,_,rfl,rfl,e4,s4 _ _ e3,?_,fun p5 H5 s5 e5=>?_⟩
  ·rw [List.length_map,List.length_map,List.length_append,sizeLine_eq]
   omega
  rw [←List.map_append] at e5
  refine ⟨_,rfl,_,rfl,_,_,rfl,rfl,_,rfl,?_⟩
  dsimp only [tNoPart]
  have s05:=s03.trans (s4.trans s5)
  refine slA_go (s05 _ _ hct) fun p6 H6 s6 e6=>?_
  rw [show ((s2' + 1:Nat):Int)+1=((s2' + 2:Nat):Int) by omega,cutL_int] at e6
  have l6:=lenD t (s2' + 2)
  refine ⟨p5,p6,_,_,rfl,rfl,s6 _ _ e5,e6,?_,fun p7 H7 s7 e7=>?_⟩
  ·rw [List.length_map,List.length_map,List.length_append,List.length_append,sizeLine_eq]
   omega
  rw [←List.map_append] at e7
  refine hn _ _ ⟨_,_,p7,_,rfl,s05.trans (s6.trans s7),e7,?_⟩
  rw [List.length_append,List.length_append,List.length_append]
  omega
 ·refine ⟨_,rfl,_,rfl,_,rfl,slA_go ha fun p1 H1 s1 e1=>?_⟩
  rw [cutL_ref] at e1
  refine q p1 (cutL ts none (some (aa:Int))) H1 s1 ⟨_,e1,(hB.keep mo_intsT s1).cut _ _⟩ ?_ fun x hx=>?_
  ·rw [lenT]
   omega
  ·have:=hC x (cutL_mem hx)
   omega
 ·refine ⟨_,rfl,by show 0≤sizeLine; decide,fun p1 hp1=>?_⟩
  have s1:=same_new hp1 (.tup [])
  have e1:IntsT (upd H p1 (.tup [])) p1 []:=upd_same
  generalize upd H p1 (.tup [])=H1 at s1 e1
  refine ⟨by show 1≤sizeLine; decide,fun p2 hp2=>?_⟩
  have s2:=same_new hp2 (.tup [.ref p1])
  have e2:(upd H1 p2 (.tup [.ref p1])) p2=some (.tup [.ref p1]):=upd_same
  generalize upd H1 p2 (.tup [.ref p1])=H2 at s2 e2
  refine ⟨a,p2,_,_,rfl,rfl,s2 _ _ (s1 _ _ ha),e2,?_,fun p3 H3 s3 e3=>?_⟩
  ·rw [lB,sizeLine_eq]
   show _+1≤_
   omega
  have s03:=s1.trans (s2.trans s3)
  refine q p3 (ts++[[]]) H3 s03 ⟨bs++[p1],by rw [e3,List.map_append]; rfl,(hB.keep mo_intsT s03).snoc (s3 _ _ (s2 _ _ e1))⟩ (by rw [List.length_append]; exact Nat.le_refl _) fun x hx=>?_
  rcases List.mem_append.mp hx with hx | hx
  ·have:=hC x hx
   omega
  ·rw [List.mem_singleton.mp hx]
   show 0≤_
   omega
end
end My
namespace My
open PySem L2 Mth
def rawD (r:Raw):PyData:=.tuple [.int r.1,.int r.2.1,.tuple [.int r.2.2.1,.int r.2.2.2]]
def rwsD (rs:List Raw):PyData:=.tuple (rs.map rawD)
def intsD (t:List Int):PyData:=.tuple (t.map .int)
def trnD (ts:List (List Int)):PyData:=.tuple (ts.map intsD)
theorem rd_raw {H:Hp} {p:Addr} {r:Raw} (h:RawR H p r):RdD H (.ref p) (rawD r):=by
 obtain ⟨e,h1,h2⟩:=h
 refine .tup h1 rfl fun i x d e1 e2=>?_
 match i,e1,e2 with
 | 0,e1,e2=>cases e1; cases e2; exact .int _
 | 1,e1,e2=>cases e1; cases e2; exact .int _
 | 2,e1,e2 =>
  cases e1
  cases e2
  refine .tup h2 rfl fun i x d e1 e2=>?_
  match i,e1,e2 with
  | 0,e1,e2=>cases e1; cases e2; exact .int _
  | 1,e1,e2=>cases e1; cases e2; exact .int _
theorem rd_raws {H:Hp} {p:Addr} {rs:List Raw} (h:TupR RawR H p rs):RdD H (.ref p) (rwsD rs):=by
 obtain ⟨bs,h1,hB⟩:=h
 refine .tup h1 (by rw [List.length_map,List.length_map,hB.1]) fun i x d e1 e2=>?_
 obtain ⟨c,r,rfl,_,hr,hc⟩:=hB.ref e1
 rw [List.getElem?_map,hr] at e2
 cases e2
 exact rd_raw hc
theorem rd_ints {H:Hp} {p:Addr} {t:List Int} (h:IntsT H p t):RdD H (.ref p) (intsD t):=by
 refine .tup h (by rw [List.length_map,List.length_map]) fun i x d e1 e2=>?_
 obtain ⟨e,rfl,he⟩:=int_at e1
 rw [List.getElem?_map,he] at e2
 cases e2
 exact .int _
theorem rd_trns {H:Hp} {p:Addr} {ts:List (List Int)} (h:TupR IntsT H p ts):RdD H (.ref p) (trnD ts):=by
 obtain ⟨bs,h1,hB⟩:=h
 refine .tup h1 (by rw [List.length_map,List.length_map,hB.1]) fun i x d e1 e2=>?_
 obtain ⟨c,r,rfl,_,hr,hc⟩:=hB.ref e1
 rw [List.getElem?_map,hr] at e2
 cases e2
 exact rd_ints hc
def ansD (n:Int) (rs:List Raw) (ts:List (List Int)):ShF->PyData
 | .net w=>.tuple [.str "net",.str w]
 | .rope k w=>.tuple [.str "rope",.int (k:Int),.str w]
 | .turn p=>.tuple [.str "turn",.int (p:Int)]
 | .loose p=>.tuple [.str "loose",.int (p:Int)]
 | .flat l=>.tuple [.str "flat",.int (l:Int)]
 | .told=>.tuple [.str "told",.tuple [.int n,rwsD rs,trnD (ts.map begL)]]
theorem rd_two {H:Hp} {o:Addr} {x y:V} {d e:PyData} (h:H o=some (.tup [x,y])) (hx:RdD H x d) (hy:RdD H y e):RdD H (.ref o) (.tuple [d,e]):=by
 refine .tup h rfl fun i x' d' e1 e2=>?_
 match i,e1,e2 with
 | 0,e1,e2=>cases e1; cases e2; exact hx
 | 1,e1,e2=>cases e1; cases e2; exact hy
theorem rd_three {H:Hp} {o:Addr} {x y z:V} {d e g:PyData} (h:H o=some (.tup [x,y,z])) (hx:RdD H x d) (hy:RdD H y e) (hz:RdD H z g):RdD H (.ref o) (.tuple [d,e,g]):=by
 refine .tup h rfl fun i x' d' e1 e2=>?_
 match i,e1,e2 with
 | 0,e1,e2=>cases e1; cases e2; exact hx
 | 1,e1,e2=>cases e1; cases e2; exact hy
 | 2,e1,e2=>cases e1; cases e2; exact hz
theorem rd_ans {H:Hp} {n:Int} {rs:List Raw} {ts:List (List Int)} {o:Addr}:∀ {d:ShF},resH H n rs ts o d->RdD H (.ref o) (ansD n rs ts d)
 | .net _,h=>rd_two h (.str _) (.str _)
 | .rope _ _,h=>rd_three h (.str _) (.int _) (.str _)
 | .turn _,h=>rd_two h (.str _) (.int _)
 | .loose _,h=>rd_two h (.str _) (.int _)
 | .flat _,h=>rd_two h (.str _) (.int _)
 | .told,⟨p,a,c,h1,h2,h3,h4⟩=>rd_two h1 (.str _) (rd_three h2 (.int _) (rd_raws h3) (rd_trns h4))
theorem lay_ints (t:List Int):(intsD t).canLay0=true:=by
 simp only [intsD,PyData.canLay0]
 refine lay_all fun d hd=>?_
 obtain ⟨x,_,rfl⟩:=List.mem_map.mp hd
 rfl
theorem lay_trns (ts:List (List Int)):(trnD ts).canLay0=true:=by
 simp only [trnD,PyData.canLay0]
 refine lay_all fun d hd=>?_
 obtain ⟨x,_,rfl⟩:=List.mem_map.mp hd
 exact lay_ints x
theorem lay_raws (rs:List Raw):(rwsD rs).canLay0=true:=by
 simp only [rwsD,PyData.canLay0]
 refine lay_all fun d hd=>?_
 obtain ⟨x,_,rfl⟩:=List.mem_map.mp hd
 simp [rawD,PyData.canLay0,PyData.canLayAll0]
theorem dep_ints (t:List Int):(intsD t).depth≤2:=by
 simp only [intsD,PyData.depth]
 have:=deep_all (n:=1) (ds:=t.map PyData.int) fun d hd=>by
  obtain ⟨x,_,rfl⟩:=List.mem_map.mp hd
  simp [PyData.depth]
 omega
theorem dep_trns (ts:List (List Int)):(trnD ts).depth≤3:=by
 simp only [trnD,PyData.depth]
 have:=deep_all (n:=2) (ds:=ts.map intsD) fun d hd=>by
  obtain ⟨x,_,rfl⟩:=List.mem_map.mp hd
  exact dep_ints x
 omega
theorem dep_raws (rs:List Raw):(rwsD rs).depth≤4:=by
 simp only [rwsD,PyData.depth]
 have:=deep_all (n:=3) (ds:=rs.map rawD) fun d hd=>by
  obtain ⟨x,_,rfl⟩:=List.mem_map.mp hd
  simp [rawD,PyData.depth,PyData.depthAll]
 omega
end My
namespace My
open PySem L2 Mth
theorem so_ropeF:PyData.strOk "rope" = true:=by decide +kernel
theorem so_looseF:PyData.strOk "loose" = true:=by decide +kernel
theorem so_netF:PyData.strOk "net" = true:=by decide +kernel
theorem so_turnF:PyData.strOk "turn" = true:=by decide +kernel
theorem so_flatF:PyData.strOk "flat" = true:=by decide +kernel
theorem so_toldF:PyData.strOk "told" = true:=by decide +kernel
theorem so_placeF:PyData.strOk "place" = true:=by decide +kernel
theorem so_placesF:PyData.strOk "places" = true:=by decide +kernel
theorem so_ropesF:PyData.strOk "ropes" = true:=by decide +kernel
theorem so_easeF:PyData.strOk "ease" = true:=by decide +kernel
theorem ans_lay {n:Int} {rs:List Raw} {ts:List (List Int)}:∀ {d:ShF},detP n rs ts d->(ansD n rs ts d).canLay0=true∧(ansD n rs ts d).depth≤64
 | .net w,h=>by
  have hw:PyData.strOk w=true:=by
   have h':w=if 2≤n∧n≤15 then "ropes" else "places":=h
   rw [h']
   split
   ·exact so_ropesF
   ·exact so_placesF
  exact ⟨by simp [ansD,PyData.canLay0,PyData.canLayAll0,hw,so_netF],by simp [ansD,PyData.depth,PyData.depthAll]⟩
 | .rope k w,⟨r,_,_,_,h⟩=>by
  have hw:PyData.strOk w=true:=by
   rw [h]
   split
   ·exact so_easeF
   ·exact so_placeF
  exact ⟨by simp [ansD,PyData.canLay0,PyData.canLayAll0,hw,so_ropeF],by simp [ansD,PyData.depth,PyData.depthAll]⟩
 | .turn _,_=>⟨by simp [ansD,PyData.canLay0,PyData.canLayAll0,so_turnF],by simp [ansD,PyData.depth,PyData.depthAll]⟩
 | .loose _,_=>⟨by simp [ansD,PyData.canLay0,PyData.canLayAll0,so_looseF],by simp [ansD,PyData.depth,PyData.depthAll]⟩
 | .flat _,_=>⟨by simp [ansD,PyData.canLay0,PyData.canLayAll0,so_flatF],by simp [ansD,PyData.depth,PyData.depthAll]⟩
 | .told,_=>by
  have a1:=lay_raws rs
  have a2:=lay_trns (ts.map begL)
  have b1:=dep_raws rs
  have b2:=dep_trns (ts.map begL)
  show (PyData.tuple [.str "told",.tuple [.int n,rwsD rs,trnD (ts.map begL)]]).canLay0=true∧(PyData.tuple [.str "told",.tuple [.int n,rwsD rs,trnD (ts.map begL)]]).depth≤64
  generalize rwsD rs=x at a1 b1 ⊢
  generalize trnD (ts.map begL)=y at a2 b2 ⊢
  refine ⟨by simp [PyData.canLay0,PyData.canLayAll0,a1,a2,so_toldF],?_⟩
  simp only [PyData.depth,PyData.depthAll]
  omega
def rdL (CN CR CT CL CX:Addr) (vs:List V) (H:Hp) (Q:VK) (E:XK):Prop:=∃ (a ra ta:Addr) (n:Int),vs=[.ref a]∧H a=some (.tup [.int n,.ref ra,.ref ta])∧spCk CN CR CT CL CX [.int n,.ref ra,.ref ta] H Q E
section
variable {H:Hp} {Q:VK} {E:XK} {CN CR CT CL CX a ra ta:Addr} {n:Int} {rs:List Raw} {ts:List (List Int)}
theorem sf_go {f:Addr} {A1 A2:Hp->Prop} (h1:A1 H) (h2:A2 H) (ha:H a=some (.tup [.int n,.ref ra,.ref ta])) (hR:TupR RawR H ra rs) (hT:TupR IntsT H ta ts) (htl:∀ t∈ts,t.length<64) (q:∀ o d H',Same H H'->DueP n rs ts d->resH H' n rs ts o d->Q (.ref o) H') :
  ssF CN CR CT CL CX (fun H Q E=>A1 H∧A2 H∧rdL CN CR CT CL CX [.ref a] H Q E) f H Q:=by
 refine ⟨h1,h2,a,ra,ta,n,rfl,ha,.mk n ra ta rs ts rfl hR hT htl fun d hd=>?_⟩
 match d,hd with
 | .net w,hd=>exact fun dd H' s hx=>⟨dd,rfl,.inl ⟨rfl,_,hx,fun p H2 s2 hp=>q p (.net w) H2 (s.trans s2) hd hp⟩⟩
 | .rope k w,hd=>exact fun dd H' s hx=>⟨dd,rfl,.inr (.inl ⟨rfl,_,_,hx,fun p H2 s2 hp=>q p (.rope k w) H2 (s.trans s2) hd hp⟩)⟩
 | .turn k,hd=>exact fun dd H' s hx=>⟨dd,rfl,.inr (.inr (.inl ⟨rfl,_,hx,fun p H2 s2 hp=>q p (.turn k) H2 (s.trans s2) hd hp⟩))⟩
 | .loose k,hd=>exact fun dd H' s hx=>⟨dd,rfl,.inr (.inr (.inr (.inl ⟨rfl,_,hx,fun p H2 s2 hp=>q p (.loose k) H2 (s.trans s2) hd hp⟩)))⟩
 | .flat k,hd=>exact fun dd H' s hx=>⟨dd,rfl,.inr (.inr (.inr (.inr ⟨rfl,_,hx,fun p H2 s2 hp=>q p (.flat k) H2 (s.trans s2) hd hp⟩)))⟩
 | .told,hd=>exact fun p c H' s hp hc o H2 s2 ho=>q o .told H2 (s.trans s2) hd ⟨p,ra,c,ho,s2 _ _ hp,mo_rw (s.trans s2) hR,mo_tt s2 hc⟩
theorem res_mono {Q':VK} {E':XK} (hq:∀ v H,Q v H->Q' v H) (he:∀ c o H,E c o H->E' c o H):∀ {d:ShF},resF CN CR CT CL CX H Q E n a ts d->resF CN CR CT CL CX H Q' E' n a ts d
 | .net _,h=>fun d H' s x=>he _ _ _ (h d H' s x)
 | .rope _ _,h=>fun d H' s x=>he _ _ _ (h d H' s x)
 | .turn _,h=>fun d H' s x=>he _ _ _ (h d H' s x)
 | .loose _,h=>fun d H' s x=>he _ _ _ (h d H' s x)
 | .flat _,h=>fun d H' s x=>he _ _ _ (h d H' s x)
 | .told,h=>fun p c H' s x y=>hq _ _ (h p c H' s x y)
theorem rdL_mono {vs:List V} {Q':VK} {E':XK} (hq:∀ v H,Q v H->Q' v H) (he:∀ c o H,E c o H->E' c o H) (h:rdL CN CR CT CL CX vs H Q E):rdL CN CR CT CL CX vs H Q' E':=by
 obtain ⟨a,ra,ta,n,h1,h2,n',a',b',rs,ts,g0,g1,g2,g3,g4⟩:=h
 exact ⟨a,ra,ta,n,h1,h2,n',a',b',rs,ts,g0,g1,g2,g3,fun d hd=>res_mono hq he (g4 d hd)⟩
end
end My
namespace My
open PySem L2 Mth
section
variable {P:Program} {w:World} {K:PySem.W.Frag} {mg:Str->Option Value} {base:Heap} {f g h f1 f2 f3 f4 f5 fI:Addr} {fd gd hd d1 d2 d3 d4 d5 dI:FuncData}
inductive SpSpR (vs:List V) (H:Hp) (Q:VK):Prop
 | mk (a ra ta:Addr) (n z:Int) (rs:List Raw) (ts:List (List Int)) (i:Nat) (h_0:vs=[.ref a,.int z]) (h_1:H a=some (.tup [.int n,.ref ra,.ref ta])) (h_2:TupR RawR H ra rs) (h_3:TupR IntsT H ta ts) (h_4:i≤3) (h_5:rs.length≤36+i) (h_6:ts.length≤15+i) (h_7:∀ t∈ts,t.length≤30+i)
  (h_8:∀ p ra' ta' n' rs' ts' H',Same H H'->H' p=some (.tup [.int n',.ref ra',.ref ta'])->TupR RawR H' ra' rs'->TupR IntsT H' ta' ts'->rs'.length≤36+(i+1)->ts'.length≤15+(i+1)->(∀ t∈ts',t.length≤30+(i+1))->Q (.ref p) H'):SpSpR vs H Q
def spSp:Sp:=fun vs H Q _=>SpSpR vs H Q
theorem scSp:FnScope ["_law_net","_law_cell","_law_places","_law_ropes","_law_turns","_law_way","_law_left","_law_at","_law_rope","_law_many","_law_lone","_law_moved"] ["_law_net","_law_cell"] (defScope s_law_spoilt):=⟨rfl,rfl,rfl,by decide +kernel,rfl,by decide +kernel,by decide +kernel⟩
theorem ndTM:(["_law_turn","_law_many"]:List Str).Nodup:=by decide +kernel
end
end My
namespace My
open PySem L2 Mth
theorem eqv_nil (ds:List PyData):PyData.eqv (.tuple ds) (.tuple [])=ds.isEmpty:=by
 cases ds with
 | nil=>simp [PyData.eqv,PyData.eqvAll]
 | cons d ds=>simp [PyData.eqv,PyData.eqvAll]
theorem rd_nil {H:Hp} {p:Addr} (h:H p=some (.tup [])):RdD H (.ref p) (.tuple []):=.tup h rfl fun i x d e1 _=>by simp at e1
theorem lay_nil:(PyData.tuple []).canLay0=true∧(PyData.tuple []).depth≤64:=⟨by simp [PyData.canLay0,PyData.canLayAll0],by simp [PyData.depth,PyData.depthAll]⟩
theorem eqv_raws (rs:List Raw):PyData.eqv (rwsD rs) (.tuple [])=rs.isEmpty:=by
 unfold rwsD
 rw [eqv_nil]
 cases rs <;> rfl
theorem eqv_trns (ts:List (List Int)):PyData.eqv (trnD ts) (.tuple [])=ts.isEmpty:=by
 unfold trnD
 rw [eqv_nil]
 cases ts <;> rfl
end My
namespace My
open PySem L2 Mth
theorem mod_nat (z:Int) {m:Int} (h:0<m):∃ k:Nat,z % m=k∧(k:Int)<m:=⟨(z % m).toNat,by have:=Int.emod_nonneg z (show m≠0 by omega); omega,by have:=Int.emod_nonneg z (show m≠0 by omega); have:=Int.emod_lt_of_pos z h; omega⟩
theorem pick_int {xs:List Int} {z:Int} (h:0≤z) (h2:z<(xs.length:Int)):∃ x,atI (xs.map V.int) z=some (.int x):=by
 obtain ⟨i,rfl⟩:=Int.eq_ofNat_of_zero_le h
 have il:i<xs.length:=by omega
 refine ⟨xs[i],atI_nat ?_⟩
 rw [List.getElem?_map,List.getElem?_eq_getElem il]
 rfl
theorem ixN_nat {n j:Nat} (h:j<n):ixN n (j:Int)=some j:=by
 unfold ixN
 rw [if_pos (by omega),if_pos (by omega)]
 rfl
def mvE (m e:Int):Int:=e+2*(if decide (m≤e)=true then 1 else 0)
def mvT (m:Int) (t:List Int):List Int:=t.map (mvE m)
section
variable {P:Program} {w:World} {K:PySem.W.Frag} {mg:Str->Option Value} {base:Heap} {f g h f1 f2 f3 f4 f5 fI:Addr} {fd gd hd d1 d2 d3 d4 d5 dI:FuncData}
set_option maxHeartbeats 4000000 in
seal L2.PSs L2.PS L2.PE L2.PA in
theorem ok_sp (F:Fun K "_law_spoilt" "_law_spoilt" s_law_spoilt f fd)
  (G1:FnOk P w K mg base CX0 1 f1 d1 ["_law_cell"] spOe) (b1:Binds K d1 ["_law_cell"] []) (k1:PySem.W.keepIn K (.ref f1)=true) (m1:mg "_law_other_ease" = some (.ref f1))
  (G2:FnOk P w K mg base CX0 1 f2 d2 ["_law_turns","_law_way","_law_cell"] spOt) (b2:Binds K d2 ["_law_turns","_law_way","_law_cell"] []) (k2:PySem.W.keepIn K (.ref f2)=true) (m2:mg "_law_other_turns" = some (.ref f2)) (ml:mg "len" = none) (mx:mg "max" = none) (mli:mg "list" = none) (mt:mg "tuple" = none) (mi:mg "int" = none) :
  FnOk P w K mg base CX0 2 f fd ["_law_net","_law_cell"] spSp:=by
 refine F.ok scSp (fun vs H Q E h=>?_) (fun cdv A outer s H vs Q E hr h=>?_)
 ·obtain ⟨a,ra,ta,n,z,rs,ts,i,rfl,_⟩:=h
  rfl
 obtain ⟨a,ra,ta,n,z,rs,ts,i,rfl,ha,hR,hT,i3,rl,tl,el,q⟩:=h
 refine ⟨_,pss_cons (ps_asg (pv 0) (pgTup (n:=3) (K:=K) rfl (pgs_cons (pg_name (i:=2) scSp.nd rfl (Or.inl rfl)) (pgs_cons (pg_name (i:=3) scSp.nd rfl (Or.inl rfl)) (pgs_cons (pg_name (i:=4) scSp.nd rfl (Or.inl rfl)) pgs_nil)))))
  (pss_cons (ps_set (i:=5) scSp.nd rfl (Or.inl rfl) (pe_op op_mod (pv 1) pe_int))
  (pss_cons (ps_set (i:=6) scSp.nd rfl (Or.inl rfl) (pe_op op_fdiv (pv 1) pe_int))
  (pss_cons (ps_set (i:=7) scSp.nd rfl (Or.inl rfl) (pe_op op_mod (pv 6) (pe_callB (call_max2 rfl) (by rfl) mx bt_max (pa_cons pe_int (pa_cons (pe_callB (callLen (K:=K)) (by rfl) ml bt_len (pa_cons (pv 3) pa_nil)) pa_nil)))))
  (pss_cons (ps_if (pt_cmpR op_eq (pv 5) pe_int (nomark _)) (pss_one (ps_ret (pe_tup (pa_cons (pe_ix (ixL (K:=K)) (pe_lst (pa_cons pe_int (pa_cons pe_int (pa_cons pe_int (pa_cons (pe_op op_add (pv 2) pe_int) (pa_cons (pe_op op_sub (pv 2) pe_int) (pa_cons (pe_un un_neg (pv 2)) (pa_cons (pe_op op_pow pe_int pe_int) pa_nil)))))))) (pe_op op_mod (pv 6) pe_int) (fun _ _=>rfl)) (pa_cons (pv 3) (pa_cons (pv 4) pa_nil)))))) pss_nil)
  (pss_cons (ps_if (pt_cmpR op_eq (pv 5) pe_int (nomark _)) (pss_one (ps_ret (pe_tup (pa_cons (pv 2) (pa_cons (pe_slice (slTA (K:=K)) (pe_ix (ixL (K:=K)) (pe_lst (pa_cons (pe_tup pa_nil) (pa_cons (pe_op op_catB (pv 3) (pv 3)) (pa_cons (pe_op op_repT (pv 3) pe_int) pa_nil)))) (pe_op op_mod (pv 6) pe_int) (fun _ _=>rfl)) po_none (po_some pe_int)) (pa_cons (pv 4) pa_nil)))))) pss_nil)
  (pss_cons (ps_if (PW.pt (pw_and (pt_cmpR (op_neG hr.units) (pv 3) (pe_tup pa_nil) (nomark _)) (pw_and1 (pt_cmpR op_lt (pv 5) pe_int (nomark _)))))
   (pss_cons (ps_set (i:=8) scSp.nd rfl (Or.inl rfl) (pe_callTy (callLst (K:=K)) (by rfl) mli bt_list (pa_cons (pe_ix (ixT (K:=K)) (pv 3) (pv 7) (fun _ _=>rfl)) pa_nil)))
   (pss_cons (ps_asg (pe_ix (ixL (K:=K)) (pe_lst (pa_cons (pe_un un_neg pe_int) (pa_cons (pv 2) (pa_cons (pe_op op_pow pe_int pe_int) (pa_cons pe_int (pa_cons pe_int pa_nil)))))) (pe_op op_mod (pe_op op_fdiv (pv 6) pe_int) pe_int) (fun _ _=>rfl)) (pg_sub (pv 8) (pe_op op_mod (pe_op op_fdiv (pv 6) pe_int) pe_int) set_list))
   (pss_one (ps_ret (pe_tup (pa_cons (pv 2) (pa_cons (pe_op op_catB (pe_op op_catB (pe_slice (slTA (K:=K)) (pv 3) po_none (po_some (pv 7))) (pe_tup (pa_cons (pe_callTy (callTup (K:=K)) (by rfl) mt bt_tuple (pa_cons (pv 8) pa_nil)) pa_nil))) (pe_slice (slTA (K:=K)) (pv 3) (po_some (pe_op op_add (pv 7) pe_int)) po_none)) (pa_cons (pv 4) pa_nil)))))))) pss_nil)
  (pss_cons (ps_if (PW.pt (pw_and (pt_cmpR (op_neG hr.units) (pv 3) (pe_tup pa_nil) (nomark _)) (pw_and1 (pt_cmpR op_lt (pv 5) pe_int (nomark _)))))
   (pss_cons (ps_set (i:=8) scSp.nd rfl (Or.inl rfl) (pe_tup (pa_cons (pe_ix (ixT (K:=K)) (pe_ix (ixT (K:=K)) (pv 3) (pv 7) (fun _ _=>rfl)) pe_int (fun _ _=>rfl)) (pa_cons (pe_ix (ixT (K:=K)) (pe_ix (ixT (K:=K)) (pv 3) (pv 7) (fun _ _=>rfl)) pe_int (fun _ _=>rfl)) (pa_cons (pe_call G1 hr (by rfl) m1 k1 b1 .nil pass0 (pa_cons (pe_op op_fdiv (pv 6) pe_int) pa_nil)) pa_nil)))))
   (pss_one (ps_ret (pe_tup (pa_cons (pv 2) (pa_cons (pe_op op_catB (pe_op op_catB (pe_slice (slTA (K:=K)) (pv 3) po_none (po_some (pv 7))) (pe_tup (pa_cons (pv 8) pa_nil))) (pe_slice (slTA (K:=K)) (pv 3) (po_some (pe_op op_add (pv 7) pe_int)) po_none)) (pa_cons (pv 4) pa_nil))))))) pss_nil)
  (pss_cons (ps_if (pt_cmpR op_eq (pv 5) pe_int (nomark _))
   (pss_cons (ps_set (i:=9) scSp.nd rfl (Or.inr rfl) (pe_op op_mul pe_int (pe_callB (callLen (K:=K)) (by rfl) ml bt_len (pa_cons (pv 3) pa_nil))))
   (pss_cons (ps_set (i:=10) scSp.nd rfl (Or.inl rfl) (pe_tup (pa_cons (pv 9) (pa_cons (pe_op op_add (pv 9) pe_int) pa_nil))))
   (pss_cons (ps_setComp (i:=11) scSp.nd rfl (Or.inl rfl) (Nc:=["_law_turn","_law_many"]) (cap:=[(1,9)]) (g:=gName 0) (te:=tCB (fun xs H Q=>∃ p ys,xs=[V.ref p]∧((SqL K H p ys∧∀ (l:Addr),H l=none->Q (V.ref l) (upd H l (HO.tup ys)))∨SqT K H p ys∧Q (V.ref p) H)) (tCons (tComp 2 [(1,1)] (iTup K (tVar 0)) (gName 0) (tOp (rI0 fun i j=>.int (i+j)) (tVar 0) (tOp (rI CMul fun i j=>.int (i*j)) (tC (.int 2)) (tCB (fun xs H Q=>(∃ i,xs=[V.int i]∧Q (V.int i) H)∨∃ k,xs=[V.bl k]∧Q (V.int (if k=true then 1 else 0)) H) (tCons (tOp (rI0 fun i j=>.bl (decide (j≤i))) (tVar 0) (tVar 1)) tNil))))) tNil)) rfl (piTup (K:=K) (pv 4))
     (comp_mk rfl rfl (by decide +kernel) (by decide +kernel) (List.forall_mem_cons.mpr ⟨⟨rfl,rfl⟩,List.forall_mem_nil _⟩) rfl (List.forall_mem_cons.mpr ⟨⟨_,_,rfl,rfl,rfl,rfl,rfl⟩,List.forall_mem_nil _⟩)) (fun C fp pins s' H'=>pg_name (i:=0) ndTM rfl (Or.inl rfl))
     (fun C fp pins s' H'=>pe_callTy (callTup (K:=K)) (by rfl) mt bt_tuple (pa_cons (pe_comp (Nc:=["_law_end","_law_many"]) (cap:=[(1,1)]) (g:=gName 0) (te:=tOp (rI0 fun i j=>.int (i+j)) (tVar 0) (tOp (rI CMul fun i j=>.int (i*j)) (tC (.int 2)) (tCB (fun xs H Q=>(∃ i,xs=[V.int i]∧Q (V.int i) H)∨∃ k,xs=[V.bl k]∧Q (V.int (if k=true then 1 else 0)) H) (tCons (tOp (rI0 fun i j=>.bl (decide (j≤i))) (tVar 0) (tVar 1)) tNil)))) rfl (piTup (K:=K) (pv 0))
      (comp_mk rfl rfl (by decide +kernel) (by decide +kernel) (List.forall_mem_cons.mpr ⟨⟨rfl,rfl⟩,List.forall_mem_nil _⟩) rfl (List.forall_mem_cons.mpr ⟨⟨_,_,rfl,rfl,rfl,rfl,rfl⟩,List.forall_mem_nil _⟩)) (fun C fp pins s' H'=>pg_name (i:=0) ndEM rfl (Or.inl rfl))
      (fun C fp pins s' H'=>pe_op op_add (pv 0) (pe_op op_mul pe_int (pe_callTy call_int1 (by rfl) mi bt_int (pa_cons (pe_cmpR op_ge (pv 0) (pv 1) (nomark _)) pa_nil))))) pa_nil)))
   (pss_one (ps_ret (pe_tup (pa_cons (pe_op op_add (pv 2) pe_int) (pa_cons (pe_op op_catB (pv 3) (pe_tup (pa_cons (pe_tup (pa_cons (pv 2) (pa_cons (pv 2) (pa_cons (pe_tup (pa_cons pe_int (pa_cons pe_int pa_nil))) pa_nil)))) pa_nil))) (pa_cons (pe_op op_catB (pe_callTy (callTup (K:=K)) (by rfl) mt bt_tuple (pa_cons (pv 11) pa_nil)) (pe_tup (pa_cons (pv 10) pa_nil))) pa_nil))))))))) pss_nil)
  (pss_cons (ps_if (pt_cmpR (op_eqG hr.units) (pv 4) (pe_tup pa_nil) (nomark _)) (pss_one (ps_ret (pe_tup (pa_cons (pv 2) (pa_cons (pv 3) (pa_cons (pv 4) pa_nil)))))) pss_nil)
  (pss_one (ps_ret (pe_tup (pa_cons (pv 2) (pa_cons (pv 3) (pa_cons (pe_call G2 hr (by rfl) m2 k2 b2 .nil pass0 (pa_cons (pv 4) (pa_cons (pe_op op_mod (pv 5) pe_int) (pa_cons (pv 6) pa_nil)))) pa_nil))))))))))))))),?_⟩
 have mul2:∀ x:Int,CMul 2 x:=fun x=>.inl ⟨by decide,by decide⟩
 obtain ⟨bs,hra,hB⟩:=id hR
 obtain ⟨cs,hta,hC⟩:=id hT
 have lbs:bs.length=rs.length:=hB.1
 have lcs:cs.length=ts.length:=hC.1
 have lB:(bs.map V.ref).length=rs.length:=by rw [List.length_map,lbs]
 have fin:∀ (H':Hp) (n':Int) (ra' ta':Addr) (rs':List Raw) (ts':List (List Int)),Same H H'->TupR RawR H' ra' rs'->TupR IntsT H' ta' ts'->rs'.length≤36+(i+1)->ts'.length≤15+(i+1)->(∀ t∈ts',t.length≤30+(i+1))->TupNR [.int n',.ref ra',.ref ta'] H' Q:=by
  intro H' n' ra' ta' rs' ts' s' hR' hT' h1 h2 h3
  refine ⟨by show 3≤sizeLine; decide,fun p hp=>?_⟩
  have s2:=same_new hp (.tup [.int n',.ref ra',.ref ta'])
  exact q p ra' ta' n' rs' ts' _ (s'.trans s2) upd_same (mo_rw s2 hR') (mo_tt s2 hT') h1 h2 h3
 have el1:∀ t∈ts,t.length≤30+(i+1):=fun t ht=>by have:=el t ht; omega
 refine ⟨_,rfl,a,_,rfl,SqT.of ha,rfl,_,_,rfl,_,_,rfl,_,_,rfl,rfl,?_⟩
 refine ⟨_,rfl,_,_,rfl,rfl,(show (0:Int)<16 by decide),?_⟩
 refine ⟨_,rfl,_,_,rfl,rfl,⟨by decide,by decide⟩,?_⟩
 refine ⟨_,rfl,_,rfl,ra,_,rfl,.inr (SqT.of hra),1,_,rfl,_,_,rfl,rfl,by split <;> omega,?_⟩
 rw [lB]
 obtain ⟨aa,haa,atl⟩:∃ k:Nat,z / 16 % (if (rs.length:Int) > 1 then (rs.length:Int) else 1)=k∧(0<rs.length->k<rs.length):=by
  have m0:(0:Int)<(if (rs.length:Int) > 1 then (rs.length:Int) else 1):=by split <;> omega
  obtain ⟨k,h1,h2⟩:=mod_nat (z / 16) m0
  refine ⟨k,h1,fun h=>?_⟩
  split at h2 <;> omega
 rw [haa]
 generalize z / 16=lf
 generalize z % 16=way
 dsimp only
 refine name_goH ?_
 refine seq_hide fun U0 hU0=>?_
 refine ⟨_,rfl,rfl,_,rfl,?_⟩
 by_cases w0:way=0
 ·refine iteDT (iv w0) ?_
  refine ⟨_,rfl,_,_,rfl,rfl,_,rfl,_,_,rfl,rfl,_,rfl,_,rfl,_,_,rfl,rfl,⟨by decide,by decide,by decide⟩,by show 7≤sizeLine; decide,fun L hL=>?_⟩
  have sL:=same_new hL (.lst [.int 0,.int 1,.int 16,.int (n+1),.int (n-1),.int (-n),.int (10 ^ ((30:Int).toNat))])
  have eL:(upd H L (.lst [.int 0,.int 1,.int 16,.int (n+1),.int (n-1),.int (-n),.int (10 ^ ((30:Int).toNat))])) L=some (.lst (([0,1,16,n+1,n-1,-n,10 ^ ((30:Int).toNat)]:List Int).map V.int)):=upd_same
  obtain ⟨x,hx⟩:=pick_int (xs:=[0,1,16,n+1,n-1,-n,10 ^ ((30:Int).toNat)]) (z:=lf % 7) (by omega) (by show _<((7:Nat):Int); omega)
  generalize upd H L (.lst [.int 0,.int 1,.int 16,.int (n+1),.int (n-1),.int (-n),.int (10 ^ ((30:Int).toNat))])=H1 at sL eL
  refine ⟨_,rfl,_,_,rfl,rfl,(show (0:Int)<7 by decide),L,_,_,_,rfl,rfl,SqL.of eL,hx,_,rfl,_,rfl,?_⟩
  exact fin H1 x ra ta rs ts sL (mo_rw sL hR) (mo_tt sL hT) (by omega) (by omega) el1
 refine iteDF (ivn w0) ?_
 dsimp only [tNext]
 subst hU0
 refine seq_hide fun U1 hU1=>?_
 refine ⟨_,rfl,rfl,_,rfl,?_⟩
 by_cases w1:way=1
 ·refine iteDT (iv w1) ?_
  refine ⟨_,rfl,by show 0≤sizeLine; decide,fun p0 hp0=>?_⟩
  have s0:=same_new hp0 (.tup [])
  have e0:(upd H p0 (.tup [])) p0=some (.tup (([]:List Addr).map V.ref)):=upd_same
  generalize upd H p0 (.tup [])=H0 at s0 e0
  have hra0:=s0 _ _ hra
  refine ⟨_,rfl,_,rfl,ra,ra,_,_,rfl,rfl,hra0,hra0,by rw [lB,sizeLine_eq]; omega,fun p1 H1 s1 e1=>?_⟩
  rw [←List.map_append] at e1
  refine ⟨_,rfl,ra,_,rfl,rfl,s1 _ _ hra0,by rw [lB]; omega,fun p2 H2 s2 e2=>?_⟩
  rw [←List.map_append,←List.map_append] at e2
  refine ⟨by show 3≤sizeLine; decide,fun L hL=>?_⟩
  have sL:=same_new hL (.lst [.ref p0,.ref p1,.ref p2])
  have eL:(upd H2 L (.lst [.ref p0,.ref p1,.ref p2])) L=some (.lst (([p0,p1,p2]:List Addr).map V.ref)):=upd_same
  generalize upd H2 L (.lst [.ref p0,.ref p1,.ref p2])=H3 at sL eL
  have s2':Same H1 H2:=s2
  have s02:Same H0 H2:=s1.trans s2'
  have s3:Same H H3:=s0.trans (s02.trans sL)
  have hB3:=hB.keep mo_raw s3
  have a3:At (TupR RawR) H3 [p0,p1,p2] [[],rs++rs,rs++rs++rs]:=((At.nil.snoc (⟨[],sL _ _ (s02 _ _ e0),At.nil⟩:TupR RawR H3 p0 [])).snoc (⟨bs++bs,sL _ _ (s2' _ _ e1),hB3.app hB3⟩:TupR RawR H3 p1 (rs++rs))).snoc (⟨bs++bs++bs,sL _ _ e2,(hB3.app hB3).app hB3⟩:TupR RawR H3 p2 (rs++rs++rs))
  obtain ⟨k,hk,k3⟩:=mod_nat lf (show (0:Int)<3 by decide)
  obtain ⟨x,hx⟩:∃ x,([[],rs++rs,rs++rs++rs]:List (List Raw))[k]?=some x:=⟨_,List.getElem?_eq_getElem (by show k<3; omega)⟩
  obtain ⟨b,hb,⟨cs',hcs,hC'⟩⟩:=a3.get hx
  refine ⟨_,rfl,_,_,rfl,rfl,(show (0:Int)<3 by decide),L,_,_,_,rfl,rfl,SqL.of eL,?_,_,rfl,slA_go hcs fun p4 H4 s4 e4=>?_⟩
  ·rw [hk]
   exact atI_nat (ref_at hb)
  rw [cutL_ref] at e4
  refine ⟨_,rfl,?_⟩
  refine fin H4 n p4 ta (cutL x none (some 36)) ts (s3.trans s4) ⟨_,e4,(hC'.keep mo_raw s4).cut _ _⟩ (mo_tt (s3.trans s4) hT) ?_ (by omega) el1
  have:=lenT x 36
  rw [show (some ((36:Nat):Int))=some 36 from rfl] at this
  omega
 refine iteDF (ivn w1) ?_
 dsimp only [tNext]
 subst hU1
 have dp:(rwsD rs).canLay0=true∧(rwsD rs).depth≤64:=⟨lay_raws rs,by have:=dep_raws rs; omega⟩
 have dt:(trnD ts).canLay0=true∧(trnD ts).depth≤64:=⟨lay_trns ts,by have:=dep_trns ts; omega⟩
 refine if_seq (fun σ H'=>σ=[some (.ref a),some (.int z),some (.int n),some (.ref ra),some (.ref ta),some (.int way),some (.int lf),some (.int (aa:Int)),none,none,none,none]∧Same H H') ?_ fun nx hn=>?_
 rotate_left
 ·refine ⟨_,rfl,by show 0≤sizeLine; decide,fun p0 hp0=>?_⟩
  have s0:=same_new hp0 (.tup [])
  have e0:(upd H p0 (.tup [])) p0=some (.tup []):=upd_same
  generalize upd H p0 (.tup [])=H0 at s0 e0
  refine ⟨rwsD rs,.tuple [],rd_raws (mo_rw s0 hR),rd_nil e0,dp,lay_nil,_,rfl,?_⟩
  rw [eqv_raws]
  by_cases rn:rs=[]
  ·subst rn
   refine iteF ?_
   exact iteF (hn _ _ ⟨rfl,s0⟩)
  rw [show rs.isEmpty=false by cases rs with | nil=>exact absurd rfl rn | cons _ _=>rfl]
  refine iteT ?_
  refine ⟨_,rfl,_,_,rfl,rfl,_,rfl,?_⟩
  by_cases w4:way<4
  rotate_left
  ·exact iteDF w4 (hn _ _ ⟨rfl,s0⟩)
  refine iteDT w4 ?_
  clear hn
  have atl':=atl (List.length_pos_iff.mpr rn)
  have htt:rs[aa]?=some rs[aa]:=List.getElem?_eq_getElem atl'
  generalize rs[aa]=r at htt
  obtain ⟨c,hc,hcr⟩:=hB.get htt
  obtain ⟨e,hce,hee⟩:=hcr
  refine ⟨_,rfl,_,rfl,ra,_,_,_,rfl,rfl,SqT.of (s0 _ _ hra),atI_nat (ref_at hc),c,_,rfl,.inr (SqT.of (s0 _ _ hce)),fun l hl=>?_⟩
  have s1:=same_new hl (.lst [.int r.1,.int r.2.1,.ref e])
  have e1:(upd H0 l (.lst [.int r.1,.int r.2.1,.ref e])) l=some (.lst [.int r.1,.int r.2.1,.ref e]):=upd_same
  have hl0:H l=none:=s0.free hl
  generalize upd H0 l (.lst [.int r.1,.int r.2.1,.ref e])=H1 at s1 e1
  dsimp only
  refine name_goH ?_
  refine seq_hide fun U2 hU2=>?_
  refine ⟨_,rfl,_,rfl,_,_,rfl,rfl,⟨by decide,by decide,by decide⟩,by show 5≤sizeLine; decide,fun L hL=>?_⟩
  have sL:=same_new hL (.lst [.int (-1),.int n,.int (10 ^ ((30:Int).toNat)),.int 0,.int 1])
  have eL:(upd H1 L (.lst [.int (-1),.int n,.int (10 ^ ((30:Int).toNat)),.int 0,.int 1])) L=some (.lst (([-1,n,10 ^ ((30:Int).toNat),0,1]:List Int).map V.int)):=upd_same
  obtain ⟨x,hx⟩:=pick_int (xs:=[-1,n,10 ^ ((30:Int).toNat),0,1]) (z:=lf / 28 % 5) (by omega) (by show _<((5:Nat):Int); omega)
  generalize upd H1 L (.lst [.int (-1),.int n,.int (10 ^ ((30:Int).toNat)),.int 0,.int 1])=H2 at sL eL
  refine ⟨_,rfl,_,_,rfl,rfl,⟨by decide,by decide⟩,_,_,rfl,rfl,(show (0:Int)<5 by decide),L,_,_,_,rfl,rfl,SqL.of eL,hx,?_⟩
  obtain ⟨k,hk,k3⟩:=mod_nat (lf / 14) (show (0:Int)<2 by decide)
  refine ⟨_,rfl,_,rfl,_,_,rfl,rfl,⟨by decide,by decide⟩,_,_,rfl,rfl,(show (0:Int)<2 by decide),l,_,_,k,rfl,rfl,sL _ _ e1,?_,?_⟩
  ·rw [hk]
   exact ixN_nat (by show k<3; omega)
  obtain ⟨r',hr',he'⟩:∃ r':Raw,([V.int r.1,V.int r.2.1,V.ref e]:List V).set k (.int x)=[.int r'.1,.int r'.2.1,.ref e]∧r'.2.2=r.2.2:=by
   match k,k3 with
   | 0,_=>exact ⟨(x,r.2.1,r.2.2),rfl,rfl⟩
   | 1,_=>exact ⟨(r.1,x,r.2.2),rfl,rfl⟩
   | k+2,k3=>omega
  rw [hr']
  have s3:Same H (upd H2 l (.lst [.int r'.1,.int r'.2.1,.ref e])):=((s0.trans s1).trans sL).up hl0 _
  have e3:(upd H2 l (.lst [.int r'.1,.int r'.2.1,.ref e])) l=some (.lst [.int r'.1,.int r'.2.1,.ref e]):=upd_same
  generalize upd H2 l (.lst [.int r'.1,.int r'.2.1,.ref e])=H3 at s3 e3
  subst hU2
  refine ⟨_,rfl,_,rfl,_,rfl,_,rfl,slA_go (s3 _ _ hra) fun p4 H4 s4 e4=>?_⟩
  rw [cutL_ref] at e4
  refine ⟨_,rfl,l,_,rfl,.inl ⟨SqL.of (s4 _ _ e3),fun p5 hp5=>?_⟩⟩
  have s5:=same_new hp5 (.tup [.int r'.1,.int r'.2.1,.ref e])
  have e5:(upd H4 p5 (.tup [.int r'.1,.int r'.2.1,.ref e])) p5=some (.tup [.int r'.1,.int r'.2.1,.ref e]):=upd_same
  generalize upd H4 p5 (.tup [.int r'.1,.int r'.2.1,.ref e])=H5 at s5 e5
  refine ⟨by show 1≤sizeLine; decide,fun p6 hp6=>?_⟩
  have s6:=same_new hp6 (.tup [.ref p5])
  have e6:(upd H5 p6 (.tup [.ref p5])) p6=some (.tup (([p5]:List Addr).map V.ref)):=upd_same
  generalize upd H5 p6 (.tup [.ref p5])=H6 at s6 e6
  have l4:=lenT bs aa
  refine ⟨p4,p6,_,_,rfl,rfl,s6 _ _ (s5 _ _ e4),e6,?_,fun p7 H7 s7 e7=>?_⟩
  ·rw [List.length_map,List.length_map,sizeLine_eq]
   show _+1≤_
   omega
  rw [←List.map_append] at e7
  have s07:=s3.trans (s4.trans (s5.trans (s6.trans s7)))
  refine ⟨_,rfl,_,rfl,_,_,rfl,rfl,_,rfl,?_⟩
  dsimp only [tNoPart]
  refine slA_go (s07 _ _ hra) fun p8 H8 s8 e8=>?_
  rw [show ((aa:Nat):Int)+1=((aa+1:Nat):Int) by omega,cutL_ref] at e8
  have l8:=lenD bs (aa+1)
  refine ⟨p7,p8,_,_,rfl,rfl,s8 _ _ e7,e8,?_,fun p9 H9 s9 e9=>?_⟩
  ·rw [List.length_map,List.length_map,List.length_append,sizeLine_eq]
   show _+1+_≤_
   omega
  rw [←List.map_append] at e9
  have s09:=s07.trans (s8.trans s9)
  have hB9:=hB.keep mo_raw s09
  have rn9:RawR H9 p5 r':=⟨e,s9 _ _ (s8 _ _ (s7 _ _ (s6 _ _ e5))),by rw [he']; exact s09 _ _ hee⟩
  refine ⟨_,rfl,?_⟩
  refine fin H9 n p9 ta (cutL rs none (some (aa:Int))++[r']++cutL rs (some ((aa+1:Nat):Int)) none) ts s09 ⟨_,e9,((hB9.cut _ _).snoc rn9).app (hB9.cut _ _)⟩ (mo_tt s09 hT) ?_ (by omega) el1
  rw [List.length_append,List.length_append,lenT,lenD]
  show _+1+_≤_
  omega
 rintro σ H1 ⟨rfl,sH1⟩
 have hR1:=mo_rw sH1 hR
 refine if_seq (fun σ H'=>σ=[some (.ref a),some (.int z),some (.int n),some (.ref ra),some (.ref ta),some (.int way),some (.int lf),some (.int (aa:Int)),none,none,none,none]∧Same H H') ?_ fun nx hn=>?_
 rotate_left
 ·refine ⟨_,rfl,by show 0≤sizeLine; decide,fun p0 hp0=>?_⟩
  have s0':=same_new hp0 (.tup [])
  have s0:=sH1.trans s0'
  have e0:(upd H1 p0 (.tup [])) p0=some (.tup []):=upd_same
  generalize upd H1 p0 (.tup [])=H0 at s0 e0 s0'
  refine ⟨rwsD rs,.tuple [],rd_raws (mo_rw s0 hR),rd_nil e0,dp,lay_nil,_,rfl,?_⟩
  rw [eqv_raws]
  by_cases rn:rs=[]
  ·subst rn
   refine iteF ?_
   exact iteF (hn _ _ ⟨rfl,s0⟩)
  rw [show rs.isEmpty=false by cases rs with | nil=>exact absurd rfl rn | cons _ _=>rfl]
  refine iteT ?_
  refine ⟨_,rfl,_,_,rfl,rfl,_,rfl,?_⟩
  by_cases w4:way<6
  rotate_left
  ·exact iteDF w4 (hn _ _ ⟨rfl,s0⟩)
  refine iteDT w4 ?_
  clear hn
  have atl':=atl (List.length_pos_iff.mpr rn)
  have htt:rs[aa]?=some rs[aa]:=List.getElem?_eq_getElem atl'
  generalize rs[aa]=r at htt
  obtain ⟨c,hc,hcr⟩:=hB.get htt
  obtain ⟨e,hce,hee⟩:=hcr
  have ix:=SqT.of (K:=K) (s0 _ _ hra)
  have iy:=SqT.of (K:=K) (s0 _ _ hce)
  refine ⟨_,rfl,_,rfl,ra,_,_,_,rfl,rfl,ix,atI_nat (ref_at hc),c,_,_,_,rfl,rfl,iy,rfl,?_⟩
  refine ⟨_,rfl,_,rfl,ra,_,_,_,rfl,rfl,ix,atI_nat (ref_at hc),c,_,_,_,rfl,rfl,iy,rfl,?_⟩
  refine ⟨_,rfl,_,_,rfl,rfl,⟨by decide,by decide⟩,_,rfl,fun o t b H2 s2 e2=>?_⟩
  refine ⟨by show 3≤sizeLine; decide,fun p5 hp5=>?_⟩
  have s5:=same_new hp5 (.tup [.int r.1,.int r.2.1,.ref o])
  have rw5:RawR (upd H2 p5 (.tup [.int r.1,.int r.2.1,.ref o])) p5 (r.1,r.2.1,t,b):=⟨o,upd_same,s5 _ _ e2⟩
  generalize upd H2 p5 (.tup [.int r.1,.int r.2.1,.ref o])=H3 at s5 rw5
  have s3:=s0.trans (s2.trans s5)
  dsimp only
  refine name_goH ?_
  refine ⟨_,rfl,_,rfl,_,rfl,_,rfl,slA_go (s3 _ _ hra) fun p4 H4 s4 e4=>?_⟩
  rw [cutL_ref] at e4
  refine ⟨_,rfl,by show 1≤sizeLine; decide,fun p6 hp6=>?_⟩
  have s6:=same_new hp6 (.tup [.ref p5])
  have e6:(upd H4 p6 (.tup [.ref p5])) p6=some (.tup (([p5]:List Addr).map V.ref)):=upd_same
  generalize upd H4 p6 (.tup [.ref p5])=H6 at s6 e6
  have l4:=lenT bs aa
  refine ⟨p4,p6,_,_,rfl,rfl,s6 _ _ e4,e6,?_,fun p7 H7 s7 e7=>?_⟩
  ·rw [List.length_map,List.length_map,sizeLine_eq]
   show _+1≤_
   omega
  rw [←List.map_append] at e7
  have s37:=s4.trans (s6.trans s7)
  have s07:=s3.trans s37
  refine ⟨_,rfl,_,rfl,_,_,rfl,rfl,_,rfl,?_⟩
  dsimp only [tNoPart]
  refine slA_go (s07 _ _ hra) fun p8 H8 s8 e8=>?_
  rw [show ((aa:Nat):Int)+1=((aa+1:Nat):Int) by omega,cutL_ref] at e8
  have l8:=lenD bs (aa+1)
  refine ⟨p7,p8,_,_,rfl,rfl,s8 _ _ e7,e8,?_,fun p9 H9 s9 e9=>?_⟩
  ·rw [List.length_map,List.length_map,List.length_append,sizeLine_eq]
   show _+1+_≤_
   omega
  rw [←List.map_append] at e9
  have s09:=s07.trans (s8.trans s9)
  have hB9:=hB.keep mo_raw s09
  have rn9:=mo_raw (s37.trans (s8.trans s9)) rw5
  refine ⟨_,rfl,?_⟩
  refine fin H9 n p9 ta (cutL rs none (some (aa:Int))++[(r.1,r.2.1,t,b)]++cutL rs (some ((aa+1:Nat):Int)) none) ts s09 ⟨_,e9,((hB9.cut _ _).snoc rn9).app (hB9.cut _ _)⟩ (mo_tt s09 hT) ?_ (by omega) el1
  rw [List.length_append,List.length_append,lenT,lenD]
  show _+1+_≤_
  omega
 clear sH1 hR1 H1
 rintro σ H1 ⟨rfl,sH1⟩
 refine seq_hide fun U6 hU6=>?_
 refine ⟨_,rfl,rfl,_,rfl,?_⟩
 by_cases w6:way=6
 ·refine iteDT (iv w6) ?_
  refine ⟨_,rfl,ra,_,rfl,.inr (SqT.of (sH1 _ _ hra)),_,_,rfl,rfl,mul2 _,?_⟩
  rw [lB]
  dsimp only
  refine name_goH ?_
  refine ⟨_,rfl,_,rfl,_,_,rfl,rfl,by show 2≤sizeLine; decide,fun p2 hp2=>?_⟩
  have s2':=same_new hp2 (.tup [.int (2*(rs.length:Int)),.int (2*(rs.length:Int)+1)])
  have e2:IntsT (upd H1 p2 (.tup [.int (2*(rs.length:Int)),.int (2*(rs.length:Int)+1)])) p2 [2*(rs.length:Int),2*(rs.length:Int)+1]:=upd_same
  have s2:=sH1.trans s2'
  generalize upd H1 p2 (.tup [.int (2*(rs.length:Int)),.int (2*(rs.length:Int)+1)])=H2 at s2 e2 s2'
  generalize 2*(rs.length:Int)=many at e2 ⊢
  dsimp only
  refine name_goH ?_
  refine ⟨_,rfl,ta,rfl,⟨_,SqT.of (s2 _ _ hta)⟩,fun acc hacc=>?_⟩
  refine comp_run (run_tup (s2 _ _ hta)) (by rw [List.length_map]; omega) hacc (fun j ys σ hp=>∃ ds:List Addr,ys=ds.map V.ref∧At IntsT hp ds ((ts.map (mvT many)).take j)∧∃ u,σ=[u,some (.int many)]) ⟨[],rfl,At.nil,none,rfl⟩ ?_ ?_
  ·rintro j ys σ H3 x H4 hj sm hacc2 ⟨ds,rfl,hD,u,rfl⟩ ⟨rfl,hx⟩ Cc hCc
   obtain ⟨c,t,rfl,_,hy,hc⟩:=hC.ref hx
   have tl1:=el t (List.mem_of_getElem? hy)
   have hc3:H4 c=some (.tup (t.map V.int)):=sm _ _ (s2 _ _ hc)
   refine ⟨_,rfl,c,rfl,⟨_,SqT.of hc3⟩,fun acc3 hacc3=>?_⟩
   refine comp_run (run_tup hc3) (by rw [List.length_map]; omega) hacc3 (fun k ys σ hp=>ys=((mvT many t).take k).map V.int∧∃ u,σ=[u,some (.int many)]) ⟨rfl,none,rfl⟩ ?_ ?_
   ·rintro k ys σ H5 x H6 hk sm5 hacc5 ⟨rfl,u,rfl⟩ ⟨rfl,hx5⟩ Cd hCd
    obtain ⟨e,rfl,he⟩:=int_at hx5
    refine ⟨_,rfl,_,rfl,_,rfl,_,_,rfl,rfl,.inr ⟨_,rfl,_,_,rfl,rfl,mul2 _,_,_,rfl,rfl,?_⟩⟩
    refine hCd _ _ _ (Same.refl _) ⟨?_,_,rfl⟩
    have ee:(mvT many t)[k]?=some (mvE many e):=by unfold mvT; rw [List.getElem?_map,he]; rfl
    rw [take_snoc ee,List.map_append]
    rfl
   ·rintro ys σ H5 s5 ha5 _ ⟨rfl,u,rfl⟩
    rw [List.length_map,List.take_of_length_le (by unfold mvT; rw [List.length_map]; exact Nat.le_refl _)] at ha5
    refine ⟨acc3,_,rfl,.inl ⟨SqL.of ha5,fun p hp=>?_⟩⟩
    have sp:=same_new hp (.tup ((mvT many t).map V.int))
    have ep:IntsT (upd H5 p (.tup ((mvT many t).map V.int))) p (mvT many t):=upd_same
    generalize upd H5 p (.tup ((mvT many t).map V.int))=H6 at sp ep
    have s56:=s5.trans sp
    refine hCc _ _ _ s56 ⟨ds++[p],by simp,?_,_,rfl⟩
    have ec:(ts.map (mvT many))[j]?=some (mvT many t):=by rw [List.getElem?_map,hy]; rfl
    rw [take_snoc ec]
    exact (hD.keep mo_intsT (del_mono acc s56)).snoc (IntsT.del (t:=mvT many t) ep (s56 _ _ hacc2))
  ·rintro ys σ H4 s4 ha4 hl4 ⟨gs,rfl,hG,u,rfl⟩
   rw [List.length_map,lcs,List.take_of_length_le (by rw [List.length_map]; exact Nat.le_refl _)] at hG
   have hG4:=hG.keep mo_intsT (del_sub H4 acc)
   have s04:=s2.trans s4
   dsimp only
   refine name_goH ?_
   refine ⟨_,rfl,_,_,rfl,rfl,_,rfl,_,rfl,_,rfl,by show 2≤sizeLine; decide,fun p5 hp5=>?_⟩
   have s5:=same_new hp5 (.tup [.int 1,.int 1])
   have e5:(upd H4 p5 (.tup [.int 1,.int 1])) p5=some (.tup [.int 1,.int 1]):=upd_same
   generalize upd H4 p5 (.tup [.int 1,.int 1])=H5 at s5 e5
   refine ⟨by show 3≤sizeLine; decide,fun p6 hp6=>?_⟩
   have s6:=same_new hp6 (.tup [.int n,.int n,.ref p5])
   have r6:RawR (upd H5 p6 (.tup [.int n,.int n,.ref p5])) p6 (n,n,1,1):=⟨p5,upd_same,s6 _ _ e5⟩
   generalize upd H5 p6 (.tup [.int n,.int n,.ref p5])=H6 at s6 r6
   refine ⟨by show 1≤sizeLine; decide,fun p7 hp7=>?_⟩
   have s7:=same_new hp7 (.tup [.ref p6])
   have e7:(upd H6 p7 (.tup [.ref p6])) p7=some (.tup (([p6]:List Addr).map V.ref)):=upd_same
   generalize upd H6 p7 (.tup [.ref p6])=H7 at s7 e7
   have s47:=s5.trans (s6.trans s7)
   have s07:=s04.trans s47
   refine ⟨ra,p7,_,_,rfl,rfl,s07 _ _ hra,e7,?_,fun p8 H8 s8 e8=>?_⟩
   ·rw [lB,sizeLine_eq]
    show _+1≤_
    omega
   rw [←List.map_append] at e8
   have s48:=s47.trans s8
   refine ⟨_,rfl,acc,_,rfl,.inl ⟨SqL.of (s48 _ _ ha4),fun p9 hp9=>?_⟩⟩
   have s9:=same_new hp9 (.tup (gs.map V.ref))
   have e9:(upd H8 p9 (.tup (gs.map V.ref))) p9=some (.tup (gs.map V.ref)):=upd_same
   generalize upd H8 p9 (.tup (gs.map V.ref))=H9 at s9 e9
   refine ⟨_,rfl,by show 1≤sizeLine; decide,fun pA hpA=>?_⟩
   have sA:=same_new hpA (.tup [.ref p2])
   have eA:(upd H9 pA (.tup [.ref p2])) pA=some (.tup (([p2]:List Addr).map V.ref)):=upd_same
   generalize upd H9 pA (.tup [.ref p2])=HA at sA eA
   have lgs:gs.length=ts.length:=by have:=hG.1; rwa [List.length_map] at this
   refine ⟨p9,pA,_,_,rfl,rfl,sA _ _ e9,eA,?_,fun pB HB sB eB=>?_⟩
   ·rw [List.length_map,lgs,sizeLine_eq]
    show _+1≤_
    omega
   rw [←List.map_append] at eB
   have s8B:=s9.trans (sA.trans sB)
   have s4B:=s48.trans s8B
   have s0B:=s04.trans s4B
   refine fin HB (n+1) p8 pB (rs++[(n,n,1,1)]) (ts.map (mvT many)++[[many,many+1]]) s0B ⟨_,s8B _ _ e8,(hB.keep mo_raw s0B).snoc (mo_raw (s7.trans (s8.trans s8B)) r6)⟩ ⟨_,eB,(hG4.keep mo_intsT s4B).snoc (mo_intsT (s4.trans s4B) e2)⟩ ?_ ?_ ?_
   ·rw [List.length_append]
    show _+1≤_
    omega
   ·rw [List.length_append,List.length_map]
    show _+1≤_
    omega
   ·intro t ht
    rcases List.mem_append.mp ht with ht | ht
    ·obtain ⟨t',ht',rfl⟩:=List.mem_map.mp ht
     have:=el t' ht'
     unfold mvT
     rw [List.length_map]
     omega
    ·rw [List.mem_singleton.mp ht]
     show 2≤_
     omega
 refine iteDF (ivn w6) ?_
 dsimp only [tNext]
 subst hU6
 refine seq_hide fun U7 hU7=>?_
 refine ⟨_,rfl,by show 0≤sizeLine; decide,fun p0 hp0=>?_⟩
 have s0':=same_new hp0 (.tup [])
 have s0:=sH1.trans s0'
 have e0:(upd H1 p0 (.tup [])) p0=some (.tup []):=upd_same
 generalize upd H1 p0 (.tup [])=H0 at s0 e0 s0'
 refine ⟨trnD ts,.tuple [],rd_trns (mo_tt s0 hT),rd_nil e0,dt,lay_nil,_,rfl,?_⟩
 rw [eqv_trns]
 by_cases tn:ts=[]
 ·subst tn
  refine iteT ?_
  exact ⟨_,rfl,_,rfl,_,rfl,fin H0 n ra ta rs [] s0 (mo_rw s0 hR) (mo_tt s0 hT) (by omega) (by show 0≤_; omega) el1⟩
 rw [show ts.isEmpty=false by cases ts with | nil=>exact absurd rfl tn | cons _ _=>rfl]
 refine iteF ?_
 dsimp only [tNext]
 subst hU7
 refine ⟨_,rfl,_,rfl,_,rfl,_,rfl,_,_,rfl,rfl,(show (0:Int)<6 by decide),_,rfl,ta,ts,_,_,30+i,rfl,mo_tt s0 hT,tn,by omega,el,by omega,fun p ts' H' s' h' l1 l2=>?_⟩
 exact fin H' n ra p rs ts' (s0.trans s') (mo_rw (s0.trans s') hR) h' (by omega) (by omega) l2
end
end My
namespace My
open PySem L2 Mth
theorem look_mem {α:Type} {x:Str} {k:α}:∀ {l:List (Str×α)},l.lookup x=some k->(x,k)∈l
 | [],h=>by cases h
 | (y,v) :: l,h=>by
  rw [List.lookup_cons] at h
  split at h
  ·rename_i z
   cases h
   rw [eq_of_beq z]
   exact List.mem_cons_self ..
  ·exact List.mem_cons_of_mem _ (look_mem h)
theorem lamSc_mk {X:Cx} {scope:Scope} {cl:List (Str×Addr)} {N:List Str} {js:List Nat} (clos:closureFor scope X.env=pure cl) (kind:scope.kind=.function) (co:scope.isCoroutine=false) (gen:scope.isGenerator=false)
  (hl:N.length=js.length) (nm:∀ p∈N.zip js,∃ c,X.N[p.2]?=some p.1∧scope.names.lookup p.1=some .free∧cl.lookup p.1=some c∧X.env.cells.lookup p.1=some c∧X.env.scope.names.lookup p.1=some .cell)
  (sub:∀ p∈cl,X.env.cells.lookup p.1=some p.2) (nc:∀ y∈scope.names,y.2≠.cell) (has:∀ y∈scope.names,y.2=.free->∃ c,cl.lookup y.1=some c) (own:∀ x,X.fn x=true):LamSc X scope cl N js:=by
 refine ⟨clos,kind,co,gen,nc,fun i x hi=>?_,fun x c h=>sub _ (look_mem h),fun x h=>?_,own⟩
 ·have il:=(List.getElem?_eq_some_iff.mp hi).1
  have hj:js[i]?=some js[i]:=List.getElem?_eq_getElem (by omega)
  obtain ⟨c,h1,h2,h3,h4,h5⟩:=nm (x,js[i]) (List.mem_of_getElem? (i:=i) (by rw [List.getElem?_zip_eq_some]; exact ⟨hi,hj⟩))
  exact ⟨_,c,hj,h1,h2,h3,h4,h5⟩
 ·rcases h with h | h
  ·exact absurd rfl (nc _ (look_mem h))
  ·exact has _ (look_mem h) rfl
theorem tab_ne {H:Hp} {T b:Addr} {q:Str} {xs:List V} (h:TabM H T q) (e:H b=some (.tup xs)):b≠T:=fun z=>by
 obtain ⟨L,hT,_⟩:=h
 rw [z,hT] at e
 cases e
theorem _root_.L2.TabM.same {H H':Hp} {T:Addr} {q:Str} (h:TabM H T q) (s:Same H H'):TabM H' T q:=by
 obtain ⟨L,h1,h2⟩:=h
 exact ⟨L,s _ _ h1,fun e he=>s _ _ (h2 e he)⟩
theorem _root_.L2.ButT.sames {T:Addr} {H H' H'':Hp} (h:ButT T H H') (s:Same H' H''):ButT T H H'':=fun b o z e=>s _ _ (h b o z e)
theorem _root_.L2.ButT.of {T:Addr} {H H':Hp} (s:Same H H'):ButT T H H':=fun b o _ e=>s _ _ e
theorem _root_.L2.ButT.trans {T:Addr} {H H' H'':Hp} (h:ButT T H H') (g:ButT T H' H''):ButT T H H'':=fun b o z e=>g b o z (h b o z e)
theorem rw_tab {H H':Hp} {T a:Addr} {q:Str} {rs:List Raw} (hT:TabM H T q) (bt:ButT T H H') (h:TupR RawR H a rs):TupR RawR H' a rs:=by
 obtain ⟨bs,h1,hl,hB⟩:=h
 refine ⟨bs,bt _ _ (tab_ne hT h1) h1,hl,fun i b r e1 e2=>?_⟩
 obtain ⟨e,g1,g2⟩:=hB i b r e1 e2
 exact ⟨e,bt _ _ (tab_ne hT g1) g1,bt _ _ (tab_ne hT g2) g2⟩
theorem tt_tab {H H':Hp} {T a:Addr} {q:Str} {ts:List (List Int)} (hT:TabM H T q) (bt:ButT T H H') (h:TupR IntsT H a ts):TupR IntsT H' a ts:=by
 obtain ⟨bs,h1,hl,hB⟩:=h
 refine ⟨bs,bt _ _ (tab_ne hT h1) h1,hl,fun i b t e1 e2=>?_⟩
 have g:H b=some (.tup (t.map V.int)):=hB i b t e1 e2
 exact bt _ _ (tab_ne hT g) g
theorem resH_tab {H H':Hp} {T o:Addr} {q:Str} {n:Int} {rs:List Raw} {ts:List (List Int)} (hT:TabM H T q) (bt:ButT T H H'):∀ {d:ShF},resH H n rs ts o d->resH H' n rs ts o d
 | .net _,h=>bt _ _ (tab_ne hT h) h
 | .rope _ _,h=>bt _ _ (tab_ne hT h) h
 | .turn _,h=>bt _ _ (tab_ne hT h) h
 | .loose _,h=>bt _ _ (tab_ne hT h) h
 | .flat _,h=>bt _ _ (tab_ne hT h) h
 | .told,⟨p,a,c,h1,h2,h3,h4⟩=>⟨p,a,c,bt _ _ (tab_ne hT h1) h1,bt _ _ (tab_ne hT h2) h2,rw_tab hT bt h3,tt_tab hT bt h4⟩
end My
namespace My
open PySem L2 Mth
theorem raws_of {H:Hp} {a:Addr} {rs:List Rope} (h:TupR RopeR H a rs):TupR RawR H a (rs.map ofRp):=by
 obtain ⟨bs,h1,hl,hB⟩:=h
 refine ⟨bs,h1,by rw [List.length_map,hl],fun i b r e1 e2=>?_⟩
 rw [List.getElem?_map] at e2
 cases q:rs[i]? with
 | none=>rw [q] at e2; cases e2
 | some x =>
  rw [q] at e2
  cases e2
  exact rope_raw (hB i b x e1 q)
def lamQ5:Str:=(("law":Str)++".<locals>.")++"<lambda>"
section
variable {P:Program} {w:World} {K:PySem.W.Frag} {mg:Str->Option Value} {base:Heap} {f f1 f2 f3 f4 f5 f6 c T CN CR CT CL CX:Addr} {fd d1 d2 d3 d4 d5 d6:FuncData}
theorem Fun.okC {x qual:Str} {st:Stmt} {f:Addr} {fd:FuncData} {N ps:List Str} {k:Nat} {sp:Sp} (F:Fun K x qual st f fd) (S:FnScope N ps (defScope st)) (len:∀ vs H Q E,sp vs H Q E->vs.length=ps.length)
  (hbody:∀ (A:Around) (outer:List Env) (s:Shared) (H:Hp) (vs:List V) (Q:VK) (E:XK),Room k (A.deeper (PyProof.Rows.envOfC qual (defScope st) s.heap.objs.size f fd.code))->sp vs H Q E →
   ∃ t,PSs (cxOf CX0 P w K mg base N qual (defScope st) f fd.code A outer s H E).nox (defBody st) t∧t { nx:=fun _ H'=>Q .non H',rt:=Q } (start N vs) H):FnOk P w K mg base CX0 (k+1) f fd ps sp:=by
 obtain ⟨oc,od,kV,doc,pm,an,cdv,ct,osl,rfl,lk,hcd⟩:=F.ex
 refine fn_of lk hcd S len fun A outer s H vs Q E hr hsp=>?_
 obtain ⟨t,h,q⟩:=hbody A outer s H vs Q E hr hsp
 exact ⟨t,h.nox,q⟩
def spLaw (T:Addr) (K:PySem.W.Frag):Sp:=fun vs H Q _=>∃ (a:Addr) (ns:List Int),vs=[.ref a]∧SqL K H a (ns.map V.int)∧ns.length≤63∧H T=some (.tbl #[])∧∀ H',Q (.bl true) H'
theorem scLw:FnScope ["_law_script","_law_cell","_law_net","_law_k","_law_due_here","_law_turn"] ["_law_script"] (defScope sLaw):=⟨rfl,rfl,rfl,by decide +kernel,rfl,by decide +kernel,by decide +kernel⟩
structure NetS (H:Hp) (p ra ta:Addr) (n:Int) (rs:List Raw) (ts:List (List Int)) (i:Nat):Prop where
 h:H p=some (.tup [.int n,.ref ra,.ref ta])
 r:TupR RawR H ra rs
 t:TupR IntsT H ta ts
 a:rs.length≤36+i
 b:ts.length≤15+i
 c:∀ t∈ts,t.length≤30+i
set_option maxHeartbeats 600000 in
seal L2.PSs L2.PS L2.PE L2.PA in
theorem ok_law (F:Fun K "law" "law" sLaw f fd) (hcd:fd.code=.ref c) (hC:PySem.W.CodeHd base c T) (hB:BMain mg base)
  (G1:FnOk P w K mg base CX0 2 f1 d1 ["_law_script","_law_k"] (spDrawn K)) (b1:Binds K d1 ["_law_script","_law_k"] []) (k1:PySem.W.keepIn K (.ref f1)=true) (m1:mg "_law_drawn" = some (.ref f1))
  (G2:FnOk P w K mg base CX0 4 f2 d2 ["_law_script","_law_start","_law_many"] (spGrown K)) (b2:Binds K d2 ["_law_script","_law_start","_law_many"] []) (k2:PySem.W.keepIn K (.ref f2)=true) (m2:mg "_law_grown" = some (.ref f2))
  (G3:FnOk P w K mg base CX0 2 f3 d3 ["_law_net","_law_cell"] spSp) (b3:Binds K d3 ["_law_net","_law_cell"] []) (k3:PySem.W.keepIn K (.ref f3)=true) (m3:mg "_law_spoilt" = some (.ref f3))
  (G4:FnOk P w K mg base CX0 3 f4 d4 ["_law_places","_law_ropes","_law_turns"] spDue) (b4:Binds K d4 ["_law_places","_law_ropes","_law_turns"] []) (k4:PySem.W.keepIn K (.ref f4)=true) (m4:mg "_law_due" = some (.ref f4))
  (G5:AskOk P w K mg base 6 7 f5 d5 ["_law_ask"] (ssF CN CR CT CL CX)) (b5:Binds K d5 ["_law_ask"] []) (k5:PySem.W.keepIn K (.ref f5)=true) (m5:mg "_law_said" = some (.ref f5))
  (G6:FnOk P w K mg base (CXr P w) 5 f6 d6 ["places","ropes","turns"] (spCk CN CR CT CL CX)) (b6:Binds K d6 ["places","ropes","turns"] []) (k6:PySem.W.keepIn K (.ref f6)=true) (m6:mg "checked" = some (.ref f6)) (mr:mg "range" = none) :
  FnOk P w K mg base CX0 8 f fd ["_law_script"] (spLaw T K):=by
 refine Fun.okC F scLw (fun vs H Q E h=>?_) (fun A outer s H vs Q E hr h=>?_)
 ·obtain ⟨a,ns,rfl,_⟩:=h
  rfl
 obtain ⟨a,ns,rfl,hS,hn,hT,q⟩:=h
 have r2:=hr.mono (show 2≤7 by decide)
 have r3:=hr.mono (show 3≤7 by decide)
 have r4:=hr.mono (show 4≤7 by decide)
 refine ⟨_,pss_cons (ps_set (i:=1) scLw.nd rfl (Or.inl rfl) (pe_call G1 r2 (by rfl) m1 k1 b1 .nil pass0 (pa_cons (pv 0) (pa_cons pe_int pa_nil))))
  (pss_cons (ps_set (i:=2) scLw.nd rfl (Or.inr rfl) (pe_call G2 r4 (by rfl) m2 k2 b2 .nil pass0 (pa_cons (pv 0) (pa_cons pe_int (pa_cons (pe_op op_add pe_int (pe_op op_mod (pe_op op_fdiv (pv 1) pe_int) pe_int)) pa_nil)))))
  (pss_cons (ps_if (pt_cmpR op_eq (pe_op op_mod (pe_op op_fdiv (pv 1) pe_int) pe_int) pe_int (nomark _)) (pss_one (ps_set (i:=2) scLw.nd rfl (Or.inr rfl) (pe_tup (pa_cons pe_int (pa_cons (pe_tup (pa_cons (pe_tup (pa_cons pe_int (pa_cons pe_int (pa_cons (pe_tup (pa_cons pe_int (pa_cons pe_int pa_nil))) pa_nil)))) (pa_cons (pe_tup (pa_cons pe_int (pa_cons pe_int (pa_cons (pe_tup (pa_cons pe_int (pa_cons pe_int pa_nil))) pa_nil)))) pa_nil))) (pa_cons (pe_tup (pa_cons (pe_tup (pa_cons pe_int (pa_cons pe_int (pa_cons pe_int pa_nil)))) (pa_cons (pe_tup (pa_cons pe_int (pa_cons pe_int (pa_cons pe_int pa_nil)))) pa_nil))) pa_nil)))))) pss_nil)
  (pss_cons (ps_for PassesOwn.never rfl (pi_range1 (by rfl) mr (pa_cons (pe_op op_mod (pv 1) pe_int) pa_nil)) (pg_name (i:=3) scLw.nd rfl (Or.inl rfl))
   (pss_one (ps_set (i:=2) scLw.nd rfl (Or.inr rfl) (pe_call G3 r2 (by rfl) m3 k3 b3 .nil pass0 (pa_cons (pv 2) (pa_cons (pe_call G1 r2 (by rfl) m1 k1 b1 .nil pass0 (pa_cons (pv 0) (pa_cons (pe_op op_add pe_int (pv 3)) pa_nil))) pa_nil))))))
  (pss_cons (ps_set (i:=4) scLw.nd rfl (Or.inl rfl) (pe_call G4 r3 (by rfl) m4 k4 b4 .nil pass0 (pa_cons (pe_ix (ixT (K:=K)) (pv 2) pe_int (fun _ _=>rfl)) (pa_cons (pe_ix (ixT (K:=K)) (pv 2) pe_int (fun _ _=>rfl)) (pa_cons (pe_ix (ixT (K:=K)) (pv 2) pe_int (fun _ _=>rfl)) pa_nil)))))
  (pss_cons (ps_for PassesOwn.never rfl (pi_range1 (by rfl) mr (pa_cons pe_int pa_nil)) (pg_name (i:=5) scLw.nd rfl (Or.inl rfl))
   (pss_one (ps_if (pt_cmpR (op_neG hr.units) (pe_said (j:=5) (N:=["_law_net"]) (js:=[2]) (rd:=rdL CN CR CT CL CX) (T:=T) (c:=c) G5 hr (by rfl) m5 k5 b5 rfl
    (lamSc_mk rfl rfl rfl rfl rfl (List.forall_mem_cons.mpr ⟨⟨_,rfl,rfl,rfl,rfl,rfl⟩,List.forall_mem_nil _⟩) (List.forall_mem_cons.mpr ⟨rfl,List.forall_mem_nil _⟩) (by decide +kernel)
     (List.forall_mem_cons.mpr ⟨(fun z=>by first | exact ⟨_,rfl⟩ | cases z),List.forall_mem_cons.mpr ⟨(fun z=>by first | exact ⟨_,rfl⟩ | cases z),List.forall_mem_nil _⟩⟩) fun _=>rfl) rfl hcd hC hB rfl (fun _ _ _ _=>rfl)
    (fun f c A outer s vs H Q E hr h=>⟨_,pe_call (CX:=CXr P w) (E:=E) G6 hr (by rfl) m6 k6 b6 .nil pass_lam (pa_cons (pe_ix (ixT (K:=K)) (pv 0) pe_int (fun _ _=>rfl)) (pa_cons (pe_ix (ixT (K:=K)) (pv 0) pe_int (fun _ _=>rfl)) (pa_cons (pe_ix (ixT (K:=K)) (pv 0) pe_int (fun _ _=>rfl)) pa_nil))),by
     obtain ⟨a,ra,ta,n,rfl,h1,h2⟩:=id h
     exact ⟨_,rfl,a,_,_,_,rfl,rfl,SqT.of h1,t3_0 _ _ _,_,rfl,a,_,_,_,rfl,rfl,SqT.of h1,t3_1 _ _ _,_,rfl,a,_,_,_,rfl,rfl,SqT.of h1,t3_2 _ _ _,h2⟩⟩) (fun vs H Q Q' E E' a1 a2 h=>rdL_mono a1 a2 h)) (pv 4) (nomark _)) (pss_one (ps_ret pe_bl)) pss_nil)))
  (pss_one (ps_ret pe_bl))))))),?_⟩
 refine ⟨_,rfl,a,ns,0,rfl,⟨hS,hn⟩,by decide,by decide,fun z H1 s1 dz=>?_⟩
 obtain ⟨m,em⟩:∃ m:Nat,1+z / 4 % 14=(m:Int):=⟨(1+z / 4 % 14).toNat,by omega⟩
 refine ⟨_,rfl,_,rfl,_,_,rfl,rfl,⟨by decide,by decide⟩,_,_,rfl,rfl,(show (0:Int)<14 by decide),_,_,rfl,rfl,a,ns,5,m,by rw [←em]; rfl,⟨s1.seq hS,hn⟩,by decide,by omega,by omega,fun p ra ta n rs ts H2 s2 hp hR hTs N rl es=>?_⟩
 have s02:=s1.trans s2
 have m14:=N.m14
 have n15:=N.n15
 have nl:=N.len
 have NS:NetS H2 p ra ta (n:Int) (rs.map ofRp) ts 0:=⟨hp,raws_of hR,hTs,by rw [List.length_map]; omega,by omega,fun t ht=>N.tlen ht⟩
 clear hp hR hTs
 dsimp only
 refine name_goH ?_
 refine if_seq (fun σ H3=>∃ (p ra ta:Addr) (n:Int) (rs:List Raw) (ts:List (List Int)),σ=[some (.ref a),some (.int z),some (.ref p),none,none,none]∧Same H H3∧NetS H3 p ra ta n rs ts 0) ?_ fun nx hn'=>?_
 rotate_left
 ·refine ⟨_,rfl,_,_,rfl,rfl,⟨by decide,by decide⟩,_,_,rfl,rfl,(show (0:Int)<8 by decide),rfl,_,rfl,?_⟩
  by_cases z3:z / 56 % 8=3
  rotate_left
  ·exact iteDF (ivn z3) (hn' _ _ ⟨p,ra,ta,_,_,_,rfl,s02,NS⟩)
  refine iteDT (iv z3) ?_
  refine ⟨by show 2≤sizeLine; decide,fun p1 hp1=>?_⟩
  have t1:=same_new hp1 (.tup [.int 1,.int 1])
  have e1:(upd H2 p1 (.tup [.int 1,.int 1])) p1=some (.tup [.int 1,.int 1]):=upd_same
  generalize upd H2 p1 (.tup [.int 1,.int 1])=J1 at t1 e1
  refine ⟨by show 3≤sizeLine; decide,fun p2 hp2=>?_⟩
  have t2:=same_new hp2 (.tup [.int 0,.int 0,.ref p1])
  have e2:RawR (upd J1 p2 (.tup [.int 0,.int 0,.ref p1])) p2 (0,0,1,1):=⟨p1,upd_same,t2 _ _ e1⟩
  generalize upd J1 p2 (.tup [.int 0,.int 0,.ref p1])=J2 at t2 e2
  refine ⟨by show 2≤sizeLine; decide,fun p3 hp3=>?_⟩
  have t3:=same_new hp3 (.tup [.int 2,.int 1])
  have e3:(upd J2 p3 (.tup [.int 2,.int 1])) p3=some (.tup [.int 2,.int 1]):=upd_same
  generalize upd J2 p3 (.tup [.int 2,.int 1])=J3 at t3 e3
  refine ⟨by show 3≤sizeLine; decide,fun p4 hp4=>?_⟩
  have t4:=same_new hp4 (.tup [.int 1,.int 1,.ref p3])
  have e4:RawR (upd J3 p4 (.tup [.int 1,.int 1,.ref p3])) p4 (1,1,2,1):=⟨p3,upd_same,t4 _ _ e3⟩
  generalize upd J3 p4 (.tup [.int 1,.int 1,.ref p3])=J4 at t4 e4
  refine ⟨by show 2≤sizeLine; decide,fun p5 hp5=>?_⟩
  have t5:=same_new hp5 (.tup [.ref p2,.ref p4])
  have e5:(upd J4 p5 (.tup [.ref p2,.ref p4])) p5=some (.tup (([p2,p4]:List Addr).map V.ref)):=upd_same
  generalize upd J4 p5 (.tup [.ref p2,.ref p4])=J5 at t5 e5
  have a5:TupR RawR J5 p5 [(0,0,1,1),(1,1,2,1)]:=⟨[p2,p4],e5,(At.nil.snoc (mo_raw (t3.trans (t4.trans t5)) e2)).snoc (mo_raw t5 e4)⟩
  refine ⟨by show 3≤sizeLine; decide,fun p6 hp6=>?_⟩
  have t6:=same_new hp6 (.tup [.int 0,.int 1,.int 4])
  have e6:IntsT (upd J5 p6 (.tup [.int 0,.int 1,.int 4])) p6 [0,1,4]:=upd_same
  generalize upd J5 p6 (.tup [.int 0,.int 1,.int 4])=J6 at t6 e6
  refine ⟨by show 3≤sizeLine; decide,fun p7 hp7=>?_⟩
  have t7:=same_new hp7 (.tup [.int 2,.int 3,.int 5])
  have e7:IntsT (upd J6 p7 (.tup [.int 2,.int 3,.int 5])) p7 [2,3,5]:=upd_same
  generalize upd J6 p7 (.tup [.int 2,.int 3,.int 5])=J7 at t7 e7
  refine ⟨by show 2≤sizeLine; decide,fun p8 hp8=>?_⟩
  have t8:=same_new hp8 (.tup [.ref p6,.ref p7])
  have e8:(upd J7 p8 (.tup [.ref p6,.ref p7])) p8=some (.tup (([p6,p7]:List Addr).map V.ref)):=upd_same
  generalize upd J7 p8 (.tup [.ref p6,.ref p7])=J8 at t8 e8
  have a8:TupR IntsT J8 p8 [[0,1,4],[2,3,5]]:=⟨[p6,p7],e8,(At.nil.snoc (mo_intsT (t7.trans t8) e6)).snoc (mo_intsT t8 e7)⟩
  refine ⟨by show 3≤sizeLine; decide,fun p9 hp9=>?_⟩
  have t9:=same_new hp9 (.tup [.int 2,.ref p5,.ref p8])
  have e9:(upd J8 p9 (.tup [.int 2,.ref p5,.ref p8])) p9=some (.tup [.int 2,.ref p5,.ref p8]):=upd_same
  generalize upd J8 p9 (.tup [.int 2,.ref p5,.ref p8])=J9 at t9 e9
  refine hn' _ _ ⟨p9,p5,p8,2,[(0,0,1,1),(1,1,2,1)],[[0,1,4],[2,3,5]],rfl,s02.trans (t1.trans (t2.trans (t3.trans (t4.trans (t5.trans (t6.trans (t7.trans (t8.trans t9)))))))),e9,mo_rw (t6.trans (t7.trans (t8.trans t9))) a5,mo_tt t9 a8,by decide,by decide,by decide⟩
 clear NS N nl n15 m14 rl es s2 s02 s1 H1 H2 p ra ta n rs ts
 rintro σ H2 ⟨p,ra,ta,n,rs,ts,rfl,s02,NS⟩
 refine seq_hide fun U1 hU1=>?_
 obtain ⟨c',ec⟩:∃ c:Nat,z % 4=(c:Int):=⟨(z % 4).toNat,by omega⟩
 refine ⟨_,rfl,_,_,rfl,rfl,(show (0:Int)<4 by decide),(c':Int),by rw [←ec],by omega,by omega,?_⟩
 rw [show ((c':Int)).toNat=c' by omega]
 refine for_range (n:=c') (fun i σ H3=>∃ (p ra ta:Addr) (n:Int) (rs:List Raw) (ts:List (List Int)) (u:Option V),σ=[some (.ref a),some (.int z),some (.ref p),u,none,none]∧Same H H3∧NetS H3 p ra ta n rs ts i) ⟨p,ra,ta,n,rs,ts,none,rfl,s02,NS⟩ ?_ ?_
 ·rintro i σ H3 hi ⟨p,ra,ta,n,rs,ts,u,rfl,s03,h1,h2,h3,h4,h5,h6⟩
  refine ⟨_,rfl,_,rfl,_,rfl,_,_,rfl,rfl,a,ns,_,rfl,⟨s03.seq hS,hn⟩,by omega,by omega,fun y H4 s4 dy=>?_⟩
  exact ⟨p,ra,ta,n,y,rs,ts,i,rfl,s4 _ _ h1,mo_rw s4 h2,mo_tt s4 h3,by omega,h4,h5,h6,fun p' ra' ta' n' rs' ts' H5 s5 g1 g2 g3 g4 g5 g6=>⟨p',ra',ta',n',rs',ts',_,rfl,s03.trans (s4.trans s5),g1,g2,g3,g4,g5,g6⟩⟩
 clear NS s02 H2 p ra ta n rs ts
 rintro σ H2 ⟨p,ra,ta,n,rs,ts,u,rfl,s02,NS⟩
 subst hU1
 have tl:∀ t∈ts,t.length<64:=fun t ht=>by have:=NS.c t ht; omega
 have hp:=NS.h
 refine ⟨_,rfl,p,_,_,_,rfl,rfl,SqT.of hp,t3_0 _ _ _,_,rfl,p,_,_,_,rfl,rfl,SqT.of hp,t3_1 _ _ _,_,rfl,p,_,_,_,rfl,rfl,SqT.of hp,t3_2 _ _ _,n,ra,ta,rs,ts,rfl,NS.r,NS.t,tl,fun d od H3 s3 hd h3=>?_⟩
 have s03:=s02.trans s3
 have hM:TabM H3 T lamQ5:=⟨[],s03 _ _ hT,fun e he=>by cases he⟩
 dsimp only
 refine name_goH ?_
 refine seq_hide fun U2 hU2=>?_
 refine ⟨(2:Int),rfl,by decide,by decide,?_⟩
 refine for_range (n:=2) (fun i σ H4=>∃ (v:Option V),σ=[some (.ref a),some (.int z),some (.ref p),u,some (.ref od),v]∧TabM H4 T lamQ5∧H4 p=some (.tup [.int n,.ref ra,.ref ta])∧TupR RawR H4 ra rs∧TupR IntsT H4 ta ts∧resH H4 n rs ts od d)
  ⟨none,rfl,hM,s3 _ _ hp,mo_rw s3 NS.r,mo_tt s3 NS.t,h3⟩ ?_ ?_
 ·rintro i σ H4 hi ⟨v,rfl,hM4,hp4,hR4,hT4,h4⟩
  refine ⟨hM4,[.ref p],rfl,fun i j hij=>?_,fun fl c2 H5 bt5 nf tb5 hc5 hf5=>?_⟩
  ·match i,hij with
   | 0,hij=>cases hij; exact ⟨_,rfl,rfl⟩
  refine sf_go hf5 hc5 (bt5 _ _ (tab_ne hM4 hp4) hp4) (rw_tab hM4 bt5 hR4) (tt_tab hM4 bt5 hT4) tl fun o d' H6 s6 hd' h6=>?_
  obtain rfl:=due_uniq hd hd'
  have bt6:ButT T H4 H6:=bt5.sames s6
  have h46:=resH_tab hM4 bt6 h4
  refine ⟨_,rfl,ansD n rs ts d,ansD n rs ts d,rd_ans h6,rd_ans h46,ans_lay hd.det,ans_lay hd.det,_,rfl,?_⟩
  rw [SeqAt.eqv_refl _ (ans_lay hd.det).1]
  refine iteF ?_
  exact ⟨_,rfl,tb5.same s6,bt6 _ _ (tab_ne hM4 hp4) hp4,rw_tab hM4 bt6 hR4,tt_tab hM4 bt6 hT4,h46⟩
 ·rintro σ H4 ⟨v,rfl,_⟩
  subst hU2
  exact q _
end
end My
namespace My
open PySem L2 Mth
theorem len_1 {α:Type} {us:List α} (h:us.length=1):∃ a0,us=[a0]:=by
 match us,h with
 | [a0],_=>exact ⟨a0,rfl⟩
theorem len_2 {α:Type} {us:List α} (h:us.length=2):∃ a0 a1,us=[a0,a1]:=by
 match us,h with
 | [a0,a1],_=>exact ⟨a0,a1,rfl⟩
theorem len_3 {α:Type} {us:List α} (h:us.length=3):∃ a0 a1 a2,us=[a0,a1,a2]:=by
 match us,h with
 | [a0,a1,a2],_=>exact ⟨a0,a1,a2,rfl⟩
theorem len_4 {α:Type} {us:List α} (h:us.length=4):∃ a0 a1 a2 a3,us=[a0,a1,a2,a3]:=by
 match us,h with
 | [a0,a1,a2,a3],_=>exact ⟨a0,a1,a2,a3,rfl⟩
set_option maxHeartbeats 4000000 in
theorem all_mk {l:PySem.W.OpenLaw} {w:World} {K:PySem.W.Frag} {h:Heap} {mg:Str->Option Value} {fa c05 T05 CF CN CR CT CL CX f1 f2 f3 f4 f5 f6 f7 f8 f9 f10 f11 f12 f13 f14 f15 f16 f17 f18 f19 f20 f21 f22 f23 f24 f25 f26 f27 f28 f29 f30 f31 f32 f33 f34 f35 f36 f37 f38 f39 f40 f41 f42:Addr} (X:K.In h) (G:h.Ns mainGlobals mg) (hfa:mg "law" = some (.ref fa))
  {od1 an1 od2 an2 od3 an3 od4 an4 od5 an5 od6 an6 od7 an7 od8 an8 od9 an9 od10 an10 od11 an11 od12 an12 od13 an13 od14 an14 od15 an15 od16 an16 od17 an17 od18 an18 od19 an19 od20 an20 od21 an21 od22 an22 od23 an23 od24 an24 od25 an25 od26 an26 od27 an27 od28 an28 od29 an29 od30 an30 od31 an31 od32 an32 od33 an33 od34 an34 od35 an35 od36 an36 od37 an37 od38 an38 od39 an39 od40 an40 od41 an41 od42 an42:Option Addr}
  {sl1 sl2 sl3 sl4 sl5 sl6 sl7 sl8 sl9 sl10 sl11 sl12 sl13 sl14 sl15 sl16 sl17 sl18 sl19 sl20 sl21 sl22 sl23 sl24 sl25 sl26 sl27 sl28 sl29 sl30 sl31 sl32 sl33 sl34 sl35 sl36 sl37 sl38 sl39 sl40 sl41 sl42:Array (Option Value)}
  {oc1 kV1 dc1 pm1 cd1 ct1 oc2 kV2 dc2 pm2 cd2 ct2 oc3 kV3 dc3 pm3 cd3 ct3 oc4 kV4 dc4 pm4 cd4 ct4 oc5 kV5 dc5 pm5 cd5 ct5 oc6 kV6 dc6 pm6 cd6 ct6 oc7 kV7 dc7 pm7 cd7 ct7 oc8 kV8 dc8 pm8 cd8 ct8 oc9 kV9 dc9 pm9 cd9 ct9 oc10 kV10 dc10 pm10 cd10 ct10 oc11 kV11 dc11 pm11 cd11 ct11 oc12 kV12 dc12 pm12 cd12 ct12 oc13 kV13 dc13 pm13 cd13 ct13 oc14 kV14 dc14 pm14 cd14 ct14 oc15 kV15 dc15 pm15 cd15 ct15 oc16 kV16 dc16 pm16 cd16 ct16 oc17 kV17 dc17 pm17 cd17 ct17 oc18 kV18 dc18 pm18 cd18 ct18 oc19 kV19 dc19 pm19 cd19 ct19 oc20 kV20 dc20 pm20 cd20 ct20 oc21 kV21 dc21 pm21 cd21 ct21 oc22 kV22 dc22 pm22 cd22 ct22 oc23 kV23 dc23 pm23 cd23 ct23 oc24 kV24 dc24 pm24 cd24 ct24 oc25 kV25 dc25 pm25 cd25 ct25 oc26 kV26 dc26 pm26 cd26 ct26 oc27 kV27 dc27 pm27 cd27 ct27 oc28 kV28 dc28 pm28 cd28 ct28 oc29 kV29 dc29 pm29 cd29 ct29 oc30 kV30 dc30 pm30 cd30 ct30 oc31 kV31 dc31 pm31 cd31 ct31 oc32 kV32 dc32 pm32 cd32 ct32 oc33 kV33 dc33 pm33 cd33 ct33 oc34 kV34 dc34 pm34 cd34 ct34 oc35 kV35 dc35 pm35 cd35 ct35 oc36 kV36 dc36 pm36 cd36 ct36 oc37 kV37 dc37 pm37 cd37 ct37 oc38 kV38 dc38 pm38 cd38 ct38 oc39 kV39 dc39 pm39 cd39 ct39 oc40 kV40 dc40 pm40 cd40 ct40 oc41 kV41 dc41 pm41 cd41 ct41 oc42 kV42 dc42 pm42 cd42 ct42:Value}
  (a1:PySem.W.nsIn K mainGlobals "common_part" = some (some (.ref f1))) (l1:K.lookup f1=some ⟨oc1,od1,.func (PySem.W.fnOf "common_part" "common_part" (defArgs sCommon) (defBody sCommon) (defScope sCommon) .none kV1 dc1 pm1 an1 cd1 ct1),sl1⟩) (c1:PySem.W.codeIn K cd1 "common_part" = true) (k1:PySem.W.keepIn K (.ref f1)=true)
  (a2:PySem.W.nsIn K mainGlobals "other_end" = some (some (.ref f2))) (l2:K.lookup f2=some ⟨oc2,od2,.func (PySem.W.fnOf "other_end" "other_end" (defArgs sOther) (defBody sOther) (defScope sOther) .none kV2 dc2 pm2 an2 cd2 ct2),sl2⟩) (c2:PySem.W.codeIn K cd2 "other_end" = true) (k2:PySem.W.keepIn K (.ref f2)=true)
  (a3:PySem.W.nsIn K mainGlobals "ends_ahead" = some (some (.ref f3))) (l3:K.lookup f3=some ⟨oc3,od3,.func (PySem.W.fnOf "ends_ahead" "ends_ahead" (defArgs sAhead) (defBody sAhead) (defScope sAhead) .none kV3 dc3 pm3 an3 cd3 ct3),sl3⟩) (c3:PySem.W.codeIn K cd3 "ends_ahead" = true) (k3:PySem.W.keepIn K (.ref f3)=true)
  (a4:PySem.W.nsIn K mainGlobals "ring_from" = some (some (.ref f4))) (l4:K.lookup f4=some ⟨oc4,od4,.func (PySem.W.fnOf "ring_from" "ring_from" (defArgs sRingFrom) (defBody sRingFrom) (defScope sRingFrom) .none kV4 dc4 pm4 an4 cd4 ct4),sl4⟩) (c4:PySem.W.codeIn K cd4 "ring_from" = true) (k4:PySem.W.keepIn K (.ref f4)=true)
  (a5:PySem.W.nsIn K mainGlobals "rings" = some (some (.ref f5))) (l5:K.lookup f5=some ⟨oc5,od5,.func (PySem.W.fnOf "rings" "rings" (defArgs sRings) (defBody sRings) (defScope sRings) .none kV5 dc5 pm5 an5 cd5 ct5),sl5⟩) (c5:PySem.W.codeIn K cd5 "rings" = true) (k5:PySem.W.keepIn K (.ref f5)=true)
  (a6:PySem.W.nsIn K mainGlobals "is_ease" = some (some (.ref f6))) (l6:K.lookup f6=some ⟨oc6,od6,.func (PySem.W.fnOf "is_ease" "is_ease" (defArgs s_is_ease) (defBody s_is_ease) (defScope s_is_ease) .none kV6 dc6 pm6 an6 cd6 ct6),sl6⟩) (c6:PySem.W.codeIn K cd6 "is_ease" = true) (k6:PySem.W.keepIn K (.ref f6)=true)
  (a7:PySem.W.nsIn K mainGlobals "check_numbers" = some (some (.ref f7))) (l7:K.lookup f7=some ⟨oc7,od7,.func (PySem.W.fnOf "check_numbers" "check_numbers" (defArgs s_check_numbers) (defBody s_check_numbers) (defScope s_check_numbers) .none kV7 dc7 pm7 an7 cd7 ct7),sl7⟩) (c7:PySem.W.codeIn K cd7 "check_numbers" = true) (k7:PySem.W.keepIn K (.ref f7)=true)
  (a8:PySem.W.nsIn K mainGlobals "check_rope" = some (some (.ref f8))) (l8:K.lookup f8=some ⟨oc8,od8,.func (PySem.W.fnOf "check_rope" "check_rope" (defArgs s_check_rope) (defBody s_check_rope) (defScope s_check_rope) .none kV8 dc8 pm8 an8 cd8 ct8),sl8⟩) (c8:PySem.W.codeIn K cd8 "check_rope" = true) (k8:PySem.W.keepIn K (.ref f8)=true)
  (a9:PySem.W.nsIn K mainGlobals "ends_at" = some (some (.ref f9))) (l9:K.lookup f9=some ⟨oc9,od9,.func (PySem.W.fnOf "ends_at" "ends_at" (defArgs s_ends_at) (defBody s_ends_at) (defScope s_ends_at) .none kV9 dc9 pm9 an9 cd9 ct9),sl9⟩) (c9:PySem.W.codeIn K cd9 "ends_at" = true) (k9:PySem.W.keepIn K (.ref f9)=true)
  (a10:PySem.W.nsIn K mainGlobals "check_turns" = some (some (.ref f10))) (l10:K.lookup f10=some ⟨oc10,od10,.func (PySem.W.fnOf "check_turns" "check_turns" (defArgs s_check_turns) (defBody s_check_turns) (defScope s_check_turns) .none kV10 dc10 pm10 an10 cd10 ct10),sl10⟩) (c10:PySem.W.codeIn K cd10 "check_turns" = true) (k10:PySem.W.keepIn K (.ref f10)=true)
  (a11:PySem.W.nsIn K mainGlobals "led_to" = some (some (.ref f11))) (l11:K.lookup f11=some ⟨oc11,od11,.func (PySem.W.fnOf "led_to" "led_to" (defArgs s_led_to) (defBody s_led_to) (defScope s_led_to) .none kV11 dc11 pm11 an11 cd11 ct11),sl11⟩) (c11:PySem.W.codeIn K cd11 "led_to" = true) (k11:PySem.W.keepIn K (.ref f11)=true)
  (a12:PySem.W.nsIn K mainGlobals "check_hanging" = some (some (.ref f12))) (l12:K.lookup f12=some ⟨oc12,od12,.func (PySem.W.fnOf "check_hanging" "check_hanging" (defArgs s_check_hanging) (defBody s_check_hanging) (defScope s_check_hanging) .none kV12 dc12 pm12 an12 cd12 ct12),sl12⟩) (c12:PySem.W.codeIn K cd12 "check_hanging" = true) (k12:PySem.W.keepIn K (.ref f12)=true)
  (a13:PySem.W.nsIn K mainGlobals "check_flat" = some (some (.ref f13))) (l13:K.lookup f13=some ⟨oc13,od13,.func (PySem.W.fnOf "check_flat" "check_flat" (defArgs s_check_flat) (defBody s_check_flat) (defScope s_check_flat) .none kV13 dc13 pm13 an13 cd13 ct13),sl13⟩) (c13:PySem.W.codeIn K cd13 "check_flat" = true) (k13:PySem.W.keepIn K (.ref f13)=true)
  (a14:PySem.W.nsIn K mainGlobals "begun_least" = some (some (.ref f14))) (l14:K.lookup f14=some ⟨oc14,od14,.func (PySem.W.fnOf "begun_least" "begun_least" (defArgs s_begun_least) (defBody s_begun_least) (defScope s_begun_least) .none kV14 dc14 pm14 an14 cd14 ct14),sl14⟩) (c14:PySem.W.codeIn K cd14 "begun_least" = true) (k14:PySem.W.keepIn K (.ref f14)=true)
  (a15:PySem.W.nsIn K mainGlobals "told_turns" = some (some (.ref f15))) (l15:K.lookup f15=some ⟨oc15,od15,.func (PySem.W.fnOf "told_turns" "told_turns" (defArgs s_told_turns) (defBody s_told_turns) (defScope s_told_turns) .none kV15 dc15 pm15 an15 cd15 ct15),sl15⟩) (c15:PySem.W.codeIn K cd15 "told_turns" = true) (k15:PySem.W.keepIn K (.ref f15)=true)
  (a16:PySem.W.nsIn K mainGlobals "checked" = some (some (.ref f16))) (l16:K.lookup f16=some ⟨oc16,od16,.func (PySem.W.fnOf "checked" "checked" (defArgs s_checked) (defBody s_checked) (defScope s_checked) .none kV16 dc16 pm16 an16 cd16 ct16),sl16⟩) (c16:PySem.W.codeIn K cd16 "checked" = true) (k16:PySem.W.keepIn K (.ref f16)=true)
  (a17:PySem.W.nsIn K mainGlobals "_law_cell_at" = some (some (.ref f17))) (l17:K.lookup f17=some ⟨oc17,od17,.func (PySem.W.fnOf "_law_cell_at" "_law_cell_at" (defArgs s_law_cell_at) (defBody s_law_cell_at) (defScope s_law_cell_at) .none kV17 dc17 pm17 an17 cd17 ct17),sl17⟩) (c17:PySem.W.codeIn K cd17 "_law_cell_at" = true) (k17:PySem.W.keepIn K (.ref f17)=true)
  (a18:PySem.W.nsIn K mainGlobals "_law_drawn" = some (some (.ref f18))) (l18:K.lookup f18=some ⟨oc18,od18,.func (PySem.W.fnOf "_law_drawn" "_law_drawn" (defArgs s_law_drawn) (defBody s_law_drawn) (defScope s_law_drawn) .none kV18 dc18 pm18 an18 cd18 ct18),sl18⟩) (c18:PySem.W.codeIn K cd18 "_law_drawn" = true) (k18:PySem.W.keepIn K (.ref f18)=true)
  (a19:PySem.W.nsIn K mainGlobals "_law_common" = some (some (.ref f19))) (l19:K.lookup f19=some ⟨oc19,od19,.func (PySem.W.fnOf "_law_common" "_law_common" (defArgs s_law_common) (defBody s_law_common) (defScope s_law_common) .none kV19 dc19 pm19 an19 cd19 ct19),sl19⟩) (c19:PySem.W.codeIn K cd19 "_law_common" = true) (k19:PySem.W.keepIn K (.ref f19)=true)
  (a20:PySem.W.nsIn K mainGlobals "_law_lowest" = some (some (.ref f20))) (l20:K.lookup f20=some ⟨oc20,od20,.func (PySem.W.fnOf "_law_lowest" "_law_lowest" (defArgs s_law_lowest) (defBody s_law_lowest) (defScope s_law_lowest) .none kV20 dc20 pm20 an20 cd20 ct20),sl20⟩) (c20:PySem.W.codeIn K cd20 "_law_lowest" = true) (k20:PySem.W.keepIn K (.ref f20)=true)
  (a21:PySem.W.nsIn K mainGlobals "_law_next" = some (some (.ref f21))) (l21:K.lookup f21=some ⟨oc21,od21,.func (PySem.W.fnOf "_law_next" "_law_next" (defArgs sNext) (defBody sNext) (defScope sNext) .none kV21 dc21 pm21 an21 cd21 ct21),sl21⟩) (c21:PySem.W.codeIn K cd21 "_law_next" = true) (k21:PySem.W.keepIn K (.ref f21)=true)
  (a22:PySem.W.nsIn K mainGlobals "_law_ring" = some (some (.ref f22))) (l22:K.lookup f22=some ⟨oc22,od22,.func (PySem.W.fnOf "_law_ring" "_law_ring" (defArgs s_law_ring) (defBody s_law_ring) (defScope s_law_ring) .none kV22 dc22 pm22 an22 cd22 ct22),sl22⟩) (c22:PySem.W.codeIn K cd22 "_law_ring" = true) (k22:PySem.W.keepIn K (.ref f22)=true)
  (a23:PySem.W.nsIn K mainGlobals "_law_put_ahead" = some (some (.ref f23))) (l23:K.lookup f23=some ⟨oc23,od23,.func (PySem.W.fnOf "_law_put_ahead" "_law_put_ahead" (defArgs s_law_put_ahead) (defBody s_law_put_ahead) (defScope s_law_put_ahead) .none kV23 dc23 pm23 an23 cd23 ct23),sl23⟩) (c23:PySem.W.codeIn K cd23 "_law_put_ahead" = true) (k23:PySem.W.keepIn K (.ref f23)=true)
  (a24:PySem.W.nsIn K mainGlobals "_law_one_more" = some (some (.ref f24))) (l24:K.lookup f24=some ⟨oc24,od24,.func (PySem.W.fnOf "_law_one_more" "_law_one_more" (defArgs s_law_one_more) (defBody s_law_one_more) (defScope s_law_one_more) .none kV24 dc24 pm24 an24 cd24 ct24),sl24⟩) (c24:PySem.W.codeIn K cd24 "_law_one_more" = true) (k24:PySem.W.keepIn K (.ref f24)=true)
  (a25:PySem.W.nsIn K mainGlobals "_law_ease" = some (some (.ref f25))) (l25:K.lookup f25=some ⟨oc25,od25,.func (PySem.W.fnOf "_law_ease" "_law_ease" (defArgs sLEase) (defBody sLEase) (defScope sLEase) .none kV25 dc25 pm25 an25 cd25 ct25),sl25⟩) (c25:PySem.W.codeIn K cd25 "_law_ease" = true) (k25:PySem.W.keepIn K (.ref f25)=true)
  (a26:PySem.W.nsIn K mainGlobals "_law_grown" = some (some (.ref f26))) (l26:K.lookup f26=some ⟨oc26,od26,.func (PySem.W.fnOf "_law_grown" "_law_grown" (defArgs s_law_grown) (defBody s_law_grown) (defScope s_law_grown) .none kV26 dc26 pm26 an26 cd26 ct26),sl26⟩) (c26:PySem.W.codeIn K cd26 "_law_grown" = true) (k26:PySem.W.keepIn K (.ref f26)=true)
  (a27:PySem.W.nsIn K mainGlobals "_law_begun" = some (some (.ref f27))) (l27:K.lookup f27=some ⟨oc27,od27,.func (PySem.W.fnOf "_law_begun" "_law_begun" (defArgs s_law_begun) (defBody s_law_begun) (defScope s_law_begun) .none kV27 dc27 pm27 an27 cd27 ct27),sl27⟩) (c27:PySem.W.codeIn K cd27 "_law_begun" = true) (k27:PySem.W.keepIn K (.ref f27)=true)
  (a28:PySem.W.nsIn K mainGlobals "_law_lands" = some (some (.ref f28))) (l28:K.lookup f28=some ⟨oc28,od28,.func (PySem.W.fnOf "_law_lands" "_law_lands" (defArgs s_law_lands) (defBody s_law_lands) (defScope s_law_lands) .none kV28 dc28 pm28 an28 cd28 ct28),sl28⟩) (c28:PySem.W.codeIn K cd28 "_law_lands" = true) (k28:PySem.W.keepIn K (.ref f28)=true)
  (a29:PySem.W.nsIn K mainGlobals "_law_said" = some (some (.ref f29))) (l29:K.lookup f29=some ⟨oc29,od29,.func (PySem.W.fnOf "_law_said" "_law_said" (defArgs s_law_said) (defBody s_law_said) (defScope s_law_said) .none kV29 dc29 pm29 an29 cd29 ct29),sl29⟩) (c29:PySem.W.codeIn K cd29 "_law_said" = true) (k29:PySem.W.keepIn K (.ref f29)=true)
  (a30:PySem.W.nsIn K mainGlobals "_law_rope_due" = some (some (.ref f30))) (l30:K.lookup f30=some ⟨oc30,od30,.func (PySem.W.fnOf "_law_rope_due" "_law_rope_due" (defArgs s_law_rope_due) (defBody s_law_rope_due) (defScope s_law_rope_due) .none kV30 dc30 pm30 an30 cd30 ct30),sl30⟩) (c30:PySem.W.codeIn K cd30 "_law_rope_due" = true) (k30:PySem.W.keepIn K (.ref f30)=true)
  (a31:PySem.W.nsIn K mainGlobals "_law_ends_due" = some (some (.ref f31))) (l31:K.lookup f31=some ⟨oc31,od31,.func (PySem.W.fnOf "_law_ends_due" "_law_ends_due" (defArgs s_law_ends_due) (defBody s_law_ends_due) (defScope s_law_ends_due) .none kV31 dc31 pm31 an31 cd31 ct31),sl31⟩) (c31:PySem.W.codeIn K cd31 "_law_ends_due" = true) (k31:PySem.W.keepIn K (.ref f31)=true)
  (a32:PySem.W.nsIn K mainGlobals "_law_loose_due" = some (some (.ref f32))) (l32:K.lookup f32=some ⟨oc32,od32,.func (PySem.W.fnOf "_law_loose_due" "_law_loose_due" (defArgs s_law_loose_due) (defBody s_law_loose_due) (defScope s_law_loose_due) .none kV32 dc32 pm32 an32 cd32 ct32),sl32⟩) (c32:PySem.W.codeIn K cd32 "_law_loose_due" = true) (k32:PySem.W.keepIn K (.ref f32)=true)
  (a33:PySem.W.nsIn K mainGlobals "_law_due" = some (some (.ref f33))) (l33:K.lookup f33=some ⟨oc33,od33,.func (PySem.W.fnOf "_law_due" "_law_due" (defArgs s_law_due) (defBody s_law_due) (defScope s_law_due) .none kV33 dc33 pm33 an33 cd33 ct33),sl33⟩) (c33:PySem.W.codeIn K cd33 "_law_due" = true) (k33:PySem.W.keepIn K (.ref f33)=true)
  (a34:PySem.W.nsIn K mainGlobals "_law_other_ease" = some (some (.ref f34))) (l34:K.lookup f34=some ⟨oc34,od34,.func (PySem.W.fnOf "_law_other_ease" "_law_other_ease" (defArgs s_law_other_ease) (defBody s_law_other_ease) (defScope s_law_other_ease) .none kV34 dc34 pm34 an34 cd34 ct34),sl34⟩) (c34:PySem.W.codeIn K cd34 "_law_other_ease" = true) (k34:PySem.W.keepIn K (.ref f34)=true)
  (a35:PySem.W.nsIn K mainGlobals "_law_other_turns" = some (some (.ref f35))) (l35:K.lookup f35=some ⟨oc35,od35,.func (PySem.W.fnOf "_law_other_turns" "_law_other_turns" (defArgs s_law_other_turns) (defBody s_law_other_turns) (defScope s_law_other_turns) .none kV35 dc35 pm35 an35 cd35 ct35),sl35⟩) (c35:PySem.W.codeIn K cd35 "_law_other_turns" = true) (k35:PySem.W.keepIn K (.ref f35)=true)
  (a36:PySem.W.nsIn K mainGlobals "_law_spoilt" = some (some (.ref f36))) (l36:K.lookup f36=some ⟨oc36,od36,.func (PySem.W.fnOf "_law_spoilt" "_law_spoilt" (defArgs s_law_spoilt) (defBody s_law_spoilt) (defScope s_law_spoilt) .none kV36 dc36 pm36 an36 cd36 ct36),sl36⟩) (c36:PySem.W.codeIn K cd36 "_law_spoilt" = true) (k36:PySem.W.keepIn K (.ref f36)=true)
  (a37:PySem.W.nsIn K mainGlobals "law" = some (some (.ref f37))) (l37:K.lookup f37=some ⟨oc37,od37,.func (PySem.W.fnOf "law" "law" (defArgs sLaw) (defBody sLaw) (defScope sLaw) .none kV37 dc37 pm37 an37 cd37 ct37),sl37⟩) (c37:PySem.W.codeIn K cd37 "law" = true) (k37:PySem.W.keepIn K (.ref f37)=true)
  (a38:PySem.W.findIn K (.ref CN) "__init__" = some (some (.ref f38))) (i38:PySem.W.isFn K (.ref f38)=true) (l38:K.lookup f38=some ⟨oc38,od38,.func (PySem.W.fnOf "__init__" "NoNet.__init__" (defArgs sNNInit) (defBody sNNInit) (defScope sNNInit) .none kV38 dc38 pm38 an38 cd38 ct38),sl38⟩) (c38:PySem.W.codeIn K cd38 "NoNet.__init__" = true) (k38:PySem.W.keepIn K (.ref f38)=true)
  (a39:PySem.W.findIn K (.ref CR) "__init__" = some (some (.ref f39))) (i39:PySem.W.isFn K (.ref f39)=true) (l39:K.lookup f39=some ⟨oc39,od39,.func (PySem.W.fnOf "__init__" "NoRope.__init__" (defArgs sNRInit) (defBody sNRInit) (defScope sNRInit) .none kV39 dc39 pm39 an39 cd39 ct39),sl39⟩) (c39:PySem.W.codeIn K cd39 "NoRope.__init__" = true) (k39:PySem.W.keepIn K (.ref f39)=true)
  (a40:PySem.W.findIn K (.ref CT) "__init__" = some (some (.ref f40))) (i40:PySem.W.isFn K (.ref f40)=true) (l40:K.lookup f40=some ⟨oc40,od40,.func (PySem.W.fnOf "__init__" "NoTurn.__init__" (defArgs sNTInit) (defBody sNTInit) (defScope sNTInit) .none kV40 dc40 pm40 an40 cd40 ct40),sl40⟩) (c40:PySem.W.codeIn K cd40 "NoTurn.__init__" = true) (k40:PySem.W.keepIn K (.ref f40)=true)
  (a41:PySem.W.findIn K (.ref CL) "__init__" = some (some (.ref f41))) (i41:PySem.W.isFn K (.ref f41)=true) (l41:K.lookup f41=some ⟨oc41,od41,.func (PySem.W.fnOf "__init__" "Loose.__init__" (defArgs sLoInit) (defBody sLoInit) (defScope sLoInit) .none kV41 dc41 pm41 an41 cd41 ct41),sl41⟩) (c41:PySem.W.codeIn K cd41 "Loose.__init__" = true) (k41:PySem.W.keepIn K (.ref f41)=true)
  (a42:PySem.W.findIn K (.ref CX) "__init__" = some (some (.ref f42))) (i42:PySem.W.isFn K (.ref f42)=true) (l42:K.lookup f42=some ⟨oc42,od42,.func (PySem.W.fnOf "__init__" "NotFlat.__init__" (defArgs sNFInit) (defBody sNFInit) (defScope sNFInit) .none kV42 dc42 pm42 an42 cd42 ct42),sl42⟩) (c42:PySem.W.codeIn K cd42 "NotFlat.__init__" = true) (k42:PySem.W.keepIn K (.ref f42)=true)
  (aCF:PySem.W.nsIn K mainGlobals "FloorError" = some (some (.ref CF)))
  (aCN:PySem.W.nsIn K mainGlobals "NoNet" = some (some (.ref CN)))
  (aCR:PySem.W.nsIn K mainGlobals "NoRope" = some (some (.ref CR)))
  (aCT:PySem.W.nsIn K mainGlobals "NoTurn" = some (some (.ref CT)))
  (aCL:PySem.W.nsIn K mainGlobals "Loose" = some (some (.ref CL)))
  (aCX:PySem.W.nsIn K mainGlobals "NotFlat" = some (some (.ref CX)))
  (xN:L2.excI K CN [.type "ValueError",.type "Exception",.type "BaseException",.type "object"] "ValueError.__new__" f38=true)
  (eN:PySem.W.exmOne K (.ref CN) (.ref CF)=some true)
  (xR:L2.excI K CR [.type "ValueError",.type "Exception",.type "BaseException",.type "object"] "ValueError.__new__" f39=true)
  (eR:PySem.W.exmOne K (.ref CR) (.ref CF)=some true)
  (xT:L2.excI K CT [.type "ValueError",.type "Exception",.type "BaseException",.type "object"] "ValueError.__new__" f40=true)
  (eT:PySem.W.exmOne K (.ref CT) (.ref CF)=some true)
  (xL:L2.excI K CL [.type "ValueError",.type "Exception",.type "BaseException",.type "object"] "ValueError.__new__" f41=true)
  (eL:PySem.W.exmOne K (.ref CL) (.ref CF)=some true)
  (xX:L2.excI K CX [.type "ValueError",.type "Exception",.type "BaseException",.type "object"] "ValueError.__new__" f42=true)
  (eX:PySem.W.exmOne K (.ref CX) (.ref CF)=some true)
  (sN1:PySem.W.findIn K (.ref CN) "__setattr__" = some (some (.builtin "object.__setattr__")))
  (sN2:L2.exIn K CN=true)
  (sN_word:PySem.W.findIn K (.ref CN) "word" = some none)
  (yNV:PySem.W.kitOne K (.ref CN) (.type "ValueError")=some true)
  (yNN:PySem.W.kitOne K (.ref CN) (.ref CN)=some true)
  (yNR:PySem.W.kitOne K (.ref CN) (.ref CR)=some false)
  (yNT:PySem.W.kitOne K (.ref CN) (.ref CT)=some false)
  (yNL:PySem.W.kitOne K (.ref CN) (.ref CL)=some false)
  (yNX:PySem.W.kitOne K (.ref CN) (.ref CX)=some false)
  (gN1:PySem.W.findIn K (.ref CN) "__getattribute__" = some (some (.builtin "BaseException.__getattribute__")))
  (gN2:PySem.W.findIn K (.ref CN) "__getattr__" = some none)
  (gN3:PySem.W.findIn K (.ref CN) "__class__" = some (some (.builtin "object.__class__")))
  (gN6:PySem.W.mroIn K CN (.type "object")=some true)
  (gN7:PySem.W.mroIn K CN (.type "BaseException")=some true)
  (gN8:(PySem.W.clsIn K CN).isSome=true)
  (gN9:((PySem.W.clsIn K CN).any fun cd=>cd.hasDict)=true)
  (sR1:PySem.W.findIn K (.ref CR) "__setattr__" = some (some (.builtin "object.__setattr__")))
  (sR2:L2.exIn K CR=true)
  (sR_rope:PySem.W.findIn K (.ref CR) "rope" = some none)
  (sR_word:PySem.W.findIn K (.ref CR) "word" = some none)
  (yRV:PySem.W.kitOne K (.ref CR) (.type "ValueError")=some true)
  (yRN:PySem.W.kitOne K (.ref CR) (.ref CN)=some false)
  (yRR:PySem.W.kitOne K (.ref CR) (.ref CR)=some true)
  (yRT:PySem.W.kitOne K (.ref CR) (.ref CT)=some false)
  (yRL:PySem.W.kitOne K (.ref CR) (.ref CL)=some false)
  (yRX:PySem.W.kitOne K (.ref CR) (.ref CX)=some false)
  (gR1:PySem.W.findIn K (.ref CR) "__getattribute__" = some (some (.builtin "BaseException.__getattribute__")))
  (gR2:PySem.W.findIn K (.ref CR) "__getattr__" = some none)
  (gR3:PySem.W.findIn K (.ref CR) "__class__" = some (some (.builtin "object.__class__")))
  (gR6:PySem.W.mroIn K CR (.type "object")=some true)
  (gR7:PySem.W.mroIn K CR (.type "BaseException")=some true)
  (gR8:(PySem.W.clsIn K CR).isSome=true)
  (gR9:((PySem.W.clsIn K CR).any fun cd=>cd.hasDict)=true)
  (sT1:PySem.W.findIn K (.ref CT) "__setattr__" = some (some (.builtin "object.__setattr__")))
  (sT2:L2.exIn K CT=true)
  (sT_place:PySem.W.findIn K (.ref CT) "place" = some none)
  (yTV:PySem.W.kitOne K (.ref CT) (.type "ValueError")=some true)
  (yTN:PySem.W.kitOne K (.ref CT) (.ref CN)=some false)
  (yTR:PySem.W.kitOne K (.ref CT) (.ref CR)=some false)
  (yTT:PySem.W.kitOne K (.ref CT) (.ref CT)=some true)
  (yTL:PySem.W.kitOne K (.ref CT) (.ref CL)=some false)
  (yTX:PySem.W.kitOne K (.ref CT) (.ref CX)=some false)
  (gT1:PySem.W.findIn K (.ref CT) "__getattribute__" = some (some (.builtin "BaseException.__getattribute__")))
  (gT2:PySem.W.findIn K (.ref CT) "__getattr__" = some none)
  (gT3:PySem.W.findIn K (.ref CT) "__class__" = some (some (.builtin "object.__class__")))
  (gT6:PySem.W.mroIn K CT (.type "object")=some true)
  (gT7:PySem.W.mroIn K CT (.type "BaseException")=some true)
  (gT8:(PySem.W.clsIn K CT).isSome=true)
  (gT9:((PySem.W.clsIn K CT).any fun cd=>cd.hasDict)=true)
  (sL1:PySem.W.findIn K (.ref CL) "__setattr__" = some (some (.builtin "object.__setattr__")))
  (sL2:L2.exIn K CL=true)
  (sL_place:PySem.W.findIn K (.ref CL) "place" = some none)
  (yLV:PySem.W.kitOne K (.ref CL) (.type "ValueError")=some true)
  (yLN:PySem.W.kitOne K (.ref CL) (.ref CN)=some false)
  (yLR:PySem.W.kitOne K (.ref CL) (.ref CR)=some false)
  (yLT:PySem.W.kitOne K (.ref CL) (.ref CT)=some false)
  (yLL:PySem.W.kitOne K (.ref CL) (.ref CL)=some true)
  (yLX:PySem.W.kitOne K (.ref CL) (.ref CX)=some false)
  (gL1:PySem.W.findIn K (.ref CL) "__getattribute__" = some (some (.builtin "BaseException.__getattribute__")))
  (gL2:PySem.W.findIn K (.ref CL) "__getattr__" = some none)
  (gL3:PySem.W.findIn K (.ref CL) "__class__" = some (some (.builtin "object.__class__")))
  (gL6:PySem.W.mroIn K CL (.type "object")=some true)
  (gL7:PySem.W.mroIn K CL (.type "BaseException")=some true)
  (gL8:(PySem.W.clsIn K CL).isSome=true)
  (gL9:((PySem.W.clsIn K CL).any fun cd=>cd.hasDict)=true)
  (sX1:PySem.W.findIn K (.ref CX) "__setattr__" = some (some (.builtin "object.__setattr__")))
  (sX2:L2.exIn K CX=true)
  (sX_lands:PySem.W.findIn K (.ref CX) "lands" = some none)
  (yXV:PySem.W.kitOne K (.ref CX) (.type "ValueError")=some true)
  (yXN:PySem.W.kitOne K (.ref CX) (.ref CN)=some false)
  (yXR:PySem.W.kitOne K (.ref CX) (.ref CR)=some false)
  (yXT:PySem.W.kitOne K (.ref CX) (.ref CT)=some false)
  (yXL:PySem.W.kitOne K (.ref CX) (.ref CL)=some false)
  (yXX:PySem.W.kitOne K (.ref CX) (.ref CX)=some true)
  (gX1:PySem.W.findIn K (.ref CX) "__getattribute__" = some (some (.builtin "BaseException.__getattribute__")))
  (gX2:PySem.W.findIn K (.ref CX) "__getattr__" = some none)
  (gX3:PySem.W.findIn K (.ref CX) "__class__" = some (some (.builtin "object.__class__")))
  (gX6:PySem.W.mroIn K CX (.type "object")=some true)
  (gX7:PySem.W.mroIn K CX (.type "BaseException")=some true)
  (gX8:(PySem.W.clsIn K CX).isSome=true)
  (gX9:((PySem.W.clsIn K CX).any fun cd=>cd.hasDict)=true)
  (g4:PySem.W.specialIn K (.builtin "object.__class__") "__get__" = some (some (.builtin "getset_descriptor.__get__")))
  (g5:PySem.W.takesIn K (.builtin "object.__class__")=some true)
  (xcd:cd37=.ref c05)
  (xkt:K.lookup T05=none)
  (xhd:PySem.W.codeHdIn K c05 T05=true)
  (z_abs:PySem.W.nsIn K mainGlobals "abs" = some none)
  (z_len:PySem.W.nsIn K mainGlobals "len" = some none)
  (z_range:PySem.W.nsIn K mainGlobals "range" = some none)
  (z_list:PySem.W.nsIn K mainGlobals "list" = some none)
  (z_tuple:PySem.W.nsIn K mainGlobals "tuple" = some none)
  (z_enumerate:PySem.W.nsIn K mainGlobals "enumerate" = some none)
  (z_min:PySem.W.nsIn K mainGlobals "min" = some none)
  (z_max:PySem.W.nsIn K mainGlobals "max" = some none)
  (z_sorted:PySem.W.nsIn K mainGlobals "sorted" = some none)
  (z_isinstance:PySem.W.nsIn K mainGlobals "isinstance" = some none)
  (z_int:PySem.W.nsIn K mainGlobals "int" = some none)
  (z_ValueError:PySem.W.nsIn K mainGlobals "ValueError" = some none)
  : ∃ fd:FuncData,(∀ (s:Shared) (v:Value),BindsTo s fd ⟨[v],[]⟩ [("_law_script",v)])∧K.lookup T05=none∧(∃ c,PySem.W.codeHdIn K c T05=true)∧∀ base:Heap,K.In base->base.Ns mainGlobals mg->BMain mg base->FnOk l.prog w K mg base CX0 8 fa fd ["_law_script"] (spLaw T05 K):=by
 have e:=hfa.symm.trans (PySem.W.mg_of X G a37)
 cases e
 have F1:=fun_mk (st:=sCommon) l1 c1 k1
 have b1:=F1.binds (ps:=["one","other"]) fun _ _ _ _ _ _ us hl=>by obtain ⟨_,_,rfl⟩:=len_2 hl; rfl
 have m1:=PySem.W.mg_of X G a1
 have F2:=fun_mk (st:=sOther) l2 c2 k2
 have b2:=F2.binds (ps:=["end"]) fun _ _ _ _ _ _ us hl=>by obtain ⟨_,rfl⟩:=len_1 hl; rfl
 have m2:=PySem.W.mg_of X G a2
 have F3:=fun_mk (st:=sAhead) l3 c3 k3
 have b3:=F3.binds (ps:=["turns"]) fun _ _ _ _ _ _ us hl=>by obtain ⟨_,rfl⟩:=len_1 hl; rfl
 have m3:=PySem.W.mg_of X G a3
 have F4:=fun_mk (st:=sRingFrom) l4 c4 k4
 have b4:=F4.binds (ps:=["start","ahead"]) fun _ _ _ _ _ _ us hl=>by obtain ⟨_,_,rfl⟩:=len_2 hl; rfl
 have m4:=PySem.W.mg_of X G a4
 have F5:=fun_mk (st:=sRings) l5 c5 k5
 have b5:=F5.binds (ps:=["turns"]) fun _ _ _ _ _ _ us hl=>by obtain ⟨_,rfl⟩:=len_1 hl; rfl
 have m5:=PySem.W.mg_of X G a5
 have F6:=fun_mk (st:=s_is_ease) l6 c6 k6
 have b6:=F6.binds (ps:=["ease"]) fun _ _ _ _ _ _ us hl=>by obtain ⟨_,rfl⟩:=len_1 hl; rfl
 have m6:=PySem.W.mg_of X G a6
 have F7:=fun_mk (st:=s_check_numbers) l7 c7 k7
 have b7:=F7.binds (ps:=["places","ropes"]) fun _ _ _ _ _ _ us hl=>by obtain ⟨_,_,rfl⟩:=len_2 hl; rfl
 have m7:=PySem.W.mg_of X G a7
 have F8:=fun_mk (st:=s_check_rope) l8 c8 k8
 have b8:=F8.binds (ps:=["places","number","rope"]) fun _ _ _ _ _ _ us hl=>by obtain ⟨_,_,_,rfl⟩:=len_3 hl; rfl
 have m8:=PySem.W.mg_of X G a8
 have F9:=fun_mk (st:=s_ends_at) l9 c9 k9
 have b9:=F9.binds (ps:=["places","ropes"]) fun _ _ _ _ _ _ us hl=>by obtain ⟨_,_,rfl⟩:=len_2 hl; rfl
 have m9:=PySem.W.mg_of X G a9
 have F10:=fun_mk (st:=s_check_turns) l10 c10 k10
 have b10:=F10.binds (ps:=["places","ropes","turns"]) fun _ _ _ _ _ _ us hl=>by obtain ⟨_,_,_,rfl⟩:=len_3 hl; rfl
 have m10:=PySem.W.mg_of X G a10
 have F11:=fun_mk (st:=s_led_to) l11 c11 k11
 have b11:=F11.binds (ps:=["start","ropes"]) fun _ _ _ _ _ _ us hl=>by obtain ⟨_,_,rfl⟩:=len_2 hl; rfl
 have m11:=PySem.W.mg_of X G a11
 have F12:=fun_mk (st:=s_check_hanging) l12 c12 k12
 have b12:=F12.binds (ps:=["places","ropes"]) fun _ _ _ _ _ _ us hl=>by obtain ⟨_,_,rfl⟩:=len_2 hl; rfl
 have m12:=PySem.W.mg_of X G a12
 have F13:=fun_mk (st:=s_check_flat) l13 c13 k13
 have b13:=F13.binds (ps:=["places","ropes","turns"]) fun _ _ _ _ _ _ us hl=>by obtain ⟨_,_,_,rfl⟩:=len_3 hl; rfl
 have m13:=PySem.W.mg_of X G a13
 have F14:=fun_mk (st:=s_begun_least) l14 c14 k14
 have b14:=F14.binds (ps:=["turn"]) fun _ _ _ _ _ _ us hl=>by obtain ⟨_,rfl⟩:=len_1 hl; rfl
 have m14:=PySem.W.mg_of X G a14
 have F15:=fun_mk (st:=s_told_turns) l15 c15 k15
 have b15:=F15.binds (ps:=["turns"]) fun _ _ _ _ _ _ us hl=>by obtain ⟨_,rfl⟩:=len_1 hl; rfl
 have m15:=PySem.W.mg_of X G a15
 have F16:=fun_mk (st:=s_checked) l16 c16 k16
 have b16:=F16.binds (ps:=["places","ropes","turns"]) fun _ _ _ _ _ _ us hl=>by obtain ⟨_,_,_,rfl⟩:=len_3 hl; rfl
 have m16:=PySem.W.mg_of X G a16
 have F17:=fun_mk (st:=s_law_cell_at) l17 c17 k17
 have b17:=F17.binds (ps:=["_law_script","_law_k"]) fun _ _ _ _ _ _ us hl=>by obtain ⟨_,_,rfl⟩:=len_2 hl; rfl
 have m17:=PySem.W.mg_of X G a17
 have F18:=fun_mk (st:=s_law_drawn) l18 c18 k18
 have b18:=F18.binds (ps:=["_law_script","_law_k"]) fun _ _ _ _ _ _ us hl=>by obtain ⟨_,_,rfl⟩:=len_2 hl; rfl
 have m18:=PySem.W.mg_of X G a18
 have F19:=fun_mk (st:=s_law_common) l19 c19 k19
 have b19:=F19.binds (ps:=["_law_one","_law_other"]) fun _ _ _ _ _ _ us hl=>by obtain ⟨_,_,rfl⟩:=len_2 hl; rfl
 have m19:=PySem.W.mg_of X G a19
 have F20:=fun_mk (st:=s_law_lowest) l20 c20 k20
 have b20:=F20.binds (ps:=["_law_top","_law_bottom"]) fun _ _ _ _ _ _ us hl=>by obtain ⟨_,_,rfl⟩:=len_2 hl; rfl
 have m20:=PySem.W.mg_of X G a20
 have F21:=fun_mk (st:=sNext) l21 c21 k21
 have b21:=F21.binds (ps:=["_law_turns","_law_homes","_law_end"]) fun _ _ _ _ _ _ us hl=>by obtain ⟨_,_,_,rfl⟩:=len_3 hl; rfl
 have m21:=PySem.W.mg_of X G a21
 have F22:=fun_mk (st:=s_law_ring) l22 c22 k22
 have b22:=F22.binds (ps:=["_law_turns","_law_homes","_law_start"]) fun _ _ _ _ _ _ us hl=>by obtain ⟨_,_,_,rfl⟩:=len_3 hl; rfl
 have m22:=PySem.W.mg_of X G a22
 have F23:=fun_mk (st:=s_law_put_ahead) l23 c23 k23
 have b23:=F23.binds (ps:=["_law_turns","_law_homes","_law_spot","_law_end"]) fun _ _ _ _ _ _ us hl=>by obtain ⟨_,_,_,_,rfl⟩:=len_4 hl; rfl
 have m23:=PySem.W.mg_of X G a23
 have F24:=fun_mk (st:=s_law_one_more) l24 c24 k24
 have b24:=F24.binds (ps:=["_law_turns","_law_homes","_law_cell"]) fun _ _ _ _ _ _ us hl=>by obtain ⟨_,_,_,rfl⟩:=len_3 hl; rfl
 have m24:=PySem.W.mg_of X G a24
 have F25:=fun_mk (st:=sLEase) l25 c25 k25
 have b25:=F25.binds (ps:=["_law_cell"]) fun _ _ _ _ _ _ us hl=>by obtain ⟨_,rfl⟩:=len_1 hl; rfl
 have m25:=PySem.W.mg_of X G a25
 have F26:=fun_mk (st:=s_law_grown) l26 c26 k26
 have b26:=F26.binds (ps:=["_law_script","_law_start","_law_many"]) fun _ _ _ _ _ _ us hl=>by obtain ⟨_,_,_,rfl⟩:=len_3 hl; rfl
 have m26:=PySem.W.mg_of X G a26
 have F27:=fun_mk (st:=s_law_begun) l27 c27 k27
 have b27:=F27.binds (ps:=["_law_turn"]) fun _ _ _ _ _ _ us hl=>by obtain ⟨_,rfl⟩:=len_1 hl; rfl
 have m27:=PySem.W.mg_of X G a27
 have F28:=fun_mk (st:=s_law_lands) l28 c28 k28
 have b28:=F28.binds (ps:=["_law_turns"]) fun _ _ _ _ _ _ us hl=>by obtain ⟨_,rfl⟩:=len_1 hl; rfl
 have m28:=PySem.W.mg_of X G a28
 have F29:=fun_mk (st:=s_law_said) l29 c29 k29
 have b29:=F29.binds (ps:=["_law_ask"]) fun _ _ _ _ _ _ us hl=>by obtain ⟨_,rfl⟩:=len_1 hl; rfl
 have m29:=PySem.W.mg_of X G a29
 have F30:=fun_mk (st:=s_law_rope_due) l30 c30 k30
 have b30:=F30.binds (ps:=["_law_places","_law_number","_law_rope"]) fun _ _ _ _ _ _ us hl=>by obtain ⟨_,_,_,rfl⟩:=len_3 hl; rfl
 have m30:=PySem.W.mg_of X G a30
 have F31:=fun_mk (st:=s_law_ends_due) l31 c31 k31
 have b31:=F31.binds (ps:=["_law_places","_law_ropes","_law_turns"]) fun _ _ _ _ _ _ us hl=>by obtain ⟨_,_,_,rfl⟩:=len_3 hl; rfl
 have m31:=PySem.W.mg_of X G a31
 have F32:=fun_mk (st:=s_law_loose_due) l32 c32 k32
 have b32:=F32.binds (ps:=["_law_places","_law_ropes"]) fun _ _ _ _ _ _ us hl=>by obtain ⟨_,_,rfl⟩:=len_2 hl; rfl
 have m32:=PySem.W.mg_of X G a32
 have F33:=fun_mk (st:=s_law_due) l33 c33 k33
 have b33:=F33.binds (ps:=["_law_places","_law_ropes","_law_turns"]) fun _ _ _ _ _ _ us hl=>by obtain ⟨_,_,_,rfl⟩:=len_3 hl; rfl
 have m33:=PySem.W.mg_of X G a33
 have F34:=fun_mk (st:=s_law_other_ease) l34 c34 k34
 have b34:=F34.binds (ps:=["_law_cell"]) fun _ _ _ _ _ _ us hl=>by obtain ⟨_,rfl⟩:=len_1 hl; rfl
 have m34:=PySem.W.mg_of X G a34
 have F35:=fun_mk (st:=s_law_other_turns) l35 c35 k35
 have b35:=F35.binds (ps:=["_law_turns","_law_way","_law_cell"]) fun _ _ _ _ _ _ us hl=>by obtain ⟨_,_,_,rfl⟩:=len_3 hl; rfl
 have m35:=PySem.W.mg_of X G a35
 have F36:=fun_mk (st:=s_law_spoilt) l36 c36 k36
 have b36:=F36.binds (ps:=["_law_net","_law_cell"]) fun _ _ _ _ _ _ us hl=>by obtain ⟨_,_,rfl⟩:=len_2 hl; rfl
 have m36:=PySem.W.mg_of X G a36
 have F37:=fun_mk (st:=sLaw) l37 c37 k37
 have F38:=fun_mk (st:=sNNInit) l38 c38 k38
 have b38:=F38.binds (ps:=["self","word"]) fun _ _ _ _ _ _ us hl=>by obtain ⟨_,_,rfl⟩:=len_2 hl; rfl
 have F39:=fun_mk (st:=sNRInit) l39 c39 k39
 have b39:=F39.binds (ps:=["self","rope","word"]) fun _ _ _ _ _ _ us hl=>by obtain ⟨_,_,_,rfl⟩:=len_3 hl; rfl
 have F40:=fun_mk (st:=sNTInit) l40 c40 k40
 have b40:=F40.binds (ps:=["self","place"]) fun _ _ _ _ _ _ us hl=>by obtain ⟨_,_,rfl⟩:=len_2 hl; rfl
 have F41:=fun_mk (st:=sLoInit) l41 c41 k41
 have b41:=F41.binds (ps:=["self","place"]) fun _ _ _ _ _ _ us hl=>by obtain ⟨_,_,rfl⟩:=len_2 hl; rfl
 have F42:=fun_mk (st:=sNFInit) l42 c42 k42
 have b42:=F42.binds (ps:=["self","lands"]) fun _ _ _ _ _ _ us hl=>by obtain ⟨_,_,rfl⟩:=len_2 hl; rfl
 have mCF:=PySem.W.mg_of X G aCF
 have mCN:=PySem.W.mg_of X G aCN
 have mCR:=PySem.W.mg_of X G aCR
 have mCT:=PySem.W.mg_of X G aCT
 have mCL:=PySem.W.mg_of X G aCL
 have mCX:=PySem.W.mg_of X G aCX
 have SN_word:L2.XStore K CN "word":=⟨sN1,sN2,sN_word⟩
 have GN_word:L2.XGet K CN "word":=⟨⟨gN1,gN2,gN3,g4,g5,gN6,gN7,gN8⟩,sN_word,gN9⟩
 have KN:Kits K CN CN CR CT CL CX true false false false false:=⟨yNV,yNN,yNR,yNT,yNL,yNX⟩
 have SR_rope:L2.XStore K CR "rope":=⟨sR1,sR2,sR_rope⟩
 have GR_rope:L2.XGet K CR "rope":=⟨⟨gR1,gR2,gR3,g4,g5,gR6,gR7,gR8⟩,sR_rope,gR9⟩
 have SR_word:L2.XStore K CR "word":=⟨sR1,sR2,sR_word⟩
 have GR_word:L2.XGet K CR "word":=⟨⟨gR1,gR2,gR3,g4,g5,gR6,gR7,gR8⟩,sR_word,gR9⟩
 have KR:Kits K CR CN CR CT CL CX false true false false false:=⟨yRV,yRN,yRR,yRT,yRL,yRX⟩
 have ST_place:L2.XStore K CT "place":=⟨sT1,sT2,sT_place⟩
 have GT_place:L2.XGet K CT "place":=⟨⟨gT1,gT2,gT3,g4,g5,gT6,gT7,gT8⟩,sT_place,gT9⟩
 have KT:Kits K CT CN CR CT CL CX false false true false false:=⟨yTV,yTN,yTR,yTT,yTL,yTX⟩
 have SL_place:L2.XStore K CL "place":=⟨sL1,sL2,sL_place⟩
 have GL_place:L2.XGet K CL "place":=⟨⟨gL1,gL2,gL3,g4,g5,gL6,gL7,gL8⟩,sL_place,gL9⟩
 have KL:Kits K CL CN CR CT CL CX false false false true false:=⟨yLV,yLN,yLR,yLT,yLL,yLX⟩
 have SX_lands:L2.XStore K CX "lands":=⟨sX1,sX2,sX_lands⟩
 have GX_lands:L2.XGet K CX "lands":=⟨⟨gX1,gX2,gX3,g4,g5,gX6,gX7,gX8⟩,sX_lands,gX9⟩
 have KX:Kits K CX CN CR CT CL CX false false false false true:=⟨yXV,yXN,yXR,yXT,yXL,yXX⟩
 have m_abs:=PySem.W.mg_none_of X G z_abs
 have m_len:=PySem.W.mg_none_of X G z_len
 have m_range:=PySem.W.mg_none_of X G z_range
 have m_list:=PySem.W.mg_none_of X G z_list
 have m_tuple:=PySem.W.mg_none_of X G z_tuple
 have m_enumerate:=PySem.W.mg_none_of X G z_enumerate
 have m_min:=PySem.W.mg_none_of X G z_min
 have m_max:=PySem.W.mg_none_of X G z_max
 have m_sorted:=PySem.W.mg_none_of X G z_sorted
 have m_isinstance:=PySem.W.mg_none_of X G z_isinstance
 have m_int:=PySem.W.mg_none_of X G z_int
 have m_ValueError:=PySem.W.mg_none_of X G z_ValueError
 refine ⟨PySem.W.fnOf "law" "law" (defArgs sLaw) (defBody sLaw) (defScope sLaw) .none kV37 dc37 pm37 an37 cd37 ct37,fun s v=>.of_eq rfl,xkt,⟨_,xhd⟩,fun base X' _ hB=>?_⟩
 have hC:=PySem.W.codeHd_of_K X' xhd
 have O1:FnOk l.prog w K mg base CX0 1 f1 _ ["one","other"] spGcd:=ok_common F1   m_abs
 have O2:FnOk l.prog w K mg base CX0 1 f2 _ ["end"] spOth:=ok_other F2
 have O3:FnOk l.prog w K mg base CX0 1 f3 _ ["turns"] spAhead:=ok_ahead F3   m_enumerate
 have O4:FnOk l.prog w K mg base CX0 2 f4 _ ["start","ahead"] spRing:=ok_ringFrom F4  O2 b2 k2 m2 m_tuple
 have O5:FnOk l.prog w K mg base CX0 3 f5 _ ["turns"] spRings:=ok_rings F5  O3 b3 k3 m3 O4 b4 k4 m4 m_len m_range m_tuple
 have O6:FnOk l.prog w K mg base CX0 2 f6 _ ["ease"] spIsX:=ok_isX F6  O1 b1 k1 m1 m_len
 have O38:FnOk l.prog w K mg base CX0 1 f38 _ ["self","word"] (sp1 CN "word"):=ok_nnin F38 SN_word
 have O39:FnOk l.prog w K mg base CX0 1 f39 _ ["self","rope","word"] (spNRin CR):=ok_nrin F39 SR_rope SR_word
 have O40:FnOk l.prog w K mg base CX0 1 f40 _ ["self","place"] (sp1 CT "place"):=ok_ntin F40 ST_place
 have O41:FnOk l.prog w K mg base CX0 1 f41 _ ["self","place"] (spLoin CL):=ok_loin F41 SL_place
 have O42:FnOk l.prog w K mg base CX0 1 f42 _ ["self","lands"] (sp1 CX "lands"):=ok_nfin F42 SX_lands
 have O7:FnOk l.prog w K mg base (CXr l.prog w) 3 f7 _ ["places","ropes"] (spCN CN):=ok_cn F7   m_len O38 b38 i38 mCN xN
 have O8:FnOk l.prog w K mg base (CXr l.prog w) 3 f8 _ ["places","number","rope"] (spCR CR):=ok_cr F8  O6 b6 k6 m6 O39 b39 i39 mCR xR
 have O9:FnOk l.prog w K mg base CX0 1 f9 _ ["places","ropes"] spEnds:=ok_ends F9   m_len m_range m_enumerate
 have O10:FnOk l.prog w K mg base (CXr l.prog w) 3 f10 _ ["places","ropes","turns"] (spCT CT):=ok_ct F10  O9 b9 k9 m9 m_len m_enumerate m_sorted O40 b40 i40 mCT xT
 have O11:FnOk l.prog w K mg base CX0 1 f11 _ ["start","ropes"] spLed:=ok_led F11   m_len
 have O12:FnOk l.prog w K mg base (CXr l.prog w) 3 f12 _ ["places","ropes"] (spHg CL):=ok_hg F12  O11 b11 k11 m11 m_range O41 b41 i41 mCL xL
 have O13:FnOk l.prog w K mg base (CXr l.prog w) 4 f13 _ ["places","ropes","turns"] (spCF CX):=ok_cf F13  O5 b5 k5 m5 m_len O42 b42 i42 mCX xX
 have O14:FnOk l.prog w K mg base CX0 1 f14 _ ["turn"] spBeg:=ok_beg F14   m_min
 have O15:FnOk l.prog w K mg base CX0 2 f15 _ ["turns"] spTold:=ok_told F15  O14 b14 k14 m14 m_tuple
 have O16:FnOk l.prog w K mg base (CXr l.prog w) 5 f16 _ ["places","ropes","turns"] (spCk CN CR CT CL CX):=ok_ck F16  O7 b7 k7 m7 O8 b8 k8 m8 O10 b10 k10 m10 O12 b12 k12 m12 O13 b13 k13 m13 O15 b15 k15 m15 m_enumerate
 have O17:FnOk l.prog w K mg base CX0 1 f17 _ ["_law_script","_law_k"] (spCell K):=ok_cell F17   m_len
 have O18:FnOk l.prog w K mg base CX0 2 f18 _ ["_law_script","_law_k"] (spDrawn K):=ok_drawn F18  O17 b17 k17 m17 m_int
 have O19:FnOk l.prog w K mg base CX0 1 f19 _ ["_law_one","_law_other"] spGcd:=ok_lcommon F19   m_abs
 have O20:FnOk l.prog w K mg base CX0 2 f20 _ ["_law_top","_law_bottom"] spLow:=ok_lowest F20  O19 b19 k19 m19
 have O21:FnOk l.prog w K mg base CX0 1 f21 _ ["_law_turns","_law_homes","_law_end"] spNext:=ok_next F21
 have O22:FnOk l.prog w K mg base CX0 2 f22 _ ["_law_turns","_law_homes","_law_start"] spLRing:=ok_lring F22  O21 b21 k21 m21
 have O23:FnOk l.prog w K mg base CX0 1 f23 _ ["_law_turns","_law_homes","_law_spot","_law_end"] spPut:=ok_put F23
 have O24:FnOk l.prog w K mg base CX0 3 f24 _ ["_law_turns","_law_homes","_law_cell"] spMore:=ok_more F24  O22 b22 k22 m22 O23 b23 k23 m23 m_len
 have O25:FnOk l.prog w K mg base CX0 3 f25 _ ["_law_cell"] spLEase:=ok_lease F25  O20 b20 k20 m20
 have O26:FnOk l.prog w K mg base CX0 4 f26 _ ["_law_script","_law_start","_law_many"] (spGrown K):=ok_grown F26  O24 b24 k24 m24 O18 b18 k18 m18 O25 b25 k25 m25 m_len m_range m_tuple
 have O27:FnOk l.prog w K mg base CX0 1 f27 _ ["_law_turn"] spBeg:=ok_lbeg F27   m_min
 have O28:FnOk l.prog w K mg base CX0 1 f28 _ ["_law_turns"] spLan:=ok_lan F28   m_len m_range m_min m_list
 have O29:AskOk l.prog w K mg base 6 7 f29 _ ["_law_ask"] (ssF CN CR CT CL CX):=ok_said F29 mCF mCN mCR mCT mCL mCX m_isinstance m_ValueError eN eR eT eL eX KN KR KT KL KX GN_word GR_rope GR_word GT_place GL_place GX_lands
 have O30:FnOk l.prog w K mg base CX0 2 f30 _ ["_law_places","_law_number","_law_rope"] spRD:=ok_rd F30  O19 b19 k19 m19
 have O31:FnOk l.prog w K mg base CX0 1 f31 _ ["_law_places","_law_ropes","_law_turns"] spEDu:=ok_eu F31   m_len m_range m_enumerate m_list m_sorted
 have O32:FnOk l.prog w K mg base CX0 1 f32 _ ["_law_places","_law_ropes"] spLs:=ok_ls F32   m_range
 have O33:FnOk l.prog w K mg base CX0 3 f33 _ ["_law_places","_law_ropes","_law_turns"] spDue:=ok_due F33  O30 b30 k30 m30 O31 b31 k31 m31 O32 b32 k32 m32 O28 b28 k28 m28 O27 b27 k27 m27 m_len m_enumerate m_tuple
 have O34:FnOk l.prog w K mg base CX0 1 f34 _ ["_law_cell"] spOe:=ok_oe F34
 have O35:FnOk l.prog w K mg base CX0 1 f35 _ ["_law_turns","_law_way","_law_cell"] spOt:=ok_ot F35   m_len m_max
 have O36:FnOk l.prog w K mg base CX0 2 f36 _ ["_law_net","_law_cell"] spSp:=ok_sp F36  O34 b34 k34 m34 O35 b35 k35 m35 m_len m_max m_list m_tuple m_int
 exact ok_law F37 xcd hC hB O18 b18 k18 m18 O26 b26 k26 m26 O36 b36 k36 m36 O33 b33 k33 m33 O29 b29 k29 m29 O16 b16 k16 m16 m_range
theorem walk {l:PySem.W.OpenLaw} {q:Program} {loose:List Str} {XP:(Str->Option Value)->Heap->Prop} {YP:World->Heap->Prop} {d:DefRec} {K:Params->PySem.W.Frag} {T:Addr} (hn:l.most=some 63) (hdf:d.params.defaults=[])
  (hY:∀ (w:World) (h:Heap),YP w h->(K w.params).In h∧h.get? T=some (PySem.W.tabObj #[]))
  (F:∀ (w:World) (mg:Str->Option Value) (fa:Addr) (h:Heap),(K w.params).In h->h.Ns mainGlobals mg->mg d.name=some (.ref fa) →
   ∃ fd:FuncData,(∀ (s:Shared) (u:Value),BindsTo s fd ⟨[u],[]⟩ [("_law_script",u)])∧(K w.params).lookup T=none∧(∃ c,PySem.W.codeHdIn (K w.params) c T=true)∧∀ base:Heap,(K w.params).In base->base.Ns mainGlobals mg->BMain mg base->FnOk l.prog w (K w.params) mg base CX0 8 fa fd ["_law_script"] (spLaw T (K w.params))) :
  PySem.W.WalkO q loose XP YP l.row.toRowW d [] (fun f vs=>PySem.call f vs) :=
 L2.walk_ofT (n:=63) (k:=8) (x:="_law_script") (sp:=fun w=>spLaw T (K w.params)) hn (by decide) hdf ⟨rfl,by decide,by decide⟩ hY F fun _ _ a ns hl hT hS=>⟨a,ns,rfl,hS,hl,hT,fun _=>rfl⟩
end My
namespace PySem.W.Fast
theorem tw2063965695109784876:True:=trivial
theorem tw1759219017462614886:True:=trivial
theorem tw14722873375140777080:True:=trivial
theorem tw1717974358373187:True:=trivial
theorem tw4330993717311303409:True:=trivial
theorem tw2478532743997341148:True:=trivial
theorem tw7883653866887225301:True:=trivial
theorem tw9813825232003199281:True:=trivial
theorem tw16130653297067709681:True:=trivial
theorem tw13712074632895251040:True:=trivial
theorem tw16406122728045468597:True:=trivial
theorem tw16648453681632220420:True:=trivial
theorem tw13118743329222730665:True:=trivial
theorem tw3187480150557909775:True:=trivial
theorem tw4004284307440415468:True:=trivial
theorem tw3441536640486729546:True:=trivial
theorem tw11529870666867551706:True:=trivial
theorem tw10142192998288641801:True:=trivial
theorem tw11590643056048352080:True:=trivial
theorem tw986064916088841739:True:=trivial
theorem tw14848601277302270846:True:=trivial
theorem tw2964401031298118234:True:=trivial
theorem tw14096358897057028749:True:=trivial
theorem tw3610282942912025763:True:=trivial
theorem tw7869807159505193572:True:=trivial
theorem tw765455639834181659:True:=trivial
theorem tw8868414896532655298:True:=trivial
theorem tw16480193554022704149:True:=trivial
theorem tw16967707319805173021:True:=trivial
theorem tw13276928819620958895:True:=trivial
theorem tw14273611098320311187:True:=trivial
theorem tw5617729054219684836:True:=trivial
theorem tw2932850547471498150:True:=trivial
theorem tw17912021427798448037:True:=trivial
theorem tw3963561231820357737:True:=trivial
theorem tw9142237960363232383:True:=trivial
theorem tw1958175209805005676:True:=trivial
theorem tw11230058474159968644:True:=trivial
theorem tw4532840366523409710:True:=trivial
theorem tw4732331715580362722:True:=trivial
theorem tw930839250344499815:True:=trivial
theorem tw5919848777699496474:True:=trivial
theorem tw4889039074718394424:True:=trivial
theorem tw17698644873831461083:True:=trivial
theorem tw1954845154253977940:True:=trivial
theorem tw1373239405262979729:True:=trivial
theorem tw11588585303905790182:True:=trivial
theorem te1333966277066198376:True:=trivial
theorem tw3778785311916121306:True:=trivial
theorem tw14999569766158253010:True:=trivial
theorem tw10744874893899742854:True:=trivial
theorem tw3573989026147637231:True:=trivial
theorem tw14226203865199337745:True:=trivial
theorem tw17352917823778723694:True:=trivial
theorem tw1639226737328173713:True:=trivial
theorem tw6892605954803186920:True:=trivial
theorem tw11778842875179849130:True:=trivial
theorem tw11505501957713928106:True:=trivial
theorem tw507085521477805445:True:=trivial
theorem tw18395720384260695313:True:=trivial
theorem tw4423729774046687748:True:=trivial
theorem tw9141719649830468531:True:=trivial
theorem tw16967210630004526805:True:=trivial
theorem tw11528598662811828789:True:=trivial
theorem tw388217673704076847:True:=trivial
theorem tw86102546613626507:True:=trivial
theorem tw1784476623923612708:True:=trivial
theorem tw17734467380868009053:True:=trivial
theorem tw794889733099292254:True:=trivial
theorem tw4959029480618321090:True:=trivial
theorem tw3669798919512821502:True:=trivial
theorem tw15967346294556040914:True:=trivial
theorem tw11083263276004209148:True:=trivial
theorem tw1766812343580809113:True:=trivial
theorem tw12133440042273244131:True:=trivial
theorem tw18364741562522886362:True:=trivial
theorem tw7139539371092950767:True:=trivial
theorem tw6784454258249138227:True:=trivial
theorem tw4818276374566864168:True:=trivial
theorem tw10981147094100089035:True:=trivial
theorem tw2746560000495244081:True:=trivial
theorem tw1968492294184725702:True:=trivial
theorem tw16346047189237046777:True:=trivial
theorem tw437144883721751500:True:=trivial
theorem tw12396630735755364374:True:=trivial
theorem tw8693518949552820775:True:=trivial
theorem tw8357127134332096613:True:=trivial
theorem tw13257114190905906643:True:=trivial
theorem tw10336311413571368061:True:=trivial
theorem tw17411597002358417207:True:=trivial
theorem tw10643321212942168079:True:=trivial
theorem tw1906842610535598103:True:=trivial
theorem tw15928821159266364680:True:=trivial
theorem tw17764491799103875468:True:=trivial
theorem tw12113572184010547533:True:=trivial
theorem tw15558158358551607537:True:=trivial
theorem tw11469935561153450442:True:=trivial
theorem tw8456925346945596556:True:=trivial
theorem tw6467996674050646968:True:=trivial
theorem tw222487919366380288:True:=trivial
theorem tw1609058151820043600:True:=trivial
theorem tw10608976541357346612:True:=trivial
theorem tw3629480982068619771:True:=trivial
theorem tw8174388479258347153:True:=trivial
theorem tw11624399327834714684:True:=trivial
theorem tw13324144253906918825:True:=trivial
theorem tw10155730508139100124:True:=trivial
theorem tw10673504315377894964:True:=trivial
theorem tw7055951020732675457:True:=trivial
theorem tw9977784527606311640:True:=trivial
theorem tw4308426145829500605:True:=trivial
theorem tw8665419852008787147:True:=trivial
theorem tw12125570612800839494:True:=trivial
theorem tw8223181131436802570:True:=trivial
theorem tw15793345163093821596:True:=trivial
theorem tw7173205667627199611:True:=trivial
theorem tw3388068401460776509:True:=trivial
theorem tw17668629744565065416:True:=trivial
theorem tw17057758362449584701:True:=trivial
theorem tw18213869774551933372:True:=trivial
theorem tw17310497936387608819:True:=trivial
theorem tw725728584488078395:True:=trivial
theorem tw2808588948476867588:True:=trivial
theorem tw4845014865691775887:True:=trivial
theorem tw7049413056530038271:True:=trivial
theorem tw11249045506943904583:True:=trivial
theorem tw2754184592835192539:True:=trivial
theorem tw15568833660734999604:True:=trivial
theorem tw11605867422130649227:True:=trivial
theorem tw16896268989837308829:True:=trivial
theorem tw6029944525343716517:True:=trivial
theorem tw14229030357142098103:True:=trivial
theorem tw4748021934683160918:True:=trivial
theorem tw15266399952679418008:True:=trivial
theorem tw17577273838140884970:True:=trivial
theorem tw11472581974057700719:True:=trivial
theorem tw16094031283110600157:True:=trivial
theorem tw16405122002203669961:True:=trivial
theorem tw642308185393424459:True:=trivial
theorem tw6341316667593454926:True:=trivial
theorem tw10945402121314309984:True:=trivial
theorem tw1206887381330655132:True:=trivial
theorem tw9264259269628252643:True:=trivial
theorem tw1740473406619689440:True:=trivial
theorem tw16539042092567600652:True:=trivial
theorem tw4771253512792301645:True:=trivial
theorem tw5379880132618315468:True:=trivial
theorem tw15681554863413591260:True:=trivial
theorem tw14584925336671758580:True:=trivial
theorem tw6636884344786858901:True:=trivial
theorem tw13165672107935122159:True:=trivial
theorem tw12486467597883676782:True:=trivial
theorem tw9977174497546029550:True:=trivial
theorem tw14686740367009152141:True:=trivial
theorem tw10787980178164806311:True:=trivial
theorem tw2838425961129504811:True:=trivial
theorem tw12725487401088372194:True:=trivial
theorem tw7759949844459863952:True:=trivial
theorem tw10370216990532865978:True:=trivial
theorem tw8623894398232658047:True:=trivial
theorem tw17018476565746453426:True:=trivial
theorem tw1967419531029770982:True:=trivial
theorem tw12636584429892085991:True:=trivial
theorem tw4529009555534041373:True:=trivial
theorem tw16421184063993764695:True:=trivial
theorem tw5721722001897967480:True:=trivial
theorem tw7409792015084665515:True:=trivial
theorem tw644832693686174615:True:=trivial
theorem tw822597781726439995:True:=trivial
theorem tw15321496077242438478:True:=trivial
theorem tw5272838643566607997:True:=trivial
theorem tw2969580195461002102:True:=trivial
theorem tw4661267584406303832:True:=trivial
theorem tw17377975862081701180:True:=trivial
theorem tw8376393337305004029:True:=trivial
theorem tw6447358342202034850:True:=trivial
theorem tw10892385403601959844:True:=trivial
theorem tw1059378538481519869:True:=trivial
theorem tw14942463025729069731:True:=trivial
theorem tw12707794607022140808:True:=trivial
theorem tw13755415402065568296:True:=trivial
theorem tw13366336643043132283:True:=trivial
theorem tw11237039499960866782:True:=trivial
theorem tw50853810491141387:True:=trivial
theorem tw6484261834155877937:True:=trivial
theorem tw17925868701491205848:True:=trivial
theorem tw14617969155512372960:True:=trivial
theorem tw5545079880855675012:True:=trivial
theorem tw11174631275034023504:True:=trivial
theorem tw10167379949253453982:True:=trivial
theorem tw2560417929006457837:True:=trivial
theorem tw6093984837784712751:True:=trivial
theorem tw9196023032152181841:True:=trivial
theorem tw11323105588985743482:True:=trivial
theorem tw769500512219064605:True:=trivial
theorem tw2573083400657647161:True:=trivial
theorem tw3932686597791530796:True:=trivial
theorem tw16160246837275160090:True:=trivial
theorem tw7144932488377260370:True:=trivial
theorem tw17284758802641235109:True:=trivial
theorem tw13459740285637974829:True:=trivial
theorem tw4261024789099842644:True:=trivial
theorem tw16949217432604826918:True:=trivial
theorem tw6239217598180419886:True:=trivial
theorem tw8274642993804805920:True:=trivial
theorem tw13448933679490150120:True:=trivial
theorem tw10898883240503398091:True:=trivial
theorem tw12861996893889300480:True:=trivial
theorem tw3120207987430601875:True:=trivial
theorem tw8653309530996098655:True:=trivial
theorem tw2448221517103636959:True:=trivial
theorem tw4103258096422278653:True:=trivial
theorem tw8107617627104635536:True:=trivial
theorem tw16311848697019944277:True:=trivial
theorem tw16140540086056654118:True:=trivial
theorem tw1583955282906522416:True:=trivial
end PySem.W.Fast
open PySem PySem.W PyProof.Rows
set_option maxRecDepth 100000 in
set_option maxHeartbeats 0 in
theorem PySem.Challenge.cw_currentfloor_k05_nets_refused_in_order_holds : PySem.Challenge.rw_currentfloor_k05_nets_refused_in_order.Holds := by
  w_on; o_law; k_head; (case hw => w_witness2)
  k_fill
  refine My.walk (l := PySem.Challenge.rw_currentfloor_k05_nets_refused_in_order) rfl rfl (fun w h Y => ⟨PySem.W.km_in_of Y, PySem.W.km_tabs_of Y _ (List.mem_singleton_self _)⟩) ?F
  case F =>
    intro w mg fa h KX G hmg
    refine' My.all_mk KX G hmg ?a1 ?l1 ?c1 ?k1 ?a2 ?l2 ?c2 ?k2 ?a3 ?l3 ?c3 ?k3 ?a4 ?l4 ?c4 ?k4 ?a5 ?l5 ?c5 ?k5 ?a6 ?l6 ?c6 ?k6 ?a7 ?l7 ?c7 ?k7 ?a8 ?l8 ?c8 ?k8 ?a9 ?l9 ?c9 ?k9 ?a10 ?l10 ?c10 ?k10 ?a11 ?l11 ?c11 ?k11 ?a12 ?l12 ?c12 ?k12 ?a13 ?l13 ?c13 ?k13 ?a14 ?l14 ?c14 ?k14 ?a15 ?l15 ?c15 ?k15 ?a16 ?l16 ?c16 ?k16 ?a17 ?l17 ?c17 ?k17 ?a18 ?l18 ?c18 ?k18 ?a19 ?l19 ?c19 ?k19 ?a20 ?l20 ?c20 ?k20 ?a21 ?l21 ?c21 ?k21 ?a22 ?l22 ?c22 ?k22 ?a23 ?l23 ?c23 ?k23 ?a24 ?l24 ?c24 ?k24 ?a25 ?l25 ?c25 ?k25 ?a26 ?l26 ?c26 ?k26 ?a27 ?l27 ?c27 ?k27 ?a28 ?l28 ?c28 ?k28 ?a29 ?l29 ?c29 ?k29 ?a30 ?l30 ?c30 ?k30 ?a31 ?l31 ?c31 ?k31 ?a32 ?l32 ?c32 ?k32 ?a33 ?l33 ?c33 ?k33 ?a34 ?l34 ?c34 ?k34 ?a35 ?l35 ?c35 ?k35 ?a36 ?l36 ?c36 ?k36 ?a37 ?l37 ?c37 ?k37 ?a38 ?i38 ?l38 ?c38 ?k38 ?a39 ?i39 ?l39 ?c39 ?k39 ?a40 ?i40 ?l40 ?c40 ?k40 ?a41 ?i41 ?l41 ?c41 ?k41 ?a42 ?i42 ?l42 ?c42 ?k42 ?aCF ?aCN ?aCR ?aCT ?aCL ?aCX ?xN ?eN ?xR ?eR ?xT ?eT ?xL ?eL ?xX ?eX ?sN1 ?sN2 ?sN_word ?yNV ?yNN ?yNR ?yNT ?yNL ?yNX ?gN1 ?gN2 ?gN3 ?gN6 ?gN7 ?gN8 ?gN9 ?sR1 ?sR2 ?sR_rope ?sR_word ?yRV ?yRN ?yRR ?yRT ?yRL ?yRX ?gR1 ?gR2 ?gR3 ?gR6 ?gR7 ?gR8 ?gR9 ?sT1 ?sT2 ?sT_place ?yTV ?yTN ?yTR ?yTT ?yTL ?yTX ?gT1 ?gT2 ?gT3 ?gT6 ?gT7 ?gT8 ?gT9 ?sL1 ?sL2 ?sL_place ?yLV ?yLN ?yLR ?yLT ?yLL ?yLX ?gL1 ?gL2 ?gL3 ?gL6 ?gL7 ?gL8 ?gL9 ?sX1 ?sX2 ?sX_lands ?yXV ?yXN ?yXR ?yXT ?yXL ?yXX ?gX1 ?gX2 ?gX3 ?gX6 ?gX7 ?gX8 ?gX9 ?g4 ?g5 ?xcd ?xkt ?xhd ?z_abs ?z_len ?z_range ?z_list ?z_tuple ?z_enumerate ?z_min ?z_max ?z_sorted ?z_isinstance ?z_int ?z_ValueError
    (case aCF => k_is)
    (case aCN => k_is)
    (case aCR => k_is)
    (case aCT => k_is)
    (case aCL => k_is)
    (case aCX => k_is)
    (case a1 => k_is)
    (case l1 => k_is)
    (case c1 => k_is)
    (case k1 => k_is)
    (case a2 => k_is)
    (case l2 => k_is)
    (case c2 => k_is)
    (case k2 => k_is)
    (case a3 => k_is)
    (case l3 => k_is)
    (case c3 => k_is)
    (case k3 => k_is)
    (case a4 => k_is)
    (case l4 => k_is)
    (case c4 => k_is)
    (case k4 => k_is)
    (case a5 => k_is)
    (case l5 => k_is)
    (case c5 => k_is)
    (case k5 => k_is)
    (case a6 => k_is)
    (case l6 => k_is)
    (case c6 => k_is)
    (case k6 => k_is)
    (case a7 => k_is)
    (case l7 => k_is)
    (case c7 => k_is)
    (case k7 => k_is)
    (case a8 => k_is)
    (case l8 => k_is)
    (case c8 => k_is)
    (case k8 => k_is)
    (case a9 => k_is)
    (case l9 => k_is)
    (case c9 => k_is)
    (case k9 => k_is)
    (case a10 => k_is)
    (case l10 => k_is)
    (case c10 => k_is)
    (case k10 => k_is)
    (case a11 => k_is)
    (case l11 => k_is)
    (case c11 => k_is)
    (case k11 => k_is)
    (case a12 => k_is)
    (case l12 => k_is)
    (case c12 => k_is)
    (case k12 => k_is)
    (case a13 => k_is)
    (case l13 => k_is)
    (case c13 => k_is)
    (case k13 => k_is)
    (case a14 => k_is)
    (case l14 => k_is)
    (case c14 => k_is)
    (case k14 => k_is)
    (case a15 => k_is)
    (case l15 => k_is)
    (case c15 => k_is)
    (case k15 => k_is)
    (case a16 => k_is)
    (case l16 => k_is)
    (case c16 => k_is)
    (case k16 => k_is)
    (case a17 => k_is)
    (case l17 => k_is)
    (case c17 => k_is)
    (case k17 => k_is)
    (case a18 => k_is)
    (case l18 => k_is)
    (case c18 => k_is)
    (case k18 => k_is)
    (case a19 => k_is)
    (case l19 => k_is)
    (case c19 => k_is)
    (case k19 => k_is)
    (case a20 => k_is)
    (case l20 => k_is)
    (case c20 => k_is)
    (case k20 => k_is)
    (case a21 => k_is)
    (case l21 => k_is)
    (case c21 => k_is)
    (case k21 => k_is)
    (case a22 => k_is)
    (case l22 => k_is)
    (case c22 => k_is)
    (case k22 => k_is)
    (case a23 => k_is)
    (case l23 => k_is)
    (case c23 => k_is)
    (case k23 => k_is)
    (case a24 => k_is)
    (case l24 => k_is)
    (case c24 => k_is)
    (case k24 => k_is)
    (case a25 => k_is)
    (case l25 => k_is)
    (case c25 => k_is)
    (case k25 => k_is)
    (case a26 => k_is)
    (case l26 => k_is)
    (case c26 => k_is)
    (case k26 => k_is)
    (case a27 => k_is)
    (case l27 => k_is)
    (case c27 => k_is)
    (case k27 => k_is)
    (case a28 => k_is)
    (case l28 => k_is)
    (case c28 => k_is)
    (case k28 => k_is)
    (case a29 => k_is)
    (case l29 => k_is)
    (case c29 => k_is)
    (case k29 => k_is)
    (case a30 => k_is)
    (case l30 => k_is)
    (case c30 => k_is)
    (case k30 => k_is)
    (case a31 => k_is)
    (case l31 => k_is)
    (case c31 => k_is)
    (case k31 => k_is)
    (case a32 => k_is)
    (case l32 => k_is)
    (case c32 => k_is)
    (case k32 => k_is)
    (case a33 => k_is)
    (case l33 => k_is)
    (case c33 => k_is)
    (case k33 => k_is)
    (case a34 => k_is)
    (case l34 => k_is)
    (case c34 => k_is)
    (case k34 => k_is)
    (case a35 => k_is)
    (case l35 => k_is)
    (case c35 => k_is)
    (case k35 => k_is)
    (case a36 => k_is)
    (case l36 => k_is)
    (case c36 => k_is)
    (case k36 => k_is)
    (case a37 => k_is)
    (case l37 => k_is)
    (case c37 => k_is)
    (case k37 => k_is)
    (case a38 => k_is)
    (case i38 => k_is)
    (case l38 => k_is)
    (case c38 => k_is)
    (case k38 => k_is)
    (case a39 => k_is)
    (case i39 => k_is)
    (case l39 => k_is)
    (case c39 => k_is)
    (case k39 => k_is)
    (case a40 => k_is)
    (case i40 => k_is)
    (case l40 => k_is)
    (case c40 => k_is)
    (case k40 => k_is)
    (case a41 => k_is)
    (case i41 => k_is)
    (case l41 => k_is)
    (case c41 => k_is)
    (case k41 => k_is)
    (case a42 => k_is)
    (case i42 => k_is)
    (case l42 => k_is)
    (case c42 => k_is)
    (case k42 => k_is)
    (case xN => kernel_rfl)
    (case eN => kernel_rfl)
    (case xR => kernel_rfl)
    (case eR => kernel_rfl)
    (case xT => kernel_rfl)
    (case eT => kernel_rfl)
    (case xL => kernel_rfl)
    (case eL => kernel_rfl)
    (case xX => kernel_rfl)
    (case eX => kernel_rfl)
    (case sN1 => first | k_is | kernel_rfl)
    (case sN2 => kernel_rfl)
    (case sN_word => first | k_is | kernel_rfl)
    (case yNV => kernel_rfl)
    (case yNN => kernel_rfl)
    (case yNR => kernel_rfl)
    (case yNT => kernel_rfl)
    (case yNL => kernel_rfl)
    (case yNX => kernel_rfl)
    (case gN1 => first | k_is | kernel_rfl)
    (case gN2 => first | k_is | kernel_rfl)
    (case gN3 => first | k_is | kernel_rfl)
    (case gN6 => first | k_is | kernel_rfl)
    (case gN7 => first | k_is | kernel_rfl)
    (case gN8 => first | k_is | kernel_rfl)
    (case gN9 => kernel_rfl)
    (case sR1 => first | k_is | kernel_rfl)
    (case sR2 => kernel_rfl)
    (case sR_rope => first | k_is | kernel_rfl)
    (case sR_word => first | k_is | kernel_rfl)
    (case yRV => kernel_rfl)
    (case yRN => kernel_rfl)
    (case yRR => kernel_rfl)
    (case yRT => kernel_rfl)
    (case yRL => kernel_rfl)
    (case yRX => kernel_rfl)
    (case gR1 => first | k_is | kernel_rfl)
    (case gR2 => first | k_is | kernel_rfl)
    (case gR3 => first | k_is | kernel_rfl)
    (case gR6 => first | k_is | kernel_rfl)
    (case gR7 => first | k_is | kernel_rfl)
    (case gR8 => first | k_is | kernel_rfl)
    (case gR9 => kernel_rfl)
    (case sT1 => first | k_is | kernel_rfl)
    (case sT2 => kernel_rfl)
    (case sT_place => first | k_is | kernel_rfl)
    (case yTV => kernel_rfl)
    (case yTN => kernel_rfl)
    (case yTR => kernel_rfl)
    (case yTT => kernel_rfl)
    (case yTL => kernel_rfl)
    (case yTX => kernel_rfl)
    (case gT1 => first | k_is | kernel_rfl)
    (case gT2 => first | k_is | kernel_rfl)
    (case gT3 => first | k_is | kernel_rfl)
    (case gT6 => first | k_is | kernel_rfl)
    (case gT7 => first | k_is | kernel_rfl)
    (case gT8 => first | k_is | kernel_rfl)
    (case gT9 => kernel_rfl)
    (case sL1 => first | k_is | kernel_rfl)
    (case sL2 => kernel_rfl)
    (case sL_place => first | k_is | kernel_rfl)
    (case yLV => kernel_rfl)
    (case yLN => kernel_rfl)
    (case yLR => kernel_rfl)
    (case yLT => kernel_rfl)
    (case yLL => kernel_rfl)
    (case yLX => kernel_rfl)
    (case gL1 => first | k_is | kernel_rfl)
    (case gL2 => first | k_is | kernel_rfl)
    (case gL3 => first | k_is | kernel_rfl)
    (case gL6 => first | k_is | kernel_rfl)
    (case gL7 => first | k_is | kernel_rfl)
    (case gL8 => first | k_is | kernel_rfl)
    (case gL9 => kernel_rfl)
    (case sX1 => first | k_is | kernel_rfl)
    (case sX2 => kernel_rfl)
    (case sX_lands => first | k_is | kernel_rfl)
    (case yXV => kernel_rfl)
    (case yXN => kernel_rfl)
    (case yXR => kernel_rfl)
    (case yXT => kernel_rfl)
    (case yXL => kernel_rfl)
    (case yXX => kernel_rfl)
    (case gX1 => first | k_is | kernel_rfl)
    (case gX2 => first | k_is | kernel_rfl)
    (case gX3 => first | k_is | kernel_rfl)
    (case gX6 => first | k_is | kernel_rfl)
    (case gX7 => first | k_is | kernel_rfl)
    (case gX8 => first | k_is | kernel_rfl)
    (case gX9 => kernel_rfl)
    (case g4 => first | k_is | kernel_rfl)
    (case g5 => first | k_is | kernel_rfl)
    (case xcd => rfl)
    (case xkt => kernel_rfl)
    (case xhd => kernel_rfl)
    (case z_abs => k_is)
    (case z_len => k_is)
    (case z_range => k_is)
    (case z_list => k_is)
    (case z_tuple => k_is)
    (case z_enumerate => k_is)
    (case z_min => k_is)
    (case z_max => k_is)
    (case z_sorted => k_is)
    (case z_isinstance => k_is)
    (case z_int => k_is)
    (case z_ValueError => k_is)
