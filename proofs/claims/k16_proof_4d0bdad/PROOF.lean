import PyProof.Rows.All
import Wide.All
import OpenK.AllK
import Wide.FinOn
import Lean
import PyProof.EqAt
import PyProof.EqKinds
import PyProof.TupleCall
import PySem.Challenge.RW_currentfloor_k16_whole_between_and_easie
noncomputable section
set_option Elab.async false
set_option linter.all false
set_option maxRecDepth 100000
namespace L2
open PySem PySem.Spec PyProof.Rows
abbrev Key:=Sum Int Str
def keyIs:Key->Value->Bool
 | .inl k,v=>Value.isInt k v
 | .inr x,v=>Value.isStrOf x v
def keyH (w:World):Key->Int
 | .inl k=>hashInt k
 | .inr x=>hashStr w x
theorem keyIs_shape:∀ {k:Key} {v:Value},keyIs k v=true->(∃ i t,k=Sum.inl i∧v=Value.int i t)∨(∃ x t,k=Sum.inr x∧v=Value.str x t)
 | .inl i,v,h=>by
  obtain ⟨t,e⟩:=Value.isInt_shape (k:=i) (v:=v) h
  exact .inl ⟨i,t,rfl,e⟩
 | .inr x,v,h=>by
  obtain ⟨t,e⟩:=Value.isStrOf_shape (x:=x) (v:=v) h
  exact .inr ⟨x,t,rfl,e⟩
theorem keyIs_int (i:Int) (t:Tok):keyIs (.inl i) (.int i t)=true:=by simp [keyIs,Value.isInt]
theorem keyIs_str (x:Str) (t:Tok):keyIs (.inr x) (.str x t)=true:=by simp [keyIs,Value.isStrOf]
theorem key_ll (a b:Int):decide ((Sum.inl a:Key)=Sum.inl b)=(a == b):=by
 by_cases e:a=b
 ·subst e; simp
 ·have h:¬ (Sum.inl a:Key)=Sum.inl b:=fun q=>e (Sum.inl.inj q)
  rw [decide_eq_false h]
  exact (beq_eq_false_iff_ne.mpr e).symm
theorem key_rr (a b:Str):decide ((Sum.inr a:Key)=Sum.inr b)=decide (a=b):=by
 by_cases e:a=b
 ·subst e; simp
 ·have h:¬ (Sum.inr a:Key)=Sum.inr b:=fun q=>e (Sum.inr.inj q)
  rw [decide_eq_false h,decide_eq_false e]
theorem key_lr (a:Int) (b:Str):decide ((Sum.inl a:Key)=Sum.inr b)=false:=decide_eq_false (fun q=>nomatch q)
theorem key_rl (a:Str) (b:Int):decide ((Sum.inr a:Key)=Sum.inl b)=false:=decide_eq_false (fun q=>nomatch q)
def mixKind (prog:Program) (w:World):PySem.KeyKind prog w Key where
 is:=keyIs
 hash:=keyH w
 inj:=fun v a b ha hb=>by
  rcases keyIs_shape ha with ⟨i,t,rfl,rfl⟩ | ⟨x,t,rfl,rfl⟩
  ·rcases keyIs_shape hb with ⟨j,u,rfl,e⟩ | ⟨y,u,rfl,e⟩
   ·injection e with e1 _; rw [e1]
   ·exact nomatch e
  ·rcases keyIs_shape hb with ⟨j,u,rfl,e⟩ | ⟨y,u,rfl,e⟩
   ·exact nomatch e
   ·injection e with e1 _; rw [e1]
 byValue:=fun k v h=>by
  rcases keyIs_shape h with ⟨i,t,rfl,rfl⟩ | ⟨x,t,rfl,rfl⟩ <;> rfl
 pyHash:=fun hv h=>by
  rcases keyIs_shape hv with ⟨i,t,rfl,rfl⟩ | ⟨x,t,rfl,rfl⟩
  ·exact wpAny_pyHash_int h
  ·exact wpAny_pyHash_str h
 eqBool:=fun hu hv h=>by
  rcases keyIs_shape hu with ⟨i,t,rfl,rfl⟩ | ⟨x,t,rfl,rfl⟩
  ·rcases keyIs_shape hv with ⟨j,u,rfl,rfl⟩ | ⟨y,u,rfl,rfl⟩
   ·rw [key_ll] at h; exact wpAny_eqBool_int h
   ·rw [key_lr] at h; exact SeqAt.EqAt.int_str i t y u _ _ _ _ h
  ·rcases keyIs_shape hv with ⟨j,u,rfl,rfl⟩ | ⟨y,u,rfl,rfl⟩
   ·rw [key_rl] at h; exact SeqAt.EqAt.str_int x t j u _ _ _ _ h
   ·rw [key_rr] at h; exact wpAny_eqBool_str h
 «strs»:=fun k x t v h=>by
  rcases keyIs_shape h with ⟨i,u,rfl,e⟩ | ⟨y,u,rfl,e⟩
  ·exact nomatch e
  ·injection e with e1 _
   subst e1
   cases v <;> rfl
theorem mixKind_int (prog:Program) (w:World) (i:Int) (t:Tok):(mixKind prog w).is (.inl i) (.int i t)=true:=keyIs_int i t
theorem mixKind_str (prog:Program) (w:World) (x:Str) (t:Tok):(mixKind prog w).is (.inr x) (.str x t)=true:=keyIs_str x t
end L2
namespace L2
open PySem PySem.Spec PyProof.Rows
inductive V where
 | non | bl (b:Bool) | int (i:Int) | str (x:Str) | byt (b:Array UInt8) | flt (b:UInt64) | ref (a:Addr) | ty (n:String)
 deriving DecidableEq
def RelV:V->Value->Prop
 | .non,u=>u=Value.none
 | .bl b,u=>u=Value.bool b
 | .int i,u=>∃ t,u=Value.int i t
 | .str x,u=>∃ t,u=Value.str x t
 | .byt b,u=>∃ t,u=Value.bytes b t
 | .flt b,u=>∃ t,u=Value.float b t
 | .ref a,u=>u=Value.ref a
 | .ty n,u=>u=Value.type n
abbrev Vals:List V->List Value->Prop:=Paired RelV
theorem Vals.length {xs:List V} {us:List Value} (r:Vals xs us):xs.length=us.length:=Paired.length r
theorem Vals.get:∀ {xs:List V} {us:List Value} {i:Nat} {x:V},Vals xs us->xs[i]?=some x->∃ u,us[i]?=some u∧RelV x u
 | _,_,_,_,.nil,e=>by simp at e
 | _,_,0,_,.cons r _,e=>by simp at e; subst e; exact ⟨_,rfl,r⟩
 | _,_,i+1,x,.cons _ t,e=>by
  obtain ⟨u,h1,h2⟩:=Vals.get (i:=i) (x:=x) t (by simpa using e)
  exact ⟨u,by simpa using h1,h2⟩
theorem Vals.set {x:V} {u:Value} (r:RelV x u):∀ {xs:List V} {us:List Value} (i:Nat),Vals xs us->Vals (xs.set i x) (us.set i u)
 | _,_,_,.nil=>.nil
 | _,_,0,.cons _ t=>.cons r t
 | _,_,i+1,.cons q t=>.cons q (Vals.set r i t)
theorem Vals.append:∀ {xs ys:List V} {us ws:List Value},Vals xs us->Vals ys ws->Vals (xs++ys) (us++ws)
 | _,_,_,_,.nil,s=>s
 | _,_,_,_,.cons r t,s=>.cons r (Vals.append t s)
theorem Vals.take:∀ {xs:List V} {us:List Value} (n:Nat),Vals xs us->Vals (xs.take n) (us.take n)
 | _,_,0,_=>.nil
 | _,_,_+1,.nil=>.nil
 | _,_,n+1,.cons r t=>.cons r (Vals.take n t)
theorem Vals.drop:∀ {xs:List V} {us:List Value} (n:Nat),Vals xs us->Vals (xs.drop n) (us.drop n)
 | _,_,0,r=>r
 | _,_,_+1,.nil=>.nil
 | _,_,n+1,.cons _ t=>Vals.drop n t
def RelO:Option V->Option Value->Prop
 | some v,some u=>RelV v u
 | none,none=>True
 | _,_=>False
def KV {κ:Type}:List (κ×V)->List (κ×Value)->Prop:=Paired fun (p:κ×V) (q:κ×Value)=>p.1=q.1∧RelV p.2 q.2
def kV:Key->V
 | .inl i=>.int i
 | .inr x=>.str x
inductive HO where
  | lst (xs:List V)
  | tup (xs:List V)
  | dK (kvs:List (Key×V)) | dT (kvs:List (List Key×V))
  | set (S:Int->Bool) (n:Nat)
  | ins (C dx:Addr) (fs:List (Str×V))
  | own (x:Addr)
  | xd (fs:List (Str×V))
  | met (f x:Addr)
  | rng (lo hi:Int)
  | frz (o:Obj) (u:HO)
  | tbl (ps:Array Value)
  | ext (φ:Heap->Prop)
abbrev Hp:=Addr->Option HO
def upd (H:Hp) (a:Addr) (o:HO):Hp:=fun b=>if b=a then some o else H b
theorem upd_same {H:Hp} {a:Addr} {o:HO}:upd H a o a=some o:=by unfold upd; rw [if_pos rfl]
theorem upd_ne {H:Hp} {a b:Addr} {o:HO} (h:b≠a):upd H a o b=H b:=by unfold upd; rw [if_neg h]
theorem ne_of {H:Hp} {a b:Addr} {o u:HO} (h:H a=some o) (h':H b=some u) (d:o≠u):a≠b:=by
 intro e; subst e; rw [h] at h'; exact d (Option.some.inj h')
theorem ne_of_none {H:Hp} {a b:Addr} {o:HO} (h:H a=some o) (h':H b=none):a≠b:=by
 intro e; subst e; rw [h] at h'; cases h'
section
variable (P:Program) (w:World)
def ObjOk (H:Hp) (h:Heap) (a:Addr):HO->Prop
 | .lst xs=>xs.length≤sizeLine∧∃ (its:List Value) (n:Nat),Vals xs its∧h.get? a=some { cls:=.type "list",data:=.seq its.toArray n }
 | .tup xs=>xs.length≤sizeLine∧∃ its:List Value,Vals xs its∧IsTup h a its.toArray∧∃ o,h.get? a=some o∧o.dict=none
 | .dK kvs=>kvs.length≤sizeLine∧(a == sysModules)=false∧∃ vs,KV kvs vs∧h.DictOf (mixKind P w) a vs
 | .dT kvs=>kvs.length≤sizeLine∧(a == sysModules)=false∧∃ xs:List (List Key×Addr×Value),
   Paired (fun (p:List Key×V) (q:List Key×Addr×Value)=>p.1=q.1∧H q.2.1=some (.tup (p.1.map kV))∧RelV p.2 q.2.2) kvs xs ∧
   ∃ o es ep,h.get? a=some o∧o.ExactDict∧o.data=.dict es ep∧es.toList=xs.map (entryOfKey (tupleKind (mixKind P w)))∧(xs.map (·.1)).Nodup
 | .set S n=>h.SetOf (intKind P w) a S n
 | .ins C dx fs=>H dx=some (.own a)∧fs.length≤1000∧dx≠a∧h.get? a=some (PySem.W.instObj C dx) ∧
   ∃ mA,h.Ns1 dx mA∧(∀ f,RelO (fs.lookup f) (mA f))∧PySem.Within mA (fs.map (·.1))
 | .own _=>∃ o,h.get? a=some o
 | .xd fs=>∃ mA,h.Ns1 a mA∧∀ f,RelO (fs.lookup f) (mA f)
 | .rng lo hi=>∃ t u v,h.get? a=some { cls:=.type "range",data:=.fields #[.int lo t,.int hi u,.int 1 v] }
 | .frz o u=>h.get? a=some o∧ObjOk H h a u
 | .tbl ps=>h.get? a=some { cls:=.none,data:=.fields ps }
 | .met f x=>h.get? a=some (PySem.W.methodObj (.ref f) (.ref x))
 | .ext φ=>φ h∧(∃ o,h.get? a=some o)∧∀ h1 h2:Heap,φ h1->(∀ o,h1.get? a=some o->h2.get? a=some o)->φ h2
def HOk (H:Hp) (h:Heap):Prop:=∀ a o,H a=some o->ObjOk P w H h a o
end
section
variable {P:Program} {w:World} {H H':Hp} {h h':Heap} {a:Addr} {o:HO}
theorem ObjOk.lt (x:ObjOk P w H h a o):a<h.objs.size:=by
 cases o with
 | lst xs=>obtain ⟨_,_,_,_,e⟩:=x; exact Heap.lt_size e
 | tup xs=>obtain ⟨_,_,_,p,_⟩:=x; exact p.lt
 | dK kvs=>obtain ⟨_,_,_,_,o,_,_,e,_⟩:=x; exact Heap.lt_size e
 | dT kvs=>obtain ⟨_,_,_,_,o,_,_,e,_⟩:=x; exact Heap.lt_size e
 | set S n=>obtain ⟨o,_,_,_,e,_⟩:=x; exact Heap.lt_size e
 | ins C dx fs=>obtain ⟨_,_,_,e,_⟩:=x; exact Heap.lt_size e
 | own y=>obtain ⟨_,e⟩:=x; exact Heap.lt_size e
 | xd fs=>obtain ⟨_,⟨_,_,_,e,_⟩,_⟩:=x; exact Heap.lt_size e
 | rng lo hi=>obtain ⟨_,_,_,e⟩:=x; exact Heap.lt_size e
 | frz ob u=>obtain ⟨e,_⟩:=x; exact Heap.lt_size e
 | tbl ps=>exact Heap.lt_size (show h.get? a=some _ from x)
 | met f y=>exact Heap.lt_size (show h.get? a=some _ from x)
 | ext φ=>obtain ⟨_,⟨_,e⟩,_⟩:=x; exact Heap.lt_size e
theorem Paired.mapP {α β:Type} {F G:α->β->Prop}:∀ {l₁:List α} {l₂:List β},Paired F l₁ l₂->(∀ a b,F a b->G a b)->Paired G l₁ l₂
 | _,_,.nil,_=>.nil
 | _,_,.cons r t,f=>.cons (f _ _ r) (Paired.mapP t f)
theorem ObjOk.stay (x:ObjOk P w H h a o) (k:∀ b u,(b=a∨H b=some (.own a))->h.get? b=some u->h'.get? b=some u)
  (ho:∀ b,H b=some (.own a)->H' b=some (.own a)) (ht:∀ b xs,H b=some (.tup xs)->H' b=some (.tup xs)):ObjOk P w H' h' a o:=by
 induction o with
 | lst xs=>obtain ⟨z,its,n,r,e⟩:=x; exact ⟨z,its,n,r,k _ _ (.inl rfl) e⟩
 | tup xs=>obtain ⟨z,its,r,⟨ob,e,c⟩,ob2,e2,c2⟩:=x; exact ⟨z,its,r,⟨ob,k _ _ (.inl rfl) e,c⟩,ob2,k _ _ (.inl rfl) e2,c2⟩
 | dK kvs=>obtain ⟨z,y,vs,r,ob,es,ep,e,c⟩:=x; exact ⟨z,y,vs,r,ob,es,ep,k _ _ (.inl rfl) e,c⟩
 | dT kvs =>
  obtain ⟨z,y,xs,r,ob,es,ep,e,c⟩:=x
  exact ⟨z,y,xs,Paired.mapP r fun p q z=>⟨z.1,ht _ _ z.2.1,z.2.2⟩,ob,es,ep,k _ _ (.inl rfl) e,c⟩
 | set S n=>obtain ⟨ob,es,ep,t,e,c⟩:=x; exact ⟨ob,es,ep,t,k _ _ (.inl rfl) e,c⟩
 | ins C dx fs =>
  obtain ⟨d,z,ne,e,mA,⟨od,es,ep,e2,c⟩,r⟩:=x
  exact ⟨ho _ d,z,ne,k _ _ (.inl rfl) e,mA,⟨od,es,ep,k _ _ (.inr d) e2,c⟩,r⟩
 | own y=>obtain ⟨ob,e⟩:=x; exact ⟨ob,k _ _ (.inl rfl) e⟩
 | xd fs=>obtain ⟨mA,⟨od,es,ep,e,c⟩,r⟩:=x; exact ⟨mA,⟨od,es,ep,k _ _ (.inl rfl) e,c⟩,r⟩
 | rng lo hi=>obtain ⟨t,u,v,e⟩:=x; exact ⟨t,u,v,k _ _ (.inl rfl) e⟩
 | frz ob u ih=>obtain ⟨e,q⟩:=x; exact ⟨k _ _ (.inl rfl) e,ih q⟩
 | tbl ps =>
  have e:h.get? a=some { cls:=.none,data:=.fields ps }:=x
  show h'.get? a=some { cls:=.none,data:=.fields ps }
  exact k a _ (.inl rfl) e
 | met f y =>
  have e:h.get? a=some (PySem.W.methodObj (.ref f) (.ref y)):=x
  show h'.get? a=some (PySem.W.methodObj (.ref f) (.ref y))
  exact k a _ (.inl rfl) e
 | ext φ=>obtain ⟨p,⟨o,e⟩,st⟩:=x; exact ⟨st _ _ p fun o q=>k _ _ (.inl rfl) q,⟨o,k _ _ (.inl rfl) e⟩,st⟩
theorem HOk.lt (x:HOk P w H h) (e:H a=some o):a<h.objs.size:=(x a o e).lt
theorem HOk.fresh (x:HOk P w H h) (e:h.objs.size≤a):H a=none:=by
 cases q:H a with
 | none=>rfl
 | some u=>exact absurd (Nat.lt_of_lt_of_le (x.lt q) e) (Nat.lt_irrefl _)
theorem HOk.kept (x:HOk P w H h) (k:∀ b u,h.get? b=some u->h'.get? b=some u):HOk P w H h':=fun a o e =>
 (x a o e).stay (fun b u _ q=>k b u q) (fun _ q=>q) fun _ _ q=>q
theorem HOk.laid (x:HOk P w H h) (k:∀ b u,h.get? b=some u->h'.get? b=some u) (hp:h.objs.size≤a) (new:ObjOk P w (upd H a o) h' a o):HOk P w (upd H a o) h':=fun b u e=>by
 have hn:=x.fresh hp
 by_cases hb:b=a
 ·subst hb; rw [upd_same] at e; cases e; exact new
 ·rw [upd_ne hb] at e
  exact (x b u e).stay (fun c v _ q=>k c v q) (fun c q=>by rw [upd_ne (ne_of_none q hn)]; exact q) fun c xs q=>by rw [upd_ne (ne_of_none q hn)]; exact q
end
def Rd (H:Hp) (a:Addr) (u:HO):Prop:=H a=some u∨∃ o,H a=some (.frz o u)
theorem Rd.of {H:Hp} {a:Addr} {u:HO} (h:H a=some u):Rd H a u:=.inl h
theorem Rd.ok {P:Program} {w:World} {H:Hp} {h:Heap} {a:Addr} {u:HO} (r:Rd H a u) (x:HOk P w H h):ObjOk P w H h a u:=by
 rcases r with r | ⟨o,r⟩
 ·exact x a u r
 ·obtain ⟨_,q⟩:=x a _ r
  exact q
def Mut:Option HO->Prop
 | some (.lst _)=>True
 | some (.dK _)=>True
 | some (.dT _)=>True
 | some (.set _ _)=>True
 | some (.ins _ _ _)=>True
 | some (.ext _)=>True
 | _=>False
section
variable {P:Program} {w:World} {H:Hp} {h h':Heap} {x e:Addr} {o':HO}
theorem HOk.write (ok:HOk P w H h) (mu:Mut (H x)) (he:e=x∨H e=some (.own x)) (k:∀ b u,b≠e->h.get? b=some u->h'.get? b=some u) (heo:∃ u,h'.get? e=some u)
  (new:ObjOk P w (upd H x o') h' x o'):HOk P w (upd H x o') h':=fun b u q=>by
 have nown:∀ c y,H c=some (.own y)->c≠x:=fun c y r z=>by subst z; rw [r] at mu; exact mu
 have ntup:∀ c xs,H c=some (.tup xs)->c≠x:=fun c xs r z=>by subst z; rw [r] at mu; exact mu
 by_cases hb:b=x
 ·subst hb; rw [upd_same] at q; cases q; exact new
 ·rw [upd_ne hb] at q
  by_cases hbe:b=e
  ·have q':H b=some (.own x):=by
    rcases he with z | z
    ·exact absurd (hbe.trans z) hb
    ·rw [hbe]; exact z
   rw [q] at q'; cases q'
   obtain ⟨v,hv⟩:=heo
   exact ⟨v,by rw [hbe]; exact hv⟩
  ·refine (ok b u q).stay (fun c v hc r=>k c v ?_ r) (fun c r=>by rw [upd_ne (nown c b r)]; exact r) fun c xs r=>by rw [upd_ne (ntup c xs r)]; exact r
   rcases hc with rfl | hc
   ·exact hbe
   ·rintro rfl
    rcases he with z | z
    ·exact nown c b hc z
    ·rw [hc] at z; cases z; exact hb rfl
end
structure Un (fs ex:List Addr) (H H':Hp) (h h':Heap):Prop where
 keep:∀ b o,h.get? b=some o->H b=none->b∉fs->b∉ex->h'.get? b=some o
 slot:∀ b o,h.get? b=some o->H b=none->b∈fs->b∉ex->∃ sl,h'.get? b=some { o with slots:=sl }
 free:∀ b o,h.get? b=some o->H b=none->b∉ex->H' b=none
 there:∀ b o,h.get? b=some o->b∉ex->∃ o',h'.get? b=some o'
 tups:∀ b xs,H b=some (.tup xs)->H' b=some (.tup xs)
 frzs:∀ b o u,H b=some (.frz o u)->H' b=some (.frz o u)
 tbls:∀ b ps,H b=some (.tbl ps)->∃ more,H' b=some (.tbl (ps++more))
section
variable {fs fs' ex ex':List Addr} {H H1 H2:Hp} {h h1 h2 h':Heap} {a x e:Addr} {o:HO}
theorem Un.any (u:Un fs ex H H1 h h1) {b:Addr} {ob:Obj} (q:h.get? b=some ob) (n:H b=none) (hx:b∉ex):∃ sl,h1.get? b=some { ob with slots:=sl }:=by
 by_cases hb:b∈fs
 ·exact u.slot b ob q n hb hx
 ·exact ⟨ob.slots,u.keep b ob q n hb hx⟩
theorem Un.trans (a:Un fs ex H H1 h h1) (b:Un fs ex H1 H2 h1 h2):Un fs ex H H2 h h2 where
 keep:=fun c ob q n hc hx=>b.keep c ob (a.keep c ob q n hc hx) (a.free c ob q n hx) hc hx
 slot:=fun c ob q n hc hx=>by
  obtain ⟨sl,e1⟩:=a.slot c ob q n hc hx
  obtain ⟨sl',e2⟩:=b.slot c _ e1 (a.free c ob q n hx) hc hx
  exact ⟨sl',e2⟩
 free:=fun c ob q n hx=>by
  obtain ⟨o',e1⟩:=a.there c ob q hx
  exact b.free c o' e1 (a.free c ob q n hx) hx
 there:=fun c ob q hx=>by
  obtain ⟨o',e1⟩:=a.there c ob q hx
  exact b.there c o' e1 hx
 tups:=fun c xs q=>b.tups c xs (a.tups c xs q)
 frzs:=fun c ob xs q=>b.frzs c ob xs (a.frzs c ob xs q)
 tbls:=fun c ps q=>by
  obtain ⟨m1,e1⟩:=a.tbls c ps q
  obtain ⟨m2,e2⟩:=b.tbls c _ e1
  exact ⟨m1++m2,by rw [e2,Array.append_assoc]⟩
theorem Un.kept (k:∀ b u,h.get? b=some u->h'.get? b=some u):Un fs ex H H h h' :=
 ⟨fun b ob q _ _ _=>k b ob q,fun b ob q _ _ _=>⟨ob.slots,k b ob q⟩,fun _ _ _ n _=>n,fun b ob q _=>⟨ob,k b ob q⟩,fun _ _ q=>q,fun _ _ _ q=>q,fun _ ps q=>⟨#[],by rw [q]; simp⟩⟩
theorem Un.refl:Un fs ex H H h h:=Un.kept fun _ _ q=>q
theorem Un.laid (k:∀ b u,h.get? b=some u->h'.get? b=some u) (hp:h.objs.size≤a) (hn:H a=none):Un fs ex H (upd H a o) h h' where
 keep:=fun b u q _ _ _=>k b u q
 slot:=fun b u q _ _ _=>⟨u.slots,k b u q⟩
 free:=fun b u q n _=>by rw [upd_ne (Nat.ne_of_lt (Nat.lt_of_lt_of_le (Heap.lt_size q) hp))]; exact n
 there:=fun b u q _=>⟨u,k b u q⟩
 tups:=fun b xs q=>by rw [upd_ne (ne_of_none q hn)]; exact q
 frzs:=fun b u xs q=>by rw [upd_ne (ne_of_none q hn)]; exact q
 tbls:=fun b ps q=>⟨#[],by rw [upd_ne (ne_of_none q hn),q]; simp⟩
theorem Un.write (mu:Mut (H x)) (he:e=x∨H e=some (.own x)) (k:∀ b u,b≠e->h.get? b=some u->h'.get? b=some u) (heo:∃ u,h'.get? e=some u):Un fs ex H (upd H x o) h h':=by
 have hx:∀ b,H b=none->b≠x:=fun b n z=>by subst z; rw [n] at mu; exact mu
 have hb:∀ b,H b=none->b≠e:=fun b n z=>by
  subst z
  rcases he with r | r
  ·exact hx b n r
  ·rw [n] at r; cases r
 have hm:∀ b u,H b=some u->¬ Mut (some u)->b≠x:=fun b u q nm z=>by subst z; rw [q] at mu; exact nm mu
 refine ⟨fun b u q n _ _=>k b u (hb b n) q,fun b u q n _ _=>⟨u.slots,k b u (hb b n) q⟩,fun b u q n _=>by rw [upd_ne (hx b n)]; exact n,fun b u q _=>?_,
  fun b xs q=>by rw [upd_ne (hm b _ q fun z=>z)]; exact q,fun b u xs q=>by rw [upd_ne (hm b _ q fun z=>z)]; exact q,fun b ps q=>⟨#[],by rw [upd_ne (hm b _ q fun z=>z),q]; simp⟩⟩
 by_cases hbe:b=e
 ·subst hbe; exact heo
 ·exact ⟨u,k b u hbe q⟩
theorem Un.mono (u:Un fs ex H H1 h h1) (hs:∀ b∈fs,b∈fs') (hx:∀ b∈ex,b∈ex'):Un fs' ex' H H1 h h1 :=
 ⟨fun b ob q n hb he=>u.keep b ob q n (fun z=>hb (hs b z)) fun z=>he (hx b z),fun _ _ q n _ he=>u.any q n fun z=>he (hx _ z),fun b ob q n he=>u.free b ob q n fun z=>he (hx b z),fun b ob q he=>u.there b ob q fun z=>he (hx b z),u.tups,u.frzs,u.tbls⟩
end
def trk (h:Heap) (H:Hp):List Addr:=(List.range h.objs.size).filter fun a=>(H a).isSome
def hidT (h:Heap) (H:Hp):Heap:=PySem.W.hideAll h (trk h H)
theorem hidT_size (h:Heap) (H:Hp):(hidT h H).objs.size=h.objs.size:=PySem.W.hideAll_size _ _
theorem hidT_get {h:Heap} {H:Hp} {b:Addr} {o:Obj} (e:h.get? b=some o) (n:H b=none):(hidT h H).get? b=some o :=
 PySem.W.hideAll_get _ e fun hm=>by
  have q:(H b).isSome=true:=(List.mem_filter.mp hm).2
  rw [n] at q; simp at q
theorem of_hidT {h:Heap} {H:Hp} {b:Addr} {o:Obj} (e:(hidT h H).get? b=some o):h.get? b=some o∧H b=none:=by
 have e':h.get? b=some o:=PySem.W.of_hideAll (trk h H) e
 refine ⟨e',?_⟩
 cases q:H b with
 | none=>rfl
 | some x =>
  have hm:b∈trk h H:=List.mem_filter.mpr ⟨List.mem_range.mpr (Heap.lt_size e'),by simp [q]⟩
  have z:(hidT h H).get? b=none:=PySem.W.hideAll_none (trk h H) hm
  rw [z] at e; cases e
def allNews (g h:Heap) (L:Addr):List (Addr×Obj):=(List.range h.objs.size).filterMap fun a=>if a=L∨(g.get? a).isSome=true then none else (h.get? a).map fun o=>(a,o)
def rest (g h:Heap) (L d:Addr):List (Addr×Obj):=(allNews g h L).filter fun p=>decide (p.1≠d)
end L2
namespace L2
open PySem PySem.Spec PyProof.Rows
structure Mod (K:PySem.W.Frag) (mg:Str->Option Value) (base:Heap):Prop where
 kin:K.In base
 glob:base.Ns mainGlobals mg
 blt:∃ mb,base.Ns builtinsNs mb∧∀ x:Str,x≠"__name__"->mb x=bootBuiltins x
 nolimit:base.NoLimit
structure Cx where
 prog:Program
 w:World
 K:PySem.W.Frag
 mg:Str->Option Value
 base:Heap
 A:Around
 N:List Str
 s₀:Shared
 H₀:Hp
 env:Env
 outer:List Env
 stack:List Env
 ex:List Addr
 fn:Str->Bool
 calm:Bool
 pn:List (Addr×Obj)
 xe:Value->Shared->Prop
def frs (l:List Env):List Addr:=l.filterMap (·.frame)
abbrev Cx.fs (X:Cx):List Addr:=frs X.outer
def Vis (sc:Scope) (x:Str):Prop:=sc.names.lookup x=some .local∨sc.names.lookup x=some .cell∨sc.names.lookup x=some .free
def Loc (sc:Scope) (x:Str):Prop:=sc.names.lookup x=some .local∨sc.names.lookup x=some .cell
def Look (env:Env) (h:Heap) (m:Str->Option Value) (x:Str) (u:Value):Prop :=
 (env.kindOf x=some .local∧m x=some u)∨((env.kindOf x=some .cell∨env.kindOf x=some .free)∧∃ c,env.cells.lookup x=some c∧h.IsCell c (some u))
structure Cx.Ok (X:Cx):Prop where
 mod:Mod X.K X.mg X.base
 kind:X.env.scope.kind=.function
 glob:X.env.globals=mainGlobals
 blt:X.env.builtins=builtinsNs
 above:X.s₀.heap.objs.size≤X.env.locals
 inj:∀ x y c,X.env.cells.lookup x=some c->X.env.cells.lookup y=some c->x=y
 has:∀ x,(X.env.kindOf x=some .cell∨X.env.kindOf x=some .free)->∃ c,X.env.cells.lookup x=some c
 cab:∀ x c,X.fn x=true->X.env.cells.lookup x=some c->X.s₀.heap.objs.size≤c
 hd:X.calm=true->X.A.handled=none
 frames:X.A.frames=some X.stack
 stk:X.stack=X.outer∨(X.stack=X.env :: X.outer∧X.env.frame=some X.env.locals)
 exf:∀ b∈X.ex,b≠X.env.locals∧∀ x c,X.env.cells.lookup x=some c->c≠b
 bs:∀ b o,X.base.get? b=some o->X.s₀.heap.get? b=some o∧X.H₀ b=none
 bsz:X.base.objs.size≤X.s₀.heap.objs.size
 noex:∀ b o,X.base.get? b=some o->b∉X.ex
 exfs:∀ b∈X.ex,b∉X.fs
 funs:X.s₀.heap.FunFrames X.base X.outer
 frf:∀ b∈X.fs,X.H₀ b=none
structure Inv (X:Cx) (pins:List (Addr×Obj)) (σ:List (Option V)) (H:Hp) (s:Shared):Prop where
 ok:X.Ok
 os:s.os=X.s₀.os
 bare:AllBare s.gens
 base:Un X.fs X.ex X.H₀ H X.s₀.heap s.heap
 loc:∃ m,s.heap.Ns X.env.locals m∧∀ (i:Nat) (x:Str) (v:V),X.N[i]?=some x->σ[i]?=some (some v)->Vis X.env.scope x->∃ u,RelV v u∧Look X.env s.heap m x u
 cell:∀ x c,X.env.cells.lookup x=some c->∃ v,s.heap.IsCell c v
 free:H X.env.locals=none
 freeC:∀ x c,X.env.cells.lookup x=some c->H c=none
 pin:∀ p∈X.pn++pins,s.heap.get? p.1=some p.2∧H p.1=none∧p.1≠X.env.locals∧p.1∉X.fs∧∀ v,p.2.data≠.cell v
 hok:HOk X.prog X.w H s.heap
 len:σ.length=X.N.length
section
variable {X:Cx} {pins:List (Addr×Obj)} {σ:List (Option V)} {H H':Hp} {s:Shared} {h':Heap}
theorem Cx.Ok.nofr (ok:X.Ok) {b:Addr} {o:Obj} (e:X.base.get? b=some o):b∉X.fs:=fun hb=>by
 have:=(ok.funs.mem hb).1
 rw [e] at this; cases this
theorem Inv.bs (I:Inv X pins σ H s):∀ b o,X.base.get? b=some o->s.heap.get? b=some o∧H b=none:=fun b o e =>
 ⟨I.base.keep b o (I.ok.bs b o e).1 (I.ok.bs b o e).2 (I.ok.nofr e) (I.ok.noex b o e),I.base.free b o (I.ok.bs b o e).1 (I.ok.bs b o e).2 (I.ok.noex b o e)⟩
theorem Inv.bk (I:Inv X pins σ H s):∀ b o,X.base.get? b=some o->s.heap.get? b=some o:=fun b o e=>(I.bs b o e).1
theorem Inv.mod (I:Inv X pins σ H s):Mod X.K X.mg X.base:=I.ok.mod
theorem Inv.kIn (I:Inv X pins σ H s):X.K.In s.heap:=I.ok.mod.kin.keeps I.bk
theorem Inv.nolimit (I:Inv X pins σ H s):s.heap.NoLimit:=I.ok.mod.nolimit.keeps I.bk
theorem Inv.lt (I:Inv X pins σ H s):X.env.locals<s.heap.objs.size:=let ⟨_,hn,_⟩:=I.loc; hn.lt
theorem Inv.sz (I:Inv X pins σ H s):X.s₀.heap.objs.size≤s.heap.objs.size:=Nat.le_trans I.ok.above (Nat.le_of_lt I.lt)
theorem Inv.nofs (I:Inv X pins σ H s) {a:Addr} (h:s.heap.objs.size≤a):a∉X.fs:=fun hb=>by
 obtain ⟨_,o,ho,_⟩:=I.ok.funs.mem hb
 exact absurd (Nat.lt_of_lt_of_le (Heap.lt_size ho) (Nat.le_trans I.sz h)) (Nat.lt_irrefl _)
theorem Inv.cne (I:Inv X pins σ H s):∀ x c,X.env.cells.lookup x=some c->c≠X.env.locals:=fun x c e z=>by
 obtain ⟨v,o,ho,hd⟩:=I.cell x c e
 obtain ⟨m,⟨o',es,ep,ho',hd',_⟩,_⟩:=I.loc
 rw [z,ho'] at ho; cases ho; rw [hd'] at hd; cases hd
theorem Inv.funs (I:Inv X pins σ H s):s.heap.FunFrames X.base X.outer:=by
 have all:∀ (l:List Env),(∀ b∈frs l,b∈X.fs)->X.s₀.heap.FunFrames X.base l->s.heap.FunFrames X.base l:=by
  intro l
  induction l with
  | nil=>intro _ _; trivial
  | cons env r ih =>
   intro hs hl
   obtain ⟨hk,⟨L,o,hf,hn,ho,hd⟩,hr⟩:=hl
   have hL:L∈X.fs:=hs L (by unfold frs; rw [List.filterMap_cons,hf]; exact List.mem_cons_self)
   obtain ⟨sl,e⟩:=I.base.slot L o ho (I.ok.frf L hL) hL fun z=>I.ok.exfs L z hL
   exact ⟨hk,⟨L,_,hf,hn,e,hd⟩,ih (fun b hb=>hs b (by unfold frs; rw [List.filterMap_cons,hf]; exact List.mem_cons_of_mem _ hb)) hr⟩
 exact all X.outer (fun _ hb=>hb) I.ok.funs
theorem Inv.stack (I:Inv X pins σ H s):s.heap.FunFrames X.base X.stack:=by
 rcases I.ok.stk with e | ⟨e,hf⟩
 ·rw [e]; exact I.funs
 ·rw [e]
  obtain ⟨m,hn,_⟩:=I.loc
  refine .cons (by rw [I.ok.kind]; decide) hf hn ?_ I.funs
  exact Heap.get?_none_of_le (Nat.le_trans I.ok.bsz I.ok.above)
theorem Inv.stkSub (I:Inv X pins σ H s):∀ b∈frs X.stack,b∈X.env.locals :: X.fs:=fun b hb=>by
 rcases I.ok.stk with e | ⟨e,hf⟩
 ·rw [e] at hb; exact List.mem_cons_of_mem _ hb
 ·rw [e] at hb
  unfold frs at hb
  rw [List.filterMap_cons,hf] at hb
  exact hb
theorem Inv.stkFree (I:Inv X pins σ H s):∀ b∈frs X.stack,H b=none:=fun b hb=>by
 rcases List.mem_cons.mp (I.stkSub b hb) with e | hb
 ·rw [e]; exact I.free
 ·obtain ⟨_,o,ho,_⟩:=I.ok.funs.mem hb
  exact I.base.free b o ho (I.ok.frf b hb) fun z=>I.ok.exfs b z hb
theorem Inv.step {g':Array GenState} {t':Nat} {d':Drawn} {ch:List Addr} (I:Inv X pins σ H s)
  (hch:∀ b∈ch,(b∈X.ex∨X.s₀.heap.objs.size≤b)∧b≠X.env.locals∧(∀ x c,X.env.cells.lookup x=some c->c≠b)∧∀ p∈X.pn++pins,p.1≠b)
  (keep:∀ b o,b≠X.env.locals->b∉X.fs->b∉ch->s.heap.get? b=some o->H b=none->h'.get? b=some o)
  (slot:∀ b o,b≠X.env.locals->b∈X.fs->b∉ch->s.heap.get? b=some o->H b=none->∃ sl,h'.get? b=some { o with slots:=sl }) (free:∀ b o,b∉ch->s.heap.get? b=some o->H b=none->H' b=none)
  (there:∀ b o,b∉ch->s.heap.get? b=some o->∃ o',h'.get? b=some o')
  (tups:∀ b xs,H b=some (.tup xs)->H' b=some (.tup xs)) (frzs:∀ b o u,H b=some (.frz o u)->H' b=some (.frz o u)) (tbls:∀ b ps,H b=some (.tbl ps)->∃ more,H' b=some (.tbl (ps++more)))
  (ns:∀ m,s.heap.Ns X.env.locals m->h'.Ns X.env.locals m) (hok:HOk X.prog X.w H' h') (hg:AllBare g') :
  Inv X pins σ H' { s with heap:=h',gens:=g',drawn:=d',toks:=t' }:=by
 have neL:∀ b o,X.s₀.heap.get? b=some o->b≠X.env.locals:=fun b o e=>Nat.ne_of_lt (Nat.lt_of_lt_of_le (Heap.lt_size e) I.ok.above)
 have neC:∀ b o,X.s₀.heap.get? b=some o->b∉X.ex->b∉ch:=fun b o e hx hb=>by
  rcases (hch b hb).1 with z | z
  ·exact hx z
  ·exact absurd (Nat.lt_of_lt_of_le (Heap.lt_size e) z) (Nat.lt_irrefl _)
 have cellK:∀ x c,X.env.cells.lookup x=some c->∀ v,s.heap.IsCell c v->h'.IsCell c v:=fun x c e v ⟨o,ho,hd⟩=>by
  have nch:c∉ch:=fun z=>(hch c z).2.2.1 x c e rfl
  by_cases hc:c∈X.fs
  ·obtain ⟨sl,q⟩:=slot c o (I.cne x c e) hc nch ho (I.freeC x c e)
   exact ⟨_,q,hd⟩
  ·exact ⟨o,keep c o (I.cne x c e) hc nch ho (I.freeC x c e),hd⟩
 refine ⟨I.ok,I.os,hg,⟨fun b o e n hb hx=>?_,fun b o e n hb hx=>?_,fun b o e n hx=>?_,fun b o e hx=>?_,fun b xs e=>tups b xs (I.base.tups b xs e),fun b o xs e=>frzs b o xs (I.base.frzs b o xs e),fun b ps e=>?_⟩,?_,fun x c e=>?_,?_,fun x c e=>?_,fun p hp=>?_,hok,I.len⟩
 ·exact keep b o (neL b o e) hb (neC b o e hx) (I.base.keep b o e n hb hx) (I.base.free b o e n hx)
 ·obtain ⟨sl,e1⟩:=I.base.slot b o e n hb hx
  obtain ⟨sl',e2⟩:=slot b _ (neL b o e) hb (neC b o e hx) e1 (I.base.free b o e n hx)
  exact ⟨sl',e2⟩
 ·obtain ⟨o',e1⟩:=I.base.there b o e hx
  exact free b o' (neC b o e hx) e1 (I.base.free b o e n hx)
 ·obtain ⟨o',e1⟩:=I.base.there b o e hx
  exact there b o' (neC b o e hx) e1
 ·obtain ⟨m1,e1⟩:=I.base.tbls b ps e
  obtain ⟨m2,e2⟩:=tbls b _ e1
  exact ⟨m1++m2,by rw [e2,Array.append_assoc]⟩
 ·obtain ⟨m,hn,hl⟩:=I.loc
  refine ⟨m,ns m hn,fun i x v e1 e2 e3=>?_⟩
  obtain ⟨u,r,l⟩:=hl i x v e1 e2 e3
  refine ⟨u,r,?_⟩
  rcases l with l | ⟨k,c,e,z⟩
  ·exact .inl l
  ·exact .inr ⟨k,c,e,cellK x c e _ z⟩
 ·obtain ⟨v,z⟩:=I.cell x c e
  exact ⟨v,cellK x c e v z⟩
 ·obtain ⟨m,⟨o,_,_,ho,_⟩,_⟩:=I.loc
  exact free _ o (fun z=>(hch _ z).2.1 rfl) ho I.free
 ·obtain ⟨v,o,ho,hd⟩:=I.cell x c e
  exact free c o (fun z=>(hch c z).2.2.1 x c e rfl) ho (I.freeC x c e)
 ·obtain ⟨e,n,ne,nf,d⟩:=I.pin p hp
  have nch:p.1∉ch:=fun z=>(hch p.1 z).2.2.2 p hp rfl
  exact ⟨keep p.1 p.2 ne nf nch e n,free p.1 p.2 nch e n,ne,nf,d⟩
theorem Inv.un {t':Nat} (I:Inv X pins σ H s) (u:Un X.fs [] H H' s.heap h') (hok:HOk X.prog X.w H' h'):Inv X pins σ H' { s with heap:=h',toks:=t' }:=by
 obtain ⟨m,⟨o,es,ep,ho,r⟩,_⟩:=id I.loc
 obtain ⟨sl,hL⟩:=u.any ho I.free (by simp)
 exact I.step (g':=s.gens) (d':=s.drawn) (ch:=[]) (fun _ z=>nomatch z) (fun b o _ hb _ e n=>u.keep b o e n hb (by simp)) (fun b o _ hb _ e n=>u.slot b o e n hb (by simp)) (fun b o _ e n=>u.free b o e n (by simp)) (fun b o _ e=>u.there b o e (by simp)) u.tups u.frzs u.tbls (fun m' hm=>by
  obtain ⟨o',es',ep',ho',r'⟩:=hm
  rw [ho] at ho'; cases ho'
  exact ⟨_,es',ep',hL,r'⟩) hok I.bare
theorem Inv.call {g':Array GenState} {t':Nat} {d':Drawn} {ch:List Addr} (I:Inv X pins σ H s) (u:Un (frs X.stack) ch H H' s.heap h') (hok:HOk X.prog X.w H' h') (hg:AllBare g')
  (hch:∀ b∈ch,(b∈X.ex∨X.s₀.heap.objs.size≤b)∧b≠X.env.locals∧(∀ x c,X.env.cells.lookup x=some c->c≠b)∧∀ p∈X.pn++pins,p.1≠b) :
  Inv X pins σ H' { s with heap:=h',gens:=g',drawn:=d',toks:=t' }:=by
 obtain ⟨m,⟨o,es,ep,ho,r⟩,_⟩:=id I.loc
 obtain ⟨sl,hL⟩:=u.any ho I.free fun z=>(hch _ z).2.1 rfl
 exact I.step (ch:=ch) hch (fun b o hL hb hc e n=>u.keep b o e n (fun z=>(List.mem_cons.mp (I.stkSub b z)).elim hL hb) hc) (fun b o _ _ hc e n=>u.any e n hc) (fun b o hc e n=>u.free b o e n hc) (fun b o hc e=>u.there b o e hc) u.tups u.frzs u.tbls (fun m' hm=>by
  obtain ⟨o',es',ep',ho',r'⟩:=hm
  rw [ho] at ho'; cases ho'
  exact ⟨_,es',ep',hL,r'⟩) hok hg
theorem Inv.turned {t':Nat} {it:Addr} (I:Inv X pins σ H s) (k:∀ b o,b≠it->s.heap.get? b=some o->h'.get? b=some o) (hn:H it=none) (hL:it≠X.env.locals)
  (h1:it∈X.ex∨X.s₀.heap.objs.size≤it) (h2:∀ x c,X.env.cells.lookup x=some c->c≠it) (h3:∀ p∈X.pn++pins,p.1≠it):Inv X pins σ H { s with heap:=h',toks:=t' }:=by
 have nit:∀ b u,H b=some u->b≠it:=fun b u e z=>by rw [z,hn] at e; cases e
 refine I.step (g':=s.gens) (d':=s.drawn) (ch:=[it]) (fun b hb=>?_) (fun b o _ _ hc e _=>k b o (fun z=>hc (by simp [z])) e) (fun b o _ _ hc e _=>⟨o.slots,k b o (fun z=>hc (by simp [z])) e⟩) (fun _ _ _ _ n=>n)
  (fun b o hc e=>⟨o,k b o (fun z=>hc (by simp [z])) e⟩) (fun _ _ e=>e) (fun _ _ _ e=>e) (fun b ps e=>⟨#[],by rw [e]; simp⟩) (fun m hm=>?_) (fun b u e=>?_) I.bare
 ·have e:b=it:=by simpa using hb
  subst e
  exact ⟨h1,hL,h2,h3⟩
 ·obtain ⟨o,es,ep,ho,r⟩:=hm
  exact ⟨o,es,ep,k _ o (Ne.symm hL) ho,r⟩
 ·refine (I.hok b u e).stay (fun c v hc q=>k c v ?_ q) (fun _ q=>q) fun _ _ q=>q
  rcases hc with z | z
  ·rw [z]; exact nit b u e
  ·exact nit c _ z
theorem Inv.tok (I:Inv X pins σ H s) (t:Nat):Inv X pins σ H { s with toks:=t }:=I.un (h':=s.heap) (t':=t) Un.refl I.hok
theorem Inv.kept {t':Nat} (I:Inv X pins σ H s) (k:∀ b u,s.heap.get? b=some u->h'.get? b=some u):Inv X pins σ H { s with heap:=h',toks:=t' }:=I.un (Un.kept k) (I.hok.kept k)
theorem Inv.laid {a:Addr} {o:HO} {t':Nat} (I:Inv X pins σ H s) (k:∀ b u,s.heap.get? b=some u->h'.get? b=some u) (hp:s.heap.objs.size≤a) (new:ObjOk X.prog X.w (upd H a o) h' a o) :
  Inv X pins σ (upd H a o) { s with heap:=h',toks:=t' }:=I.un (Un.laid k hp (I.hok.fresh hp)) (I.hok.laid k hp new)
theorem Inv.write {x e:Addr} {o:HO} {t':Nat} (I:Inv X pins σ H s) (mu:Mut (H x)) (he:e=x∨H e=some (.own x)) (k:∀ b u,b≠e->s.heap.get? b=some u->h'.get? b=some u) (heo:∃ u,h'.get? e=some u)
  (new:ObjOk X.prog X.w (upd H x o) h' x o):Inv X pins σ (upd H x o) { s with heap:=h',toks:=t' }:=I.un (Un.write mu he k heo) (I.hok.write mu he k heo new)
theorem Inv.pins_of {pins':List (Addr×Obj)} (I:Inv X pins σ H s) (h:∀ p∈pins',s.heap.get? p.1=some p.2∧H p.1=none∧p.1≠X.env.locals∧p.1∉X.fs∧∀ v,p.2.data≠.cell v):Inv X pins' σ H s :=
 ⟨I.ok,I.os,I.bare,I.base,I.loc,I.cell,I.free,I.freeC,fun p hp=>(List.mem_append.mp hp).elim (fun z=>I.pin p (List.mem_append_left _ z)) (h p),I.hok,I.len⟩
theorem nodup_ix {N:List Str} (hN:N.Nodup) {i j:Nat} {x:Str} (a:N[i]?=some x) (b:N[j]?=some x):i=j:=by
 obtain ⟨h1,e1⟩:=List.getElem?_eq_some_iff.mp a
 obtain ⟨h2,e2⟩:=List.getElem?_eq_some_iff.mp b
 exact (List.getElem_inj hN).mp (e1.trans e2.symm)
theorem store_ok2 {M:Model} {A:Around} {E:Value->Shared->Prop} {i:Nat} {x:Str} {v:V} {u:Value} {Q:Unit->Shared->Prop} (I:Inv X pins σ H s) (hN:X.N.Nodup) (hi:X.N[i]?=some x) (hx:Loc X.env.scope x) (r:RelV v u)
  (h:∀ s',Inv X pins (σ.set i (some v)) H s'->(∃ a,Heap.SameBut a s.heap s'.heap∧(a=X.env.locals∨X.env.cells.lookup x=some a))->Q () s') (hf:X.fn x=true∨X.env.scope.names.lookup x=some .local:=by first | exact .inl rfl | exact .inr rfl | assumption):wpAny M A (storeName X.env x u) Q E s:=by
 obtain ⟨m,hn,hl⟩:=id I.loc
 have hcls:(X.env.scope.kind == .class || (X.env.scope.kind == .module && X.env.locals != X.env.globals))=false:=by rw [I.ok.kind]; rfl
 have hiσ:i<σ.length:=by rw [I.len]; exact (List.getElem?_eq_some_iff.mp hi).1
 have cne:=I.cne
 have tracked:∀ {a:Addr} {h':Heap},(∃ o,s.heap.get? a=some o∧H a=none)->Heap.SameBut a s.heap h'->HOk X.prog X.w H h':=fun {a h'} ha hs b ob e=>by
  obtain ⟨_,_,hfree⟩:=ha
  refine (I.hok b ob e).stay (fun c w' hc q=>(hs.2 c ?_).trans q) (fun _ q=>q) fun _ _ q=>q
  rintro rfl
  rcases hc with rfl | hc
  ·rw [hfree] at e; cases e
  ·rw [hfree] at hc; cases hc
 rcases hx with hk | hk
 ·refine wpAny_storeName_local hk hn (fun h' hn' hs=>?_) hcls
  obtain ⟨oL,_,_,hoL,_⟩:=id hn
  refine h _ ⟨I.ok,I.os,I.bare,⟨fun b o e n hb hx=>?_,fun b o e n hb hx=>?_,I.base.free,fun b o e hx=>?_,I.base.tups,I.base.frzs,I.base.tbls⟩,⟨_,hn',fun j y v' e1 e2 e3=>?_⟩,fun y c e=>?_,I.free,I.freeC,fun p hp=>?_,tracked ⟨oL,hoL,I.free⟩ hs,by simpa using I.len⟩ ⟨_,hs,.inl rfl⟩
  ·exact (hs.2 b (Nat.ne_of_lt (Nat.lt_of_lt_of_le (Heap.lt_size e) I.ok.above))).trans (I.base.keep b o e n hb hx)
  ·obtain ⟨sl,e1⟩:=I.base.slot b o e n hb hx
   exact ⟨sl,(hs.2 b (Nat.ne_of_lt (Nat.lt_of_lt_of_le (Heap.lt_size e) I.ok.above))).trans e1⟩
  ·obtain ⟨o',e1⟩:=I.base.there b o e hx
   exact ⟨o',(hs.2 b (Nat.ne_of_lt (Nat.lt_of_lt_of_le (Heap.lt_size e) I.ok.above))).trans e1⟩
  ·by_cases hj:j=i
   ·subst hj
    rw [hi] at e1; cases e1
    rw [List.getElem?_set_self hiσ] at e2
    cases e2
    exact ⟨u,r,.inl ⟨hk,by simp⟩⟩
   ·rw [List.getElem?_set_ne (Ne.symm hj)] at e2
    obtain ⟨u',r',q⟩:=hl j y v' e1 e2 e3
    refine ⟨u',r',?_⟩
    rcases q with ⟨k,e⟩ | ⟨k,c,e,z⟩
    ·refine .inl ⟨k,?_⟩
     have:y≠x:=fun e=>hj (nodup_ix hN e1 (e ▸ hi))
     simp [this,e]
    ·exact .inr ⟨k,c,e,z.sameBut hs (cne y c e)⟩
  ·obtain ⟨w',z⟩:=I.cell y c e
   exact ⟨w',z.sameBut hs (cne y c e)⟩
  ·obtain ⟨e,n,ne,nf,d⟩:=I.pin p hp
   exact ⟨(hs.2 p.1 ne).trans e,n,ne,nf,d⟩
 ·have hfn:X.fn x=true:=by
   rcases hf with z | z
   ·exact z
   ·rw [z] at hk; cases hk
  obtain ⟨c,hc⟩:=I.ok.has x (.inl hk)
  obtain ⟨w',z⟩:=I.cell x c hc
  refine wpAny_storeName_cell I.ok.kind hk hc z (fun h' hc' hs=>?_)
  obtain ⟨oc,hoc,hocd⟩:=id z
  refine h { s with heap:=h' } ⟨I.ok,I.os,I.bare,⟨fun b o e n hb hx=>?_,fun b o e n hb hx=>?_,I.base.free,fun b o e hx=>?_,I.base.tups,I.base.frzs,I.base.tbls⟩,⟨m,hn.sameBut hs (Ne.symm (cne x c hc)),fun j y v' e1 e2 e3=>?_⟩,fun y c' e=>?_,I.free,I.freeC,fun p hp=>?_,tracked ⟨oc,hoc,I.freeC x c hc⟩ hs,by simpa using I.len⟩ ⟨c,hs,.inr hc⟩
  ·exact (hs.2 b (Nat.ne_of_lt (Nat.lt_of_lt_of_le (Heap.lt_size e) (I.ok.cab x c hfn hc)))).trans (I.base.keep b o e n hb hx)
  ·obtain ⟨sl,e1⟩:=I.base.slot b o e n hb hx
   exact ⟨sl,(hs.2 b (Nat.ne_of_lt (Nat.lt_of_lt_of_le (Heap.lt_size e) (I.ok.cab x c hfn hc)))).trans e1⟩
  ·obtain ⟨o',e1⟩:=I.base.there b o e hx
   exact ⟨o',(hs.2 b (Nat.ne_of_lt (Nat.lt_of_lt_of_le (Heap.lt_size e) (I.ok.cab x c hfn hc)))).trans e1⟩
  ·by_cases hj:j=i
   ·subst hj
    rw [hi] at e1; cases e1
    rw [List.getElem?_set_self hiσ] at e2
    cases e2
    exact ⟨u,r,.inr ⟨.inl hk,c,hc,hc'⟩⟩
   ·rw [List.getElem?_set_ne (Ne.symm hj)] at e2
    obtain ⟨u',r',q⟩:=hl j y v' e1 e2 e3
    refine ⟨u',r',?_⟩
    rcases q with q | ⟨k,c',e,z'⟩
    ·exact .inl q
    ·refine .inr ⟨k,c',e,z'.sameBut hs ?_⟩
     rintro rfl
     exact hj (nodup_ix hN e1 (I.ok.inj _ _ _ e hc ▸ hi))
  ·by_cases hcc:c'=c
   ·subst hcc; exact ⟨_,hc'⟩
   ·obtain ⟨w2,z2⟩:=I.cell y c' e
    exact ⟨w2,z2.sameBut hs hcc⟩
  ·obtain ⟨e,n,ne,nf,d⟩:=I.pin p hp
   refine ⟨(hs.2 p.1 ?_).trans e,n,ne,nf,d⟩
   intro q
   rw [q,hoc] at e
   have q':oc=p.2:=Option.some.inj e
   exact d w' (by rw [←q']; exact hocd)
theorem store_ok {M:Model} {A:Around} {E:Value->Shared->Prop} {i:Nat} {x:Str} {v:V} {u:Value} {Q:Unit->Shared->Prop} (I:Inv X pins σ H s) (hN:X.N.Nodup) (hi:X.N[i]?=some x) (hx:Loc X.env.scope x) (r:RelV v u)
  (h:∀ s',Inv X pins (σ.set i (some v)) H s'->Q () s') (hf:X.fn x=true∨X.env.scope.names.lookup x=some .local:=by first | exact .inl rfl | exact .inr rfl | assumption):wpAny M A (storeName X.env x u) Q E s :=
 store_ok2 I hN hi hx r (fun s' I' _=>h s' I') hf
theorem Inv.call' {s':Shared} {ch:List Addr} (I:Inv X pins σ H s) (ho:s'.os=s.os) (u:Un (frs X.stack) ch H H' s.heap s'.heap) (hok:HOk X.prog X.w H' s'.heap) (hg:AllBare s'.gens)
  (hch:∀ b∈ch,(b∈X.ex∨X.s₀.heap.objs.size≤b)∧b≠X.env.locals∧(∀ x c,X.env.cells.lookup x=some c->c≠b)∧∀ p∈X.pn++pins,p.1≠b):Inv X pins σ H' s':=by
 obtain ⟨h',g',d',t',o'⟩:=s'
 have e:o'=s.os:=ho
 subst e
 exact I.call (g':=g') (t':=t') (d':=d') u hok hg hch
end
abbrev XK:=Value->Option Addr->Hp->Prop
abbrev St:=List (Option V)
abbrev VK:=V->Hp->Prop
abbrev TE:=St->Hp->VK->Prop
abbrev TT:=St->Hp->(Bool->Hp->Prop)->Prop
abbrev TA:=St->Hp->(List V->Hp->Prop)->Prop
structure Ends where
 nx:St->Hp->Prop
 rt:VK
 bk:St->Hp->Prop:=fun _ _=>False
 ct:St->Hp->Prop:=fun _ _=>False
abbrev TS:=Ends->St->Hp->Prop
def EP (X:Cx) (pins:List (Addr×Obj)) (σ:St) (Q:VK) (u:Value) (s':Shared):Prop:=∃ v H',Inv X pins σ H' s'∧RelV v u∧Q v H'
def TP (X:Cx) (pins:List (Addr×Obj)) (σ:St) (Q:Bool->Hp->Prop) (b:Bool) (s':Shared):Prop:=∃ H',Inv X pins σ H' s'∧Q b H'
def AP (X:Cx) (pins:List (Addr×Obj)) (σ:St) (Q:List V->Hp->Prop) (us:List Value) (s':Shared):Prop:=∃ vs H',Inv X pins σ H' s'∧Vals vs us∧Q vs H'
def SP (X:Cx) (pins:List (Addr×Obj)) (D:Ends) (f:Flow) (s':Shared):Prop :=
 match f with
 | .next=>∃ σ' H',Inv X pins σ' H' s'∧D.nx σ' H'
 | .brk=>∃ σ' H',Inv X pins σ' H' s'∧D.bk σ' H'
 | .cont=>∃ σ' H',Inv X pins σ' H' s'∧D.ct σ' H'
 | .ret u=>∃ v σ' H',Inv X pins σ' H' s'∧RelV v u∧D.rt v H'
def PE (X:Cx) (e:Expr) (t:TE):Prop :=
 ∀ (pins:List (Addr×Obj)) (s:Shared) (σ:St) (H:Hp) (Q:VK),Inv X pins σ H s->t σ H Q->wpAny (model X.prog X.w) X.A (eval e X.env) (EP X pins σ Q) X.xe s
def PT (X:Cx) (e:Expr) (t:TT):Prop :=
 ∀ (pins:List (Addr×Obj)) (s:Shared) (σ:St) (H:Hp) (Q:Bool->Hp->Prop),Inv X pins σ H s->t σ H Q->wpAny (model X.prog X.w) X.A (isTrue e X.env (eval e X.env)) (TP X pins σ Q) X.xe s
def PW (X:Cx) (e:Expr) (t:TT):Prop :=
 ∀ (whole:Sem Value) (pins:List (Addr×Obj)) (s:Shared) (σ:St) (H:Hp) (Q:Bool->Hp->Prop),Inv X pins σ H s->t σ H Q->wpAny (model X.prog X.w) X.A (isTrue e X.env whole) (TP X pins σ Q) X.xe s
theorem PW.pt {X:Cx} {e:Expr} {t:TT} (h:PW X e t):PT X e t:=h _
def PA (X:Cx) (es:List Expr) (t:TA):Prop :=
 ∀ (pos:Pos) (pins:List (Addr×Obj)) (s:Shared) (σ:St) (H:Hp) (Q:List V->Hp->Prop),Inv X pins σ H s->t σ H Q->wpAny (model X.prog X.w) X.A (spliced (backTo pos (starEach es X.env))) (AP X pins σ Q) X.xe s
def PS (X:Cx) (st:Stmt) (t:TS):Prop :=
 ∀ (pins:List (Addr×Obj)) (s:Shared) (σ:St) (H:Hp) (D:Ends),Inv X pins σ H s->t D σ H->wpAny (model X.prog X.w) X.A (exec st X.env) (SP X pins D) X.xe s
def PSs (X:Cx) (st:List Stmt) (t:TS):Prop :=
 ∀ (pins:List (Addr×Obj)) (s:Shared) (σ:St) (H:Hp) (D:Ends),Inv X pins σ H s->t D σ H->wpAny (model X.prog X.w) X.A (execs st X.env) (SP X pins D) X.xe s
theorem thn {α:Type} {t:Sem α} {Q Q':α->Shared->Prop} {M:Model} {A:Around} {E:Value->Shared->Prop} {s:Shared} (h:wpAny M A t Q E s) (hQ:∀ a s,Q a s->Q' a s):wpAny M A t Q' E s:=wpAny_mono h hQ fun _ _ x=>x
end L2
namespace L2
open PySem PySem.Spec PyProof.Rows
section
variable {X:Cx}
inductive VarR (i:Nat) (σ:St) (H:Hp) (Q:VK):Prop
 | mk (v:V) (e:σ[i]?=some (some v)) (q:Q v H):VarR i σ H Q
def tVar (i:Nat):TE:=fun σ H Q=>VarR i σ H Q
inductive BlR (x:V) (H:Hp) (Q:Bool->Hp->Prop):Prop
 | mk (c:Bool) (e:x=.bl c) (q:Q c H):BlR x H Q
def tC (v:V):TE:=fun _ H Q=>Q v H
theorem pe_var {i:Nat} {x:Str} {pos:Pos} (hN:X.N[i]?=some x) (hv:Vis X.env.scope x) (hd:(x == ("__debug__":Str))=false:=by decide) (hcd:(x == ("__classdict__":Str))=false:=by decide):PE X (.Name x pos) (tVar i):=by
 intro pins s σ H Q I h
 obtain ⟨v,e,h⟩:=h
 obtain ⟨m,hn,hl⟩:=I.loc
 obtain ⟨u,r,l⟩:=hl i x v hN e hv
 have fin:EP X pins σ Q u s:=⟨v,H,I,r,h⟩
 rcases l with ⟨hk,hm⟩ | ⟨hk,c,hc,hcell⟩
 ·exact wpAny_Name (wpAny_loadName_local I.ok.kind hk hn hm fin) hd
 ·rcases hk with hk | hk
  ·exact wpAny_Name (wpAny_loadName_cell I.ok.kind hk hc hcell fin) hd
  ·exact wpAny_Name (wpAny_loadName_free I.ok.kind hk hc hcell fin hcd) hd
theorem pe_int {i j pos}:PE X (.Constant (.int i) j pos) (tC (.int i)):=fun _ _ _ H _ I h=>wpAny_Constant_int ⟨.int i,H,I.tok _,⟨_,rfl⟩,h⟩
theorem pe_bl {b j pos}:PE X (.Constant (.bool b) j pos) (tC (.bl b)):=fun _ _ _ H _ I h=>Constant_bool ⟨.bl b,H,I,rfl,h⟩
theorem pe_non {j pos}:PE X (.Constant .none j pos) (tC .non):=fun _ _ _ H _ I h=>Constant_none ⟨.non,H,I,rfl,h⟩
def Gl (X:Cx) (x:Str):Prop:=X.env.kindOf x=some .globalImplicit
theorem ld_glob {E:Value->Shared->Prop} {pins:List (Addr×Obj)} {s:Shared} {σ:St} {H:Hp} {x:Str} {u:Value} {pos:Pos} {Q:Value->Shared->Prop} (I:Inv X pins σ H s) (hg:Gl X x) (hm:X.mg x=some u) (h:Q u s)
  (hd:(x == ("__debug__":Str))=false:=by decide):wpAny (model X.prog X.w) X.A (eval (.Name x pos) X.env) Q E s :=
 Calls.Name_function_global I.ok.kind hg (Calls.loadGlobal_global (by rw [I.ok.glob]; exact I.mod.glob.keeps I.bk) hm h) hd
theorem ld_blt {E:Value->Shared->Prop} {pins:List (Addr×Obj)} {s:Shared} {σ:St} {H:Hp} {x:Str} {u:Value} {pos:Pos} {Q:Value->Shared->Prop} (I:Inv X pins σ H s) (hg:Gl X x) (hm:X.mg x=none) (hv:bootBuiltins x=some u) (h:Q u s)
  (hn:x≠"__name__":=by decide) (hd:(x == ("__debug__":Str))=false:=by decide):wpAny (model X.prog X.w) X.A (eval (.Name x pos) X.env) Q E s:=by
 obtain ⟨mb,h1,h2⟩:=I.mod.blt
 exact Calls.Name_function_global I.ok.kind hg (Calls.loadGlobal_builtin (by rw [I.ok.glob]; exact I.mod.glob.keeps I.bk) hm (by rw [I.ok.blt]; exact h1.keeps I.bk) ((h2 x hn).trans hv) h) hd
variable {a b:Expr} {ta tb:TE} {pos:Pos}
def PC (X:Cx) (op:CmpOp) (a b:Expr) (t:TE):Prop :=
 ∀ (pins:List (Addr×Obj)) (s:Shared) (σ:St) (H:Hp) (Q:VK),Inv X pins σ H s->t σ H Q →
  wpAny (model X.prog X.w) X.A (eval a X.env) (fun v s₁=>wpAny (model X.prog X.w) X.A (eval b X.env) (fun u s₂=>wpAny (model X.prog X.w) X.A (compareOp op v u) (EP X pins σ Q) X.xe s₂) X.xe s₁) X.xe s
theorem nobehind (b:Expr) {op:CmpOp} (h:op≠.In) (h2:op≠.NotIn):behindInMarks op b=false:=by
 have e1:(op == CmpOp.In)=false:=by cases op <;> first | rfl | exact absurd rfl h
 have e2:(op == CmpOp.NotIn)=false:=by cases op <;> first | rfl | exact absurd rfl h2
 cases b <;> simp [behindInMarks,e1,e2]
def tB (t:TE):TT:=fun σ H Q=>t σ H fun x H1=>BlR x H1 Q
theorem pt_cmp {op:CmpOp} {t:TE} (h:PC X op a b t) (h1:behindInMarks op b=false:=by first | exact nobehind _ (by decide) (by decide) | rfl):PT X (.Compare a [op] [b] pos) (tB t):=by
 intro pins s σ H Q I hw
 refine wpAny_isTrue_Compare1 (thn (h pins s σ H _ I hw) fun v s1 h1=>thn h1 fun u s2 h2=>thn h2 fun c s3 ⟨x,H1,I1,r1,q1⟩=>?_) h1
 obtain ⟨d,rfl,q⟩:=q1
 cases r1
 exact wpAny_truthy_bool ⟨H1,I1,q⟩
theorem pt_val {e:Expr} {t:TE} (h:PE X e t) (he:∀ whole,isTrue e X.env whole=(do let v ←whole; standAt e.pos; holding [v] (truthy v)):=by intro _; rfl):PT X e (tB t):=by
 intro pins s σ H Q I hw
 refine isTrue_plain (thn (h pins s σ H _ I hw) fun v s1 ⟨x,H1,I1,r1,q1⟩=>?_) (he _)
 obtain ⟨d,rfl,q⟩:=q1
 cases r1
 exact wpAny_truthy_bool ⟨H1,I1,q⟩
variable {tA tB':TT} {rest:List Expr}
def tAnd (t u:TT):TT:=fun σ H Q=>t σ H fun c H1=>if c=true then u σ H1 Q else Q false H1
def tOr (t u:TT):TT:=fun σ H Q=>t σ H fun c H1=>if c=true then Q true H1 else u σ H1 Q
def tNot (t:TT):TT:=fun σ H Q=>t σ H fun c H1=>Q (!c) H1
theorem pw_and1 (ha:PT X a tA):PW X (.BoolOp .And [a] pos) tA:=by
 intro wh pins s σ H Q I h
 refine isTrue_and (thn (ha pins s σ H Q I h) fun c s1 e=>?_)
 cases c with
 | true=>exact isTrue_and_nil e
 | false=>exact e
theorem pw_or1 (ha:PT X a tA):PW X (.BoolOp .Or [a] pos) tA:=by
 intro wh pins s σ H Q I h
 refine isTrue_or (thn (ha pins s σ H Q I h) fun c s1 e=>?_)
 cases c with
 | false=>exact isTrue_or_nil e
 | true=>exact e
theorem pw_and (ha:PT X a tA) (hb:PW X (.BoolOp .And (b :: rest) pos) tB'):PW X (.BoolOp .And (a :: b :: rest) pos) (tAnd tA tB'):=by
 intro wh pins s σ H Q I h
 refine isTrue_and (thn (ha pins s σ H _ I h) fun c s1 ⟨H1,I1,q1⟩=>?_)
 cases c with
 | true=>exact hb wh pins s1 σ H1 Q I1 q1
 | false=>exact ⟨H1,I1,q1⟩
theorem pw_or (ha:PT X a tA) (hb:PW X (.BoolOp .Or (b :: rest) pos) tB'):PW X (.BoolOp .Or (a :: b :: rest) pos) (tOr tA tB'):=by
 intro wh pins s σ H Q I h
 refine isTrue_or (thn (ha pins s σ H _ I h) fun c s1 ⟨H1,I1,q1⟩=>?_)
 cases c with
 | true=>exact ⟨H1,I1,q1⟩
 | false=>exact hb wh pins s1 σ H1 Q I1 q1
theorem pt_not (ha:PT X a tA):PT X (.UnaryOp .Not a pos) (tNot tA):=by
 intro pins s σ H Q I h
 exact isTrue_not (ha pins s σ H (fun c H1=>Q (!c) H1) I h)
def tIf (t:TT) (ta tb:TE):TE:=fun σ H Q=>t σ H fun c H1=>if c=true then ta σ H1 Q else tb σ H1 Q
theorem pe_ifExp {c:Expr} (hc:PT X c tA) (ha:PE X a ta) (hb:PE X b tb):PE X (.IfExp c a b pos) (tIf tA ta tb):=by
 intro pins s σ H Q I h
 refine wpAny_IfExp (thn (hc pins s σ H _ I h) fun d s1 ⟨H1,I1,q1⟩=>?_)
 cases d with
 | true=>exact ha pins s1 σ H1 Q I1 q1
 | false=>exact hb pins s1 σ H1 Q I1 q1
end
end L2
namespace L2
open PySem PySem.Spec PyProof.Rows
def SqL (K:PySem.W.Frag) (H:Hp) (a:Addr) (xs:List V):Prop :=
 Rd H a (.lst xs) ∨
  ∃ (o:Obj) (its:Array Value) (n:Nat),K.lookup a=some o∧o.cls=.type "list"∧o.dict=none∧o.data=.seq its n∧its.size≤sizeLine∧Vals xs its.toList
def SqT (K:PySem.W.Frag) (H:Hp) (a:Addr) (xs:List V):Prop :=
 Rd H a (.tup xs) ∨
  ∃ (o:Obj) (its:Array Value) (n:Nat),K.lookup a=some o∧o.cls=.type "tuple"∧o.data=.seq its n∧its.size≤sizeLine∧Vals xs its.toList
def absV:Value->Option V
 | .none=>some .non
 | .bool b=>some (.bl b)
 | .int i _=>some (.int i)
 | .str x _=>some (.str x)
 | .bytes b _=>some (.byt b)
 | .float b _=>some (.flt b)
 | .ref a=>some (.ref a)
 | .type n=>some (.ty n)
 | _=>none
theorem RelV.abs {x:V} {u:Value} (r:RelV x u):absV u=some x:=by
 cases x with
 | non=>cases r; rfl
 | bl _=>cases r; rfl
 | int _=>obtain ⟨t,rfl⟩:=r; rfl
 | str _=>obtain ⟨t,rfl⟩:=r; rfl
 | byt _=>obtain ⟨t,rfl⟩:=r; rfl
 | flt _=>obtain ⟨t,rfl⟩:=r; rfl
 | ref _=>cases r; rfl
 | ty _=>cases r; rfl
theorem RelV.inj {x y:V} {u:Value} (r:RelV x u) (q:RelV y u):x=y:=Option.some.inj (r.abs.symm.trans q.abs)
theorem Vals.inj:∀ {xs ys:List V} {us:List Value},Vals xs us->Vals ys us->xs=ys
 | _,_,_,.nil,.nil=>rfl
 | _,_,_,.cons r t,.cons r' t'=>by rw [r.inj r',Vals.inj t t']
section
variable {X:Cx} {pins:List (Addr×Obj)} {σ:St} {H:Hp} {s:Shared} {a:Addr} {xs ys:List V}
theorem SqL.of {K:PySem.W.Frag} (h:H a=some (.lst xs)):SqL K H a xs:=.inl (.inl h)
theorem SqT.of {K:PySem.W.Frag} (h:H a=some (.tup xs)):SqT K H a xs:=.inl (.inl h)
theorem Inv.list (I:Inv X pins σ H s) (h:SqL X.K H a xs):∃ its:List Value,Vals xs its∧PlainL s.heap a its.toArray∧xs.length≤sizeLine:=by
 rcases h with h | ⟨o,its,n,hk,hc,hd,hs,hz,r⟩
 ·obtain ⟨z,its,n,r,e⟩:=h.ok I.hok
  exact ⟨its,r,⟨_,n,e,rfl,rfl,rfl⟩,z⟩
 ·refine ⟨its.toList,r,⟨o,n,I.kIn a o hk,hc,hd,by simpa using hs⟩,?_⟩
  have e:=r.length
  simp only [Array.length_toList] at e
  omega
theorem Inv.tuple (I:Inv X pins σ H s) (h:SqT X.K H a xs):∃ its:List Value,Vals xs its∧IsTup s.heap a its.toArray∧xs.length≤sizeLine:=by
 rcases h with h | ⟨o,its,n,hk,hc,hs,hz,r⟩
 ·obtain ⟨z,its,r,p,_⟩:=h.ok I.hok
  exact ⟨its,r,p,z⟩
 ·refine ⟨its.toList,r,⟨o,I.kIn a o hk,hc,n,by simpa using hs⟩,?_⟩
  have e:=r.length
  simp only [Array.length_toList] at e
  omega
theorem Inv.list_inj (I:Inv X pins σ H s) (h:SqL X.K H a xs) (h':SqL X.K H a ys):xs=ys:=by
 obtain ⟨its,r,⟨o,n,e,_,_,d⟩,_⟩:=I.list h
 obtain ⟨its',r',⟨o',n',e',_,_,d'⟩,_⟩:=I.list h'
 rw [e] at e'; cases e'
 rw [d] at d'
 injection d' with d1 _
 have:its=its':=by simpa using congrArg Array.toList d1
 subst this
 exact r.inj r'
theorem Inv.tuple_inj (I:Inv X pins σ H s) (h:SqT X.K H a xs) (h':SqT X.K H a ys):xs=ys:=by
 obtain ⟨its,r,⟨o,e,_,n,d⟩,_⟩:=I.tuple h
 obtain ⟨its',r',⟨o',e',_,n',d'⟩,_⟩:=I.tuple h'
 rw [e] at e'; cases e'
 rw [d] at d'
 injection d' with d1 _
 have:its=its':=by simpa using congrArg Array.toList d1
 subst this
 exact r.inj r'
end
abbrev Cx.wish (X:Cx) (E:Value->Shared->Prop):Cx:={ X with xe:=E }
abbrev Cx.nox (X:Cx):Cx:=X.wish fun _ _=>False
theorem Cx.Ok.wish {X:Cx} (ok:X.Ok) (E:Value->Shared->Prop):(X.wish E).Ok :=
 ⟨ok.mod,ok.kind,ok.glob,ok.blt,ok.above,ok.inj,ok.has,ok.cab,ok.hd,ok.frames,ok.stk,ok.exf,ok.bs,ok.bsz,ok.noex,ok.exfs,ok.funs,ok.frf⟩
theorem Cx.Ok.unwish {X:Cx} {E:Value->Shared->Prop} (ok:(X.wish E).Ok):X.Ok :=
 ⟨ok.mod,ok.kind,ok.glob,ok.blt,ok.above,ok.inj,ok.has,ok.cab,ok.hd,ok.frames,ok.stk,ok.exf,ok.bs,ok.bsz,ok.noex,ok.exfs,ok.funs,ok.frf⟩
section
variable {X:Cx} {pins:List (Addr×Obj)} {σ:St} {H:Hp} {s:Shared} {E:Value->Shared->Prop}
theorem Inv.wish (I:Inv X pins σ H s) (E:Value->Shared->Prop):Inv (X.wish E) pins σ H s:=⟨I.ok.wish E,I.os,I.bare,I.base,I.loc,I.cell,I.free,I.freeC,I.pin,I.hok,I.len⟩
theorem Inv.unwish (I:Inv (X.wish E) pins σ H s):Inv X pins σ H s:=⟨I.ok.unwish,I.os,I.bare,I.base,I.loc,I.cell,I.free,I.freeC,I.pin,I.hok,I.len⟩
theorem SP.unwish {D:Ends} {f:Flow} {s':Shared} (h:SP (X.wish E) pins D f s'):SP X pins D f s':=by
 cases f with
 | next=>obtain ⟨σ',H',I,q⟩:=h; exact ⟨σ',H',I.unwish,q⟩
 | brk=>obtain ⟨σ',H',I,q⟩:=h; exact ⟨σ',H',I.unwish,q⟩
 | cont=>obtain ⟨σ',H',I,q⟩:=h; exact ⟨σ',H',I.unwish,q⟩
 | ret u=>obtain ⟨v,σ',H',I,r,q⟩:=h; exact ⟨v,σ',H',I.unwish,r,q⟩
theorem PE.nox {e:Expr} {t:TE} (h:PE X.nox e t):PE X e t:=fun pins s σ H Q I hw =>
 wpAny_mono (h pins s σ H Q (I.wish _) hw) (fun _ _ ⟨v,H',I',r,q⟩=>⟨v,H',I'.unwish,r,q⟩) fun _ _ z=>False.elim z
theorem PT.nox {e:Expr} {t:TT} (h:PT X.nox e t):PT X e t:=fun pins s σ H Q I hw =>
 wpAny_mono (h pins s σ H Q (I.wish _) hw) (fun _ _ ⟨H',I',q⟩=>⟨H',I'.unwish,q⟩) fun _ _ z=>False.elim z
theorem PSs.nox {st:List Stmt} {t:TS} (h:PSs X.nox st t):PSs X st t:=fun pins s σ H D I hw =>
 wpAny_mono (h pins s σ H D (I.wish _) hw) (fun _ _ q=>q.unwish) fun _ _ z=>False.elim z
end
section
variable {X:Cx} {st:Stmt} {rest:List Stmt} {t u:TS} {e:Expr} {te:TE} {pos:Pos}
def tNext:TS:=fun D σ H=>D.nx σ H
def tSeq (t u:TS):TS:=fun D σ H=>t { D with nx:=u D } σ H
theorem pss_nil:PSs X [] tNext:=fun _ _ σ H _ I h=>wpAny_execs_nil ⟨σ,H,I,h⟩
theorem pss_cons (h1:PS X st t) (h2:PSs X rest u):PSs X (st :: rest) (tSeq t u):=by
 intro pins s σ H D I h
 refine wpAny_execs_cons (thn (h1 pins s σ H { D with nx:=u D } I h) fun f s1 q=>?_)
 cases f with
 | next =>
  obtain ⟨σ',H',I',q⟩:=q
  exact h2 pins s1 σ' H' D I' q
 | ret v=>exact q
 | brk=>exact q
 | cont=>exact q
theorem pss_one (h1:PS X st t):PSs X [st] t:=by
 intro pins s σ H D I h
 refine wpAny_execs_cons (thn (h1 pins s σ H D I h) fun f s1 q=>?_)
 cases f with
 | next=>exact wpAny_execs_nil q
 | ret v=>exact q
 | brk=>exact q
 | cont=>exact q
theorem Inv.quiet {pins:List (Addr×Obj)} {σ:St} {H:Hp} {s:Shared} (I:Inv X pins σ H s):interactive X.env=false:=by simp [interactive,I.ok.kind]
def tDrop (te:TE):TS:=fun D σ H=>te σ H fun _ H1=>D.nx σ H1
theorem ps_expr (he:PE X e te) (hs:swapsWith e none pos.line X.env=pure false:=by rfl):PS X (.Expr e pos) (tDrop te):=by
 intro pins s σ H D I h
 exact wpAny_Expr_any (thn (he pins s σ H _ I h) fun v s1 ⟨x,H1,I1,r1,q1⟩=>⟨σ,H1,I1,q1⟩) I.quiet hs
def tRet (te:TE):TS:=fun D σ H=>te σ H D.rt
theorem ps_ret (he:PE X e te):PS X (.Return (some e) pos) (tRet te):=by
 intro pins s σ H D I h
 exact wpAny_Return_some (thn (he pins s σ H _ I h) fun v s1 ⟨x,H1,I1,r1,q1⟩=>⟨x,σ,H1,I1,r1,q1⟩)
def tIfS (c:TT) (t u:TS):TS:=fun D σ H=>c σ H fun b H1=>if b=true then t D σ H1 else u D σ H1
theorem ps_if {c:Expr} {a b:List Stmt} {tc:TT} (hc:PT X c tc) (ha:PSs X a t) (hb:PSs X b u):PS X (.If c a b pos) (tIfS tc t u):=by
 intro pins s σ H D I h
 refine wpAny_If (thn (hc pins s σ H _ I h) fun d s1 ⟨H1,I1,q1⟩=>?_)
 cases d with
 | true=>exact ha pins s1 σ H1 D I1 q1
 | false=>exact hb pins s1 σ H1 D I1 q1
def tNever:TS:=fun _ _ _=>False
theorem ps_never:PS X st tNever:=fun _ _ _ _ _ _ h=>h.elim
theorem pss_never {sts:List Stmt}:PSs X sts tNever:=fun _ _ _ _ _ _ h=>h.elim
end
abbrev TG:=V->St->Hp->(St->Hp->Prop)->Prop
abbrev TGs:=List V->St->Hp->(St->Hp->Prop)->Prop
def PG (X:Cx) (target:Expr) (t:TG):Prop :=
 ∀ (pins:List (Addr×Obj)) (s:Shared) (σ:St) (H:Hp) (v:V) (u:Value) (Q:St->Hp->Prop),Inv X pins σ H s->RelV v u->t v σ H Q →
  wpAny (model X.prog X.w) X.A (assign target X.env u) (fun _ s'=>∃ σ' H',Inv X pins σ' H' s'∧Q σ' H') X.xe s
def PGs (X:Cx) (ts:List Expr) (t:TGs):Prop :=
 ∀ (pins:List (Addr×Obj)) (s:Shared) (σ:St) (H:Hp) (vs:List V) (us:List Value) (Q:St->Hp->Prop),Inv X pins σ H s->Vals vs us->t vs σ H Q →
  wpAny (model X.prog X.w) X.A (assignInOrder ((assignEach ts X.env).map (·.2)) us) (fun _ s'=>∃ σ' H',Inv X pins σ' H' s'∧Q σ' H') X.xe s
abbrev TSet:=V->V->V->Hp->(Hp->Prop)->Prop
def PSet (X:Cx) (t:TSet):Prop :=
 ∀ (pins:List (Addr×Obj)) (s:Shared) (σ:St) (H:Hp) (o i v:V) (ov iv u:Value) (Q:Hp->Prop),Inv X pins σ H s->RelV o ov->RelV i iv->RelV v u->t o i v H Q →
  wpAny (model X.prog X.w) X.A (setItem ov iv u) (fun _ s'=>∃ H',Inv X pins σ H' s'∧Q H') X.xe s
section
variable {X:Cx} {pos:Pos}
def gName (i:Nat):TG:=fun v σ H Q=>Q (σ.set i (some v)) H
theorem pg_name {i:Nat} {x:Str} (hN:X.N.Nodup) (hi:X.N[i]?=some x) (hx:Loc X.env.scope x) (hf:X.fn x=true∨X.env.scope.names.lookup x=some .local:=by first | exact .inl rfl | exact .inr rfl | assumption):PG X (.Name x pos) (gName i):=by
 intro pins s σ H v u Q I r h
 exact wpAny_assign_Name (store_ok I hN hi hx r (fun s' I'=>⟨_,H,I',h⟩) hf)
inductive GNilR (vs:List V) (σ:St) (H:Hp) (Q:St->Hp->Prop):Prop
 | mk (e:vs=[]) (q:Q σ H):GNilR vs σ H Q
def gNil:TGs:=fun vs σ H Q=>GNilR vs σ H Q
inductive GConsR (t:TG) (u:TGs) (vs:List V) (σ:St) (H:Hp) (Q:St->Hp->Prop):Prop
 | mk (v:V) (r:List V) (e:vs=v :: r) (q:t v σ H fun σ' H'=>u r σ' H' Q):GConsR t u vs σ H Q
def gCons (t:TG) (u:TGs):TGs:=fun vs σ H Q=>GConsR t u vs σ H Q
theorem pgs_nil:PGs X [] gNil:=by
 intro pins s σ H vs us Q I r h
 obtain ⟨e,h⟩:=h
 subst e
 cases r
 exact assignInOrder_nil ⟨σ,H,I,h⟩
theorem pgs_cons {e:Expr} {es:List Expr} {t:TG} {u:TGs} (h1:PG X e t) (h2:PGs X es u)
  (hs:(assignEach (e :: es) X.env).map (·.2)=assign e X.env :: (assignEach es X.env).map (·.2):=by rfl):PGs X (e :: es) (gCons t u):=by
 intro pins s σ H vs us Q I r h
 obtain ⟨v,vr,e1,h⟩:=h
 subst e1
 cases r with
 | cons r rr =>
  rw [hs]
  refine assignInOrder_cons (thn (h1 pins s σ H _ _ _ I r h) fun _ s1 ⟨σ1,H1,I1,q1⟩=>?_)
  exact h2 pins s1 σ1 H1 _ _ Q I1 rr q1
inductive GTupR (K:PySem.W.Frag) (n:Nat) (t:TGs) (v:V) (σ:St) (H:Hp) (Q:St->Hp->Prop):Prop
 | mk (a:Addr) (xs:List V) (e:v=.ref a) (s:SqT K H a xs) (l:xs.length=n) (q:t xs σ H Q):GTupR K n t v σ H Q
def gTup (K:PySem.W.Frag) (n:Nat) (t:TGs):TG:=fun v σ H Q=>GTupR K n t v σ H Q
theorem pg_tup {es:List Expr} {k:Nat} {t:TGs} {n:Nat} (hc:X.calm=true) (h:PGs X es t)
  (hn:(assignEach es X.env).length=n:=by rfl) (hst:(assignEach es X.env).findIdx? (·.1)=none:=by rfl):PG X (.Tuple es k pos) (gTup X.K n t):=by
 intro pins s σ H v u Q I r hw
 obtain ⟨a,xs,e1,hq,hl,hw⟩:=hw
 subst e1
 cases r
 obtain ⟨its,rv,ht,hz⟩:=I.tuple hq
 refine assign_Tuple_tuple (I.ok.hd hc) ht (by simp [hn,←hl,rv.length]) hst fun h' hx=>?_
 have I1:Inv X pins σ H { s with heap:=h' }:=I.kept (t':=s.toks) fun b o e=>hx b o (Nat.ne_of_lt (Heap.lt_size e)) e
 exact h pins _ σ H xs _ Q I1 (by simpa using rv) hw
def gSub (to ti:TE) (t:TSet):TG:=fun v σ H Q=>to σ H fun o H1=>ti σ H1 fun i H2=>t o i v H2 fun H3=>Q σ H3
theorem pg_sub {o i:Expr} {to ti:TE} {t:TSet} (ho:PE X o to) (hi:PE X i ti) (hs:PSet X t)
  (ha:∀ v,assign (.Subscript o i pos) X.env v=(do
   let ov ←holding [v] (eval o X.env)
   let iv ←holding [v,ov] (eval i X.env)
   standAt pos
   holding [v,ov,iv] (setItem ov iv v)
   release [v,ov,iv] []):=by intro _; rfl):PG X (.Subscript o i pos) (gSub to ti t):=by
 intro pins s σ H v u Q I r h
 rw [ha]
 refine wpAny_bind (wpAny_holding (thn (ho pins s σ H _ I h) fun ov s1 ⟨x,H1,I1,r1,q1⟩=>?_))
 refine wpAny_bind (wpAny_holding (thn (hi pins s1 σ H1 _ I1 q1) fun iv s2 ⟨y,H2,I2,r2,q2⟩=>?_))
 refine wpAny_bind (wpAny_standAt (wpAny_bind (wpAny_holding (thn (hs pins s2 σ H2 x y v ov iv u _ I2 r1 r2 r q2) fun _ s3 ⟨H3,I3,q3⟩=>?_))))
 exact wpAny_release ⟨σ,H3,I3,q3⟩
def tAsg (te:TE) (g:TG):TS:=fun D σ H=>te σ H fun x H1=>g x σ H1 D.nx
theorem ps_asg {tg e:Expr} {te:TE} {g:TG} (he:PE X e te) (hg:PG X tg g) (hs:swapsWithSole [tg] e pos.line X.env=pure false:=by rfl) (hw:swappedStores [tg] e X.env=pure none:=by rfl)
  (h1:(assignEach [tg] X.env).map (·.2)=[assign tg X.env]:=by rfl):PS X (.Assign [tg] e pos) (tAsg te g):=by
 intro pins s σ H D I h
 refine wpAny_Assign_stores (thn (he pins s σ H _ I h) fun v s1 ⟨x,H1,I1,r1,q1⟩=>?_) hs hw
 rw [h1]
 exact thn (hg pins s1 σ H1 x v _ I1 r1 q1) fun _ s2 q=>q
theorem ps_set {i:Nat} {x:Str} {e:Expr} {te:TE} {pos':Pos} (hN:X.N.Nodup) (hi:X.N[i]?=some x) (hx:Loc X.env.scope x) (he:PE X e te) (hs:swapsWith e (some (.Name x pos')) pos.line X.env=pure false:=by rfl) (hf:X.fn x=true∨X.env.scope.names.lookup x=some .local:=by first | exact .inl rfl | exact .inr rfl | assumption) :
  PS X (.Assign [.Name x pos'] e pos) (tAsg te (gName i)):=by
 intro pins s σ H D I h
 refine wpAny_Assign_Name (thn (he pins s σ H _ I h) fun v s1 ⟨y,H1,I1,r1,q1⟩=>?_) hs
 exact store_ok I1 hN hi hx r1 (fun s2 I2=>⟨_,H1,I2,q1⟩) hf
def tPar (i j:Nat) (ta:TA):TS:=fun D σ H=>ta σ H fun vs H1=>∃ v w,vs=[v,w]∧D.nx ((σ.set i (some v)).set j (some w)) H1
theorem ps_par {i j:Nat} {x y:Str} {a b:Expr} {ta:TA} {px py pt:Pos} {kt k2 pt2} (hc:X.calm=true) (hN:X.N.Nodup) (hi:X.N[i]?=some x) (hj:X.N[j]?=some y) (hij:i≠j)
  (hx:X.env.scope.names.lookup x=some .local) (hy:X.env.scope.names.lookup y=some .local) (ha:PA X [a,b] ta)
  (hw:swappedStores [.Tuple [.Name x px,.Name y py] kt pt] (.Tuple [a,b] k2 pt2) X.env=pure (some [x,y]))
  (hs:swapsWithSole [.Tuple [.Name x px,.Name y py] kt pt] (.Tuple [a,b] k2 pt2) pos.line X.env=pure false:=by rfl) :
  PS X (.Assign [.Tuple [.Name x px,.Name y py] kt pt] (.Tuple [a,b] k2 pt2) pos) (tPar i j ta):=by
 intro pins s σ H D I h
 rw [exec_Assign_arm]
 refine wpAny_bind (wpAny_standAt ?_)
 rw [hs]
 refine wpAny_bind (wpAny_pure ?_)
 rw [if_neg (by decide)]
 refine wpAny_bind (Tuple_ (thn (ha _ pins s σ H _ I h) fun us s1 ⟨vs,H1,I1,r1,q1⟩=>?_))
 obtain ⟨v,w,e1,q1⟩:=q1
 subst e1
 obtain ⟨u1,u2,rfl,rv,rw'⟩:∃ u1 u2,us=[u1,u2]∧RelV v u1∧RelV w u2:=by
  cases r1 with
  | cons p q =>
   cases q with
   | cons p' q' =>
    cases q'
    exact ⟨_,_,rfl,p,p'⟩
 refine wpAny_newObj_type ?_ (by show 2≤sizeLine; decide)
 have I2:Inv X pins σ H1 { s1 with heap:=s1.heap.push { cls:=.type "tuple",data:=.seq [u1,u2].toArray } }:=I1.kept (t':=s1.toks) fun b o e=>Heap.get?_push_of_some _ e
 rw [hw]
 refine wpAny_bind (wpAny_pure ?_)
 show wpAny (model X.prog X.w) X.A (do rule "assign.swapped-stores"; let items ←unpackItems (.ref s1.heap.objs.size) 2 none; assignInOrder [fun v=>bindName X.env y v,fun v=>bindName X.env x v] items.reverse; pure Flow.next) _ _ _
 refine wpAny_bind (wpAny_rule (wpAny_bind (unpackItems_tuple (items:=#[u1,u2]) (I.ok.hd hc) (IsTup.new s1.heap _) fun h' hx'=>?_)))
 have I3:=I2.kept (h':=h') (t':=s1.toks) fun b o e=>hx' b o (Nat.ne_of_lt (Heap.lt_size e)) e
 show wpAny _ _ (assignInOrder [fun v=>bindName X.env y v,fun v=>bindName X.env x v] [u2,u1] >>= fun _=>pure Flow.next) _ _ _
 refine wpAny_bind (assignInOrder_cons (wpAny_bindName (store_ok I3 hN hj (.inl hy) rw' (fun s2 I4=>?_) (.inr hy))))
 refine assignInOrder_cons (wpAny_bindName (store_ok I4 hN hi (.inl hx) rv (fun s3 I5=>assignInOrder_nil (wpAny_pure ?_)) (.inr hx)))
 rw [List.set_comm _ _ (Ne.symm hij)] at I5
 exact ⟨_,H1,I5,q1⟩
end
section
variable {X:Cx} {pos:Pos}
def tWhile (c:TT) (tb:TS):TS:=fun D σ H=>∃ W:Nat->St->Hp->Prop,(∃ m,W m σ H)∧∀ m σ H,W m σ H →
 c σ H fun b H1=>if b=true then ∃ N:St->Hp->Prop,(∀ σ' H',N σ' H'->∃ m',m' < m∧W m' σ' H')∧tb { D with nx:=N,ct:=N,bk:=D.nx } σ H1 else D.nx σ H1
theorem ps_while {c:Expr} {body:List Stmt} {tc:TT} {tb:TS} (hp:PassesOwn (model X.prog X.w) X.A X.env X.xe) (hc:PT X c tc) (hb:PSs X body tb):PS X (.While c body [] pos) (tWhile tc tb):=by
 intro pins s σ H D I h
 obtain ⟨W,⟨m0,w0⟩,turn⟩:=h
 refine wpAny_While (codeAny_whileLoop (fun n s'=>∃ σ' H',Inv X pins σ' H' s'∧W n σ' H') ?_ m0 ⟨σ,H,I,w0⟩)
 rintro n s1 ⟨σ1,H1,I1,w1⟩
 refine wpAny_passesOwn hp (thn (hc pins s1 σ1 H1 _ I1 (turn n σ1 H1 w1)) fun b s2 ⟨H2,I2,q2⟩=>?_)
 cases b with
 | true =>
  obtain ⟨N,hN,q2⟩:=q2
  rw [if_pos rfl]
  refine wpAny_passesOwn hp (thn (hb pins s2 σ1 H2 _ I2 q2) fun f s3 q3=>?_)
  cases f with
  | next =>
   obtain ⟨σ3,H3,I3,n3⟩:=q3
   obtain ⟨m',hm,w3⟩:=hN σ3 H3 n3
   exact ⟨m',hm,σ3,H3,I3,w3⟩
  | cont =>
   obtain ⟨σ3,H3,I3,n3⟩:=q3
   obtain ⟨m',hm,w3⟩:=hN σ3 H3 n3
   exact ⟨m',hm,σ3,H3,I3,w3⟩
  | brk=>exact q3
  | ret v=>exact q3
 | false =>
  rw [if_neg Bool.false_ne_true]
  exact wpAny_execs_nil ⟨σ1,H2,I2,q2⟩
end
structure It where
 go:Nat->Hp->Prop
 yld:Nat->Hp->V->Hp->Prop
 stop:Nat->Hp->Prop
def FpOk (X:Cx) (pins:List (Addr×Obj)) (H:Hp) (b:Addr):Prop :=
 H b=none∧b≠X.env.locals∧b∉X.fs∧(b∈X.ex∨X.s₀.heap.objs.size≤b)∧(∀ x c,X.env.cells.lookup x=some c->c≠b)∧∀ p∈X.pn++pins,p.1≠b
theorem Inv.fpOk {X:Cx} {pins:List (Addr×Obj)} {σ:St} {H H':Hp} {s:Shared} {b:Addr} (I:Inv X pins σ H s) (hb:s.heap.objs.size≤b) (hn:H' b=none):FpOk X pins H' b:=by
 refine ⟨hn,Nat.ne_of_gt (Nat.lt_of_lt_of_le I.lt hb),I.nofs hb,.inr (Nat.le_trans I.sz hb),fun x c e z=>?_,fun p hp z=>?_⟩
 ·obtain ⟨v,q⟩:=I.cell x c e
  exact absurd (Nat.lt_of_lt_of_le q.lt (by rw [z]; exact hb)) (Nat.lt_irrefl _)
 ·exact absurd (Nat.lt_of_lt_of_le (Heap.lt_size (I.pin p hp).1) (by rw [z]; exact hb)) (Nat.lt_irrefl _)
structure Turn (P:Program) (w:World) (K:PySem.W.Frag) (tg:Expr) (J:It) (fp:List Addr) (it:Addr) (tn:Nat->Heap->Prop):Prop where
 mem:it∈fp
 obj:∀ i h,tn i h->∀ b∈fp,∃ o,h.get? b=some o∧∀ v,o.data≠.cell v
 keep:∀ i h h',tn i h->(∀ b∈fp,∀ o,h.get? b=some o->h'.get? b=some o)->tn i h'
 item:∀ (X:Cx),X.prog=P->X.w=w->X.K=K->X.calm=true->∀ (i:Nat) (pins:List (Addr×Obj)) (s:Shared) (σ:St) (H:Hp) (E:Value->Shared->Prop),Inv X pins σ H s->(∀ b∈fp,FpOk X pins H b)->tn i s.heap->J.go i H →
  wpAny (model P w) X.A (pyNext (.ref it)) (fun r s1=>∃ u,r=some u ∧
   wpAny (model P w) X.A (letOwnedTupleGo tg (.ref it) u) (fun _ s2=>∃ x H',Inv X pins σ H' s2∧RelV x u∧J.yld i H x H'∧tn (i+1) s2.heap∧∀ b∈fp,H' b=none) E s1) E s
 done:∀ (X:Cx),X.prog=P->X.w=w->X.K=K->X.calm=true->∀ (i:Nat) (pins:List (Addr×Obj)) (s:Shared) (σ:St) (H:Hp) (E:Value->Shared->Prop),Inv X pins σ H s->(∀ b∈fp,FpOk X pins H b)->tn i s.heap->J.stop i H →
  wpAny (model P w) X.A (pyNext (.ref it)) (fun r s1=>r=none∧Inv X pins σ H s1) E s
 self:∀ (A:Around) (i:Nat) (s:Shared) (Q:Value->Shared->Prop) (E:Value->Shared->Prop),tn i s.heap->Q (.ref it) s->wpAny (model P w) A (pyIter (.ref it)) Q E s
abbrev TI:=St->Hp->(It->Hp->Prop)->Prop
def PIE (X:Cx) (pins:List (Addr×Obj)) (σ:St) (tg:Expr) (R:It->Hp->Prop) (itv:Value) (s2:Shared):Prop :=
 ∃ (it:Addr) (fp:List Addr) (tn:Nat->Heap->Prop) (J:It) (H':Hp),itv=.ref it∧Inv X pins σ H' s2∧Turn X.prog X.w X.K tg J fp it tn∧tn 0 s2.heap∧(∀ b∈fp,FpOk X pins H' b)∧R J H'
def PI (X:Cx) (tg iter:Expr) (wi:TI):Prop :=
 ∀ (pins:List (Addr×Obj)) (s:Shared) (σ:St) (H:Hp) (R:It->Hp->Prop),Inv X pins σ H s->wi σ H R →
  wpAny (model X.prog X.w) X.A (eval iter X.env) (fun v s1=>wpAny (model X.prog X.w) X.A (pyIter v) (PIE X pins σ tg R) X.xe s1) X.xe s
theorem go_of {M : Model} {A : Around} {E : Value → Shared → Prop} {s : Shared} {tg : Expr} {it : Addr} {u : Value} {o : Obj} {n : String} {vs : Array Value} {Q : Unit → Shared → Prop} (ho : s.heap.get? it = some o) (hc : o.cls = .type n) (hd : o.data = .fields vs)
    (hn : ["enumerate", "zip", "dict_itemiterator", "dict_reverseitemiterator", "odict_iterator", "itertools.zip_longest", "itertools.pairwise"].contains n = false) (hQ : Q () s) : wpAny M A (letOwnedTupleGo tg (.ref it) u) Q E s := by
  unfold letOwnedTupleGo
  cases tg <;> first
    | exact wpAny_pure hQ
    | (cases u <;> first
        | exact wpAny_pure hQ
        | (refine wpAny_bind (wpAny_load ho ?_)
           rw [hc, hd]
           show wpAny M A (if (["enumerate", "zip", "dict_itemiterator", "dict_reverseitemiterator", "odict_iterator", "itertools.zip_longest", "itertools.pairwise"].contains n && vs[0]? == some (rawInt _)) = true then _ else _) Q E s
           rw [if_neg (by intro h; rw [hn, Bool.false_and] at h; cases h)]
           exact wpAny_pure hQ))
def Itl (K:PySem.W.Frag) (a:Addr):It :=
 ⟨fun i H=>∃ xs x,SqL K H a xs∧xs[i]?=some x,fun i H x H'=>H'=H∧∀ xs,SqL K H a xs->xs[i]?=some x,fun i H=>∃ xs,SqL K H a xs∧xs.length≤i⟩
def Itt (K:PySem.W.Frag) (a:Addr):It :=
 ⟨fun i H=>∃ xs x,SqT K H a xs∧xs[i]?=some x,fun i H x H'=>H'=H∧∀ xs,SqT K H a xs->xs[i]?=some x,fun i H=>∃ xs,SqT K H a xs∧xs.length≤i⟩
def Itr (lo:Int) (n:Nat):It:=⟨fun i _=>i<n,fun i H x H'=>H'=H∧x=.int (lo+i),fun i _=>n≤i⟩
theorem turn_list {P:Program} {w:World} {K:PySem.W.Frag} {tg:Expr} (a it:Addr):Turn P w K tg (Itl K a) [it] it (fun i h=>h.IsListIter it a i) where
 mem:=by simp
 obj:=fun i h st b hb=>by
  have e:b=it:=by simpa using hb
  subst e
  obtain ⟨o,e,c,d⟩:=st
  exact ⟨o,e,fun v z=>by rw [d] at z; cases z⟩
 keep:=fun i h h' st k=>st.at fun o e=>k it (by simp) o e
 item:=by
  intro X hP hw hK hc i pins s σ H E I hf st hg
  subst hP hw hK
  obtain ⟨xs,x,hq,hx⟩:=hg
  obtain ⟨its,rv,p,hz⟩:=I.list hq
  obtain ⟨u,hu,ru⟩:=rv.get hx
  obtain ⟨f0,f1,f2,f3,f4,f5⟩:=hf it (by simp)
  refine wpAny_pyNext_list_item st p.isList (x:=u) (by simpa using hu) fun h' st' sb=>?_
  have I1:Inv X pins σ H { s with heap:=h' }:=I.turned (t':=s.toks) (fun b o hb e=>(sb.2 b hb).trans e) f0 f1 f3 f4 f5
  obtain ⟨o,e,c,d⟩:=id st'
  exact ⟨u,rfl,go_of (s:={ s with heap:=h' }) e c d (by decide) ⟨x,H,I1,ru,⟨rfl,fun ys hy=>by rw [I.list_inj hy hq]; exact hx⟩,st',fun b hb=>(hf b hb).1⟩⟩
 done:=by
  intro X hP hw hK hc i pins s σ H E I hf st hg
  subst hP hw hK
  obtain ⟨xs,hq,hx⟩:=hg
  obtain ⟨its,rv,p,hz⟩:=I.list hq
  obtain ⟨f0,f1,f2,f3,f4,f5⟩:=hf it (by simp)
  have hl:=rv.length
  exact wpAny_pyNext_list_end (I.ok.hd hc) st p.isList (by simp; omega) fun h' eb=>⟨rfl,I.turned (t':=s.toks) (fun b o hb e=>eb b o hb e) f0 f1 f3 f4 f5⟩
 self:=fun _ _ _ _ _ st h=>wpAny_pyIter_listiter st h
theorem turn_tuple {P:Program} {w:World} {K:PySem.W.Frag} {tg:Expr} (a it:Addr):Turn P w K tg (Itt K a) [it] it (fun i h=>h.IsTupleIter it a i) where
 mem:=by simp
 obj:=fun i h st b hb=>by
  have e:b=it:=by simpa using hb
  subst e
  obtain ⟨o,e,c,d⟩:=st
  exact ⟨o,e,fun v z=>by rw [d] at z; cases z⟩
 keep:=fun i h h' st k=>st.at fun o e=>k it (by simp) o e
 item:=by
  intro X hP hw hK hc i pins s σ H E I hf st hg
  subst hP hw hK
  obtain ⟨xs,x,hq,hx⟩:=hg
  obtain ⟨its,rv,p,hz⟩:=I.tuple hq
  obtain ⟨u,hu,ru⟩:=rv.get hx
  obtain ⟨f0,f1,f2,f3,f4,f5⟩:=hf it (by simp)
  refine wpAny_pyNext_tuple_item st (show s.heap.IsTuple a its.toArray from p) (x:=u) (by simpa using hu) fun h' st' sb=>?_
  have I1:Inv X pins σ H { s with heap:=h' }:=I.turned (t':=s.toks) (fun b o hb e=>(sb.2 b hb).trans e) f0 f1 f3 f4 f5
  obtain ⟨o,e,c,d⟩:=id st'
  exact ⟨u,rfl,go_of (s:={ s with heap:=h' }) e c d (by decide) ⟨x,H,I1,ru,⟨rfl,fun ys hy=>by rw [I.tuple_inj hy hq]; exact hx⟩,st',fun b hb=>(hf b hb).1⟩⟩
 done:=by
  intro X hP hw hK hc i pins s σ H E I hf st hg
  subst hP hw hK
  obtain ⟨xs,hq,hx⟩:=hg
  obtain ⟨its,rv,p,hz⟩:=I.tuple hq
  obtain ⟨f0,f1,f2,f3,f4,f5⟩:=hf it (by simp)
  have hl:=rv.length
  exact wpAny_pyNext_tuple_end (I.ok.hd hc) st (show s.heap.IsTuple a its.toArray from p) (by simp; omega) fun h' eb=>⟨rfl,I.turned (t':=s.toks) (fun b o hb e=>eb b o hb e) f0 f1 f3 f4 f5⟩
 self:=fun _ _ _ _ _ st h=>wpAny_pyIter_tupleiter st h
theorem turn_range {P:Program} {w:World} {K:PySem.W.Frag} {tg:Expr} (it:Addr) (lo:Int) (n:Nat):Turn P w K tg (Itr lo n) [it] it (fun i h=>IsRangeIter h it (lo+(i:Nat)*1) ((n:Int)-(i:Nat)) 1) where
 mem:=by simp
 obj:=fun i h st b hb=>by
  have e:b=it:=by simpa using hb
  subst e
  exact ⟨_,st,fun v z=>by
   have z':Data.fields _=Data.cell v:=z
   cases z'⟩
 keep:=fun i h h' st k=>k it (by simp) _ st
 item:=by
  intro X hP hw hK hc i pins s σ H E I hf st hg
  subst hP hw hK
  obtain ⟨f0,f1,f2,f3,f4,f5⟩:=hf it (by simp)
  have W:=Walks.range (prog:=X.prog) (w:=X.w) (I.ok.hd hc) it lo 1 n
  refine W.item i s _ _ hg st fun v h' tk hv st' kk=>?_
  obtain ⟨t,rfl⟩:=hv
  have I1:Inv X pins σ H { s with heap:=h',toks:=tk }:=I.turned (fun b o hb e=>kk b o (by simpa using hb) e) f0 f1 f3 f4 f5
  refine ⟨_,rfl,go_of (s:={ s with heap:=h',toks:=tk }) (n:="range_iterator") st' rfl rfl (by decide) ⟨.int (lo+i),H,I1,⟨t,?_⟩,⟨rfl,rfl⟩,st',fun b hb=>(hf b hb).1⟩⟩
  rw [Int.mul_one]
 done:=by
  intro X hP hw hK hc i pins s σ H E I hf st hg
  subst hP hw hK
  obtain ⟨f0,f1,f2,f3,f4,f5⟩:=hf it (by simp)
  exact wpAny_pyNext_range_end (I.ok.hd hc) st (by have:n≤i:=hg; omega) fun h' eb=>⟨rfl,I.turned (t':=s.toks) (fun b o hb e=>eb b o hb e) f0 f1 f3 f4 f5⟩
 self:=fun _ _ _ _ _ st h=>wpAny_pyIter_rangeiter st h
end L2
namespace L2
open PySem PySem.Spec PyProof.Rows
section
variable {X:Cx} {tg:Expr}
inductive IListR (K:PySem.W.Frag) (x:V) (H:Hp) (R:It->Hp->Prop):Prop
 | mk (a:Addr) (e:x=.ref a) (s:∃ xs,SqL K H a xs) (q:R (Itl K a) H):IListR K x H R
inductive ITupR (K:PySem.W.Frag) (x:V) (H:Hp) (R:It->Hp->Prop):Prop
 | mk (a:Addr) (e:x=.ref a) (s:∃ xs,SqT K H a xs) (q:R (Itt K a) H):ITupR K x H R
def iList (K:PySem.W.Frag) (tl:TE):TI:=fun σ H R=>tl σ H fun x H1=>IListR K x H1 R
def iTup (K:PySem.W.Frag) (tl:TE):TI:=fun σ H R=>tl σ H fun x H1=>ITupR K x H1 R
theorem pi_list {l:Expr} {tl:TE} (hl:PE X l tl):PI X tg l (iList X.K tl):=by
 intro pins s σ H R I h
 refine thn (hl pins s σ H _ I h) fun v s1 ⟨x,H1,I1,r1,q1⟩=>?_
 obtain ⟨a,e,⟨xs,hq⟩,q⟩:=q1
 subst e
 cases r1
 obtain ⟨its,rv,p,hz⟩:=I1.list hq
 refine wpAny_pyIter_list p.isList ?_
 refine ⟨s1.heap.objs.size,[s1.heap.objs.size],_,_,H1,rfl,I1.kept (t':=s1.toks) fun b o e=>Heap.get?_push_of_some _ e,turn_list a _,⟨_,Heap.get?_push_size _ rfl,rfl,rfl⟩,fun b hb=>?_,q⟩
 have e:b=s1.heap.objs.size:=by simpa using hb
 subst e
 exact I1.fpOk (Nat.le_refl _) (I1.hok.fresh (Nat.le_refl _))
theorem pi_tup {l:Expr} {tl:TE} (hl:PE X l tl):PI X tg l (iTup X.K tl):=by
 intro pins s σ H R I h
 refine thn (hl pins s σ H _ I h) fun v s1 ⟨x,H1,I1,r1,q1⟩=>?_
 obtain ⟨a,e,⟨xs,hq⟩,q⟩:=q1
 subst e
 cases r1
 obtain ⟨its,rv,p,hz⟩:=I1.tuple hq
 refine wpAny_pyIter_tuple (show s1.heap.IsTuple a its.toArray from p) ?_
 refine ⟨s1.heap.objs.size,[s1.heap.objs.size],_,_,H1,rfl,I1.kept (t':=s1.toks) fun b o e=>Heap.get?_push_of_some _ e,turn_tuple a _,⟨_,Heap.get?_push_size _ rfl,rfl,rfl⟩,fun b hb=>?_,q⟩
 have e:b=s1.heap.objs.size:=by simpa using hb
 subst e
 exact I1.fpOk (Nat.le_refl _) (I1.hok.fresh (Nat.le_refl _))
theorem range_it {pins:List (Addr×Obj)} {σ:St} {H:Hp} {s:Shared} {R:It->Hp->Prop} {E:Value->Shared->Prop} {lo hi:Int} {t u v:Tok} {tk:Nat} (I:Inv X pins σ H s) (h1:-(2 ^ 62)≤lo) (h2:lo<2 ^ 62) (h3:-(2 ^ 62)≤hi) (h4:hi<2 ^ 62)
  (q:R (Itr lo (hi-lo).toNat) H):wpAny (model X.prog X.w) X.A (pyIter (.ref s.heap.objs.size)) (PIE X pins σ tg R) E { s with heap:=s.heap.push { cls:=.type "range",data:=.fields #[.int lo t,.int hi u,.int 1 v] },toks:=tk }:=by
 refine wpAny_pyIter_range (IsRange.new ..) (small_one h1 h2 h3 h4) ?_
 have I1:Inv X pins σ H { s with heap:=s.heap.push { cls:=.type "range",data:=.fields #[.int lo t,.int hi u,.int 1 v] },toks:=tk }:=I.kept fun b o e=>Heap.get?_push_of_some _ e
 refine ⟨(s.heap.push { cls:=.type "range",data:=.fields #[.int lo t,.int hi u,.int 1 v] }).objs.size,[(s.heap.push { cls:=.type "range",data:=.fields #[.int lo t,.int hi u,.int 1 v] }).objs.size],_,_,H,rfl,
  I1.kept (t':=tk) fun b o e=>Heap.get?_push_of_some _ e,turn_range _ lo (hi-lo).toNat,?_,fun b hb=>?_,q⟩
 ·have e1:lo+((0:Nat):Int)*1=lo:=by simp
  have e2:(((hi-lo).toNat:Nat):Int)-((0:Nat):Int)=Builtin.Range.rangeSize lo hi 1:=by rw [rangeSize_one]; split <;> omega
  show IsRangeIter _ _ (lo+((0:Nat):Int)*1) ((((hi-lo).toNat:Nat):Int)-((0:Nat):Int)) 1
  rw [e1,e2]
  exact Heap.get?_push_size _ rfl
 ·have e:b=(s.heap.push { cls:=.type "range",data:=.fields #[.int lo t,.int hi u,.int 1 v] }).objs.size:=by simpa using hb
  subst e
  exact I1.fpOk (Nat.le_refl _) (I1.hok.fresh (Nat.le_refl _))
def iRng1 (ta:TA):TI:=fun σ H R=>ta σ H fun vs H1=>∃ j:Int,vs=[.int j]∧-(2 ^ 62)≤j∧j<2 ^ 62∧R (Itr 0 j.toNat) H1
def iRng2 (ta:TA):TI:=fun σ H R=>ta σ H fun vs H1=>∃ i j:Int,vs=[.int i,.int j]∧(-(2 ^ 62)≤i∧i<2 ^ 62∧-(2 ^ 62)≤j∧j<2 ^ 62)∧R (Itr i (j-i).toNat) H1
theorem pi_range1 {a:Expr} {ta:TA} {p pos:Pos} (hg:Gl X "range") (hm:X.mg "range" = none) (ha:PA X [a] ta) (hs:starEach [a] X.env=[(false,eval a X.env)]:=by rfl):PI X tg (.Call (.Name "range" p) [a] [] pos) (iRng1 ta):=by
 intro pins s σ H R I h
 refine Call_ (ld_blt I hg hm boot_range (PyProof.Rows.callWith_type1 (thn (ha pos pins s σ H _ I h) fun us s1 ⟨vs,H1,I1,r1,q1⟩=>?_) hs rfl))
 obtain ⟨j,e,q1,q2,q⟩:=q1
 subst e
 cases r1 with
 | cons r rr =>
  cases rr
  obtain ⟨t,rfl⟩:=r
  exact call_range_1 (range_it I1 (by omega) (by omega) q1 q2 (by simpa using q))
theorem pi_range2 {a b:Expr} {ta:TA} {p pos:Pos} (hg:Gl X "range") (hm:X.mg "range" = none) (ha:PA X [a,b] ta) (hs:starEach [a,b] X.env=[(false,eval a X.env),(false,eval b X.env)]:=by rfl) (hs2:starEach [b] X.env=[(false,eval b X.env)]:=by rfl) :
  PI X tg (.Call (.Name "range" p) [a,b] [] pos) (iRng2 ta):=by
 intro pins s σ H R I h
 refine Call_ (ld_blt I hg hm boot_range (PyProof.Rows.callWith_type1 (thn (ha pos pins s σ H _ I h) fun us s1 ⟨vs,H1,I1,r1,q1⟩=>?_) (by rw [hs,hs2]) (by rw [hs2]; rfl)))
 obtain ⟨i,j,e,⟨q1,q2,q3,q4⟩,q⟩:=q1
 subst e
 cases r1 with
 | cons r rr =>
  cases rr with
  | cons r' rr =>
   cases rr
   obtain ⟨t,rfl⟩:=r
   obtain ⟨t',rfl⟩:=r'
   exact call_range_2 (range_it I1 q1 q2 q3 q4 q)
def tFor (wi:TI) (g:TG) (tb:TS):TS:=fun D σ H=>wi σ H fun J H1=>∃ W:Nat->Nat->St->Hp->Prop,(∃ m,W 0 m σ H1)∧∀ i m σ H,W i m σ H →
 (J.stop i H∧D.nx σ H)∨(J.go i H∧∃ N:St->Hp->Prop,(∀ σ' H',N σ' H'->∃ m',m' < m∧W (i+1) m' σ' H')∧∀ x H',J.yld i H x H'->g x σ H' fun σ2 H2=>tb { D with nx:=N,ct:=N,bk:=D.nx } σ2 H2)
def pinsAt (fp:List Addr) (h:Heap):List (Addr×Obj):=fp.filterMap fun b=>(h.get? b).map fun o=>(b,o)
theorem mem_pinsAt {fp:List Addr} {h:Heap} {b:Addr} {o:Obj} (hb:b∈fp) (e:h.get? b=some o):(b,o)∈pinsAt fp h:=List.mem_filterMap.mpr ⟨b,hb,by rw [e]; rfl⟩
theorem of_pinsAt {fp:List Addr} {h:Heap} {p:Addr×Obj} (hp:p∈pinsAt fp h):p.1∈fp∧h.get? p.1=some p.2:=by
 obtain ⟨b,hb,e⟩:=List.mem_filterMap.mp hp
 cases q:h.get? b with
 | none=>rw [q] at e; cases e
 | some o =>
  rw [q] at e
  have e':(b,o)=p:=Option.some.inj e
  subst e'
  exact ⟨hb,q⟩
theorem Inv.pinned {pins:List (Addr×Obj)} {σ:St} {H:Hp} {s:Shared} {fp:List Addr} (I:Inv X pins σ H s) (hf:∀ b∈fp,FpOk X pins H b) (ho:∀ b∈fp,∃ o,s.heap.get? b=some o∧∀ v,o.data≠.cell v):Inv X (pins++pinsAt fp s.heap) σ H s :=
 I.pins_of fun p hp=>(List.mem_append.mp hp).elim (fun z=>I.pin p (List.mem_append_right _ z)) fun z=>by
  obtain ⟨hb,e⟩:=of_pinsAt z
  obtain ⟨f0,f1,f2,_⟩:=hf p.1 hb
  obtain ⟨o,e',d⟩:=ho p.1 hb
  rw [e] at e'; cases e'
  exact ⟨e,f0,f1,f2,d⟩
theorem Inv.unpinned {pins pl:List (Addr×Obj)} {σ:St} {H:Hp} {s:Shared} (I:Inv X (pins++pl) σ H s):Inv X pins σ H s:=I.pins_of fun p hp=>I.pin p (List.mem_append_right _ (List.mem_append_left _ hp))
theorem ps_for {iter:Expr} {body:List Stmt} {wi:TI} {g:TG} {tb:TS} {pos:Pos} (hp:PassesOwn (model X.prog X.w) X.A X.env X.xe) (hc:X.calm=true) (hi:PI X tg iter wi) (hg:PG X tg g) (hb:PSs X body tb)
  (hs:∀ x,foldedSetIterable iter X.env x=pure x:=by intro _; rfl):PS X (.For tg iter body [] pos) (tFor wi g tb):=by
 intro pins s σ H D I h
 refine wpAny_For (thn (hi pins s σ H _ I h) fun v s1 h1=>thn h1 fun itv s2 h2=>?_) hs
 obtain ⟨it,fp,tn,J,H2,e,I2,T,st2,f2,W,⟨m0,w0⟩,turn⟩:=h2
 subst e
 have stat:∀ {H':Hp},(∀ b∈fp,H' b=none)->∀ b∈fp,FpOk X pins H' b:=fun hn b hb=>⟨hn b hb,(f2 b hb).2⟩
 refine codeAny_forLoop_any (fun n s'=>∃ i σ' H',Inv X pins σ' H' s'∧tn i s'.heap∧(∀ b∈fp,H' b=none)∧W i n σ' H') ?_ m0 ⟨0,σ,H2,I2,st2,fun b hb=>(f2 b hb).1,w0⟩
 rintro n s3 ⟨i,σ3,H3,I3,st3,fr3,w3⟩
 rcases turn i n σ3 H3 w3 with ⟨stop,qn⟩ | ⟨go,N,hN,step⟩
 ·refine wpAny_passesOwn hp (thn (T.done X rfl rfl rfl hc i pins s3 σ3 H3 X.xe I3 (stat fr3) st3 stop) fun r s4 ⟨hr,I4⟩=>?_)
  subst hr
  exact wpAny_execs_nil ⟨σ3,H3,I4,qn⟩
 ·refine wpAny_passesOwn hp (thn (T.item X rfl rfl rfl hc i pins s3 σ3 H3 X.xe I3 (stat fr3) st3 go) fun r s4 ⟨u,hr,h4⟩=>?_)
  subst hr
  refine wpAny_passesOwn hp (thn h4 fun _ s5 ⟨x,H5,I5,r5,y5,st5,fr5⟩=>?_)
  have I5':=I5.pinned (stat fr5) (T.obj _ _ st5)
  refine wpAny_passesOwn hp (thn (hg _ s5 σ3 H5 x u _ I5' r5 (step x H5 y5)) fun _ s6 ⟨σ6,H6,I6,q6⟩=>?_)
  refine wpAny_passesOwn hp (thn (hb _ s6 σ6 H6 _ I6 q6) fun f s7 q7=>?_)
  have again:∀ {σ7:St} {H7:Hp},Inv X (pins++pinsAt fp s5.heap) σ7 H7 s7->N σ7 H7->∃ m,m<n∧∃ i σ' H',Inv X pins σ' H' s7∧tn i s7.heap∧(∀ b∈fp,H' b=none)∧W i m σ' H':=fun {σ7 H7} I7 n7=>by
   obtain ⟨m',hm,w7⟩:=hN σ7 H7 n7
   refine ⟨m',hm,i+1,σ7,H7,I7.unpinned,T.keep _ _ _ st5 fun b hb o e=>(I7.pin (b,o) (List.mem_append_right _ (List.mem_append_right _ (mem_pinsAt hb e)))).1,fun b hb=>?_,w7⟩
   obtain ⟨o,e,d⟩:=T.obj _ _ st5 b hb
   exact (I7.pin (b,o) (List.mem_append_right _ (List.mem_append_right _ (mem_pinsAt hb e)))).2.1
  cases f with
  | next=>obtain ⟨σ7,H7,I7,n7⟩:=q7; exact again I7 n7
  | cont=>obtain ⟨σ7,H7,I7,n7⟩:=q7; exact again I7 n7
  | brk=>obtain ⟨σ7,H7,I7,q7⟩:=q7; exact ⟨σ7,H7,I7.unpinned,q7⟩
  | ret v=>obtain ⟨x7,σ7,H7,I7,r7,q7⟩:=q7; exact ⟨x7,σ7,H7,I7.unpinned,r7,q7⟩
end
theorem for_list {K:PySem.W.Frag} {a:Addr} {xs:List V} {g:TG} {tb:TS} {D:Ends} {σ:St} {H:Hp} (Pv:Nat->St->Hp->Prop) (h0:Pv 0 σ H) (hl:∀ i σ H,i≤xs.length->Pv i σ H->SqL K H a xs)
  (hs:∀ i x σ H,xs[i]?=some x->Pv i σ H->g x σ H fun σ2 H2=>tb { D with nx:=Pv (i+1),ct:=Pv (i+1),bk:=D.nx } σ2 H2) (hd:∀ σ H,Pv xs.length σ H->D.nx σ H) :
  ∃ W:Nat->Nat->St->Hp->Prop,(∃ m,W 0 m σ H)∧∀ i m σ H,W i m σ H →
   ((Itl K a).stop i H∧D.nx σ H)∨((Itl K a).go i H∧∃ N:St->Hp->Prop,(∀ σ' H',N σ' H'->∃ m',m' < m∧W (i+1) m' σ' H')∧∀ x H',(Itl K a).yld i H x H'->g x σ H' fun σ2 H2=>tb { D with nx:=N,ct:=N,bk:=D.nx } σ2 H2):=by
 refine ⟨fun i m σ H=>m=xs.length-i∧i≤xs.length∧Pv i σ H,⟨xs.length,by simp,Nat.zero_le _,h0⟩,?_⟩
 rintro i m σ H ⟨rfl,hi,p⟩
 have q:=hl i σ H hi p
 by_cases hlt:i<xs.length
 ·refine .inr ⟨⟨xs,xs[i],q,by simp [hlt]⟩,Pv (i+1),fun σ' H' p'=>⟨xs.length-(i+1),by omega,rfl,hlt,p'⟩,fun x H' y=>?_⟩
  obtain ⟨e,y⟩:=y
  subst e
  exact hs i x σ _ (y xs q) p
 ·have e:i=xs.length:=by omega
  subst e
  exact .inl ⟨⟨xs,q,Nat.le_refl _⟩,hd σ H p⟩
theorem for_tup {K:PySem.W.Frag} {a:Addr} {xs:List V} {g:TG} {tb:TS} {D:Ends} {σ:St} {H:Hp} (Pv:Nat->St->Hp->Prop) (h0:Pv 0 σ H) (hl:∀ i σ H,i≤xs.length->Pv i σ H->SqT K H a xs)
  (hs:∀ i x σ H,xs[i]?=some x->Pv i σ H->g x σ H fun σ2 H2=>tb { D with nx:=Pv (i+1),ct:=Pv (i+1),bk:=D.nx } σ2 H2) (hd:∀ σ H,Pv xs.length σ H->D.nx σ H) :
  ∃ W:Nat->Nat->St->Hp->Prop,(∃ m,W 0 m σ H)∧∀ i m σ H,W i m σ H →
   ((Itt K a).stop i H∧D.nx σ H)∨((Itt K a).go i H∧∃ N:St->Hp->Prop,(∀ σ' H',N σ' H'->∃ m',m' < m∧W (i+1) m' σ' H')∧∀ x H',(Itt K a).yld i H x H'->g x σ H' fun σ2 H2=>tb { D with nx:=N,ct:=N,bk:=D.nx } σ2 H2):=by
 refine ⟨fun i m σ H=>m=xs.length-i∧i≤xs.length∧Pv i σ H,⟨xs.length,by simp,Nat.zero_le _,h0⟩,?_⟩
 rintro i m σ H ⟨rfl,hi,p⟩
 have q:=hl i σ H hi p
 by_cases hlt:i<xs.length
 ·refine .inr ⟨⟨xs,xs[i],q,by simp [hlt]⟩,Pv (i+1),fun σ' H' p'=>⟨xs.length-(i+1),by omega,rfl,hlt,p'⟩,fun x H' y=>?_⟩
  obtain ⟨e,y⟩:=y
  subst e
  exact hs i x σ _ (y xs q) p
 ·have e:i=xs.length:=by omega
  subst e
  exact .inl ⟨⟨xs,q,Nat.le_refl _⟩,hd σ H p⟩
theorem for_range {lo:Int} {n:Nat} {g:TG} {tb:TS} {D:Ends} {σ:St} {H:Hp} (Pv:Nat->St->Hp->Prop) (h0:Pv 0 σ H)
  (hs:∀ i σ H,i<n->Pv i σ H->g (.int (lo+i)) σ H fun σ2 H2=>tb { D with nx:=Pv (i+1),ct:=Pv (i+1),bk:=D.nx } σ2 H2) (hd:∀ σ H,Pv n σ H->D.nx σ H) :
  ∃ W:Nat->Nat->St->Hp->Prop,(∃ m,W 0 m σ H)∧∀ i m σ H,W i m σ H →
   ((Itr lo n).stop i H∧D.nx σ H)∨((Itr lo n).go i H∧∃ N:St->Hp->Prop,(∀ σ' H',N σ' H'->∃ m',m' < m∧W (i+1) m' σ' H')∧∀ x H',(Itr lo n).yld i H x H'->g x σ H' fun σ2 H2=>tb { D with nx:=N,ct:=N,bk:=D.nx } σ2 H2):=by
 refine ⟨fun i m σ H=>m=n-i∧i≤n∧Pv i σ H,⟨n,by simp,Nat.zero_le _,h0⟩,?_⟩
 rintro i m σ H ⟨rfl,hi,p⟩
 by_cases hlt:i<n
 ·refine .inr ⟨hlt,Pv (i+1),fun σ' H' p'=>⟨n-(i+1),by omega,rfl,hlt,p'⟩,fun x H' y=>?_⟩
  obtain ⟨e,y⟩:=y
  subst e y
  exact hs i σ _ hlt p
 ·have e:i=n:=by omega
  subst e
  exact .inl ⟨Nat.le_refl _,hd σ H p⟩
theorem while_by {c:TT} {tb:TS} {D:Ends} {σ:St} {H:Hp} (Pv:St->Hp->Prop) (μ:St->Hp->Nat) (h0:Pv σ H)
  (hs:∀ σ H,Pv σ H->c σ H fun b H1=>if b=true then tb { D with nx:=fun σ' H'=>Pv σ' H'∧μ σ' H' < μ σ H,ct:=fun σ' H'=>Pv σ' H'∧μ σ' H' < μ σ H,bk:=D.nx } σ H1 else D.nx σ H1)
  (mono:∀ σ H Q Q',(∀ b H1,Q b H1->Q' b H1)->c σ H Q->c σ H Q'):tWhile c tb D σ H:=by
 refine ⟨fun m σ H=>m=μ σ H∧Pv σ H,⟨_,rfl,h0⟩,?_⟩
 rintro m σ H ⟨rfl,p⟩
 refine mono σ H _ _ (fun b H1 q=>?_) (hs σ H p)
 cases b with
 | true=>exact ⟨_,fun σ' H' ⟨p',l⟩=>⟨_,l,rfl,p'⟩,q⟩
 | false=>exact q
end L2
namespace L2
open PySem PySem.Spec PyProof.Rows
abbrev R2:=V->V->Hp->VK->Prop
def OpR (X:Cx) (f:Value->Value->Sem Value) (r:R2):Prop :=
 ∀ (pins:List (Addr×Obj)) (s:Shared) (σ:St) (H:Hp) (x y:V) (v u:Value) (Q:VK),Inv X pins σ H s->RelV x v->RelV y u->r x y H Q →
  wpAny (model X.prog X.w) X.A (f v u) (EP X pins σ Q) X.xe s
def UnR (X:Cx) (f:Value->Sem Value) (r:V->Hp->VK->Prop):Prop :=
 ∀ (pins:List (Addr×Obj)) (s:Shared) (σ:St) (H:Hp) (x:V) (v:Value) (Q:VK),Inv X pins σ H s->RelV x v->r x H Q →
  wpAny (model X.prog X.w) X.A (f v) (EP X pins σ Q) X.xe s
def CallR (X:Cx) (f:Value) (r:List V->Hp->VK->Prop):Prop :=
 ∀ (pins:List (Addr×Obj)) (s:Shared) (σ:St) (H:Hp) (xs:List V) (us:List Value) (Q:VK),Inv X pins σ H s->Vals xs us->r xs H Q →
  wpAny (model X.prog X.w) X.A (call f us) (EP X pins σ Q) X.xe s
def tOp (r:R2) (ta tb:TE):TE:=fun σ H Q=>ta σ H fun x H1=>tb σ H1 fun y H2=>r x y H2 Q
def tUn (r:V->Hp->VK->Prop) (ta:TE):TE:=fun σ H Q=>ta σ H fun x H1=>r x H1 Q
inductive IR (C:Int->Int->Prop) (g:Int->Int->V) (x y:V) (H:Hp) (Q:VK):Prop
 | mk (i j:Int) (a:x=.int i) (b:y=.int j) (c:C i j) (q:Q (g i j) H):IR C g x y H Q
def rI (C:Int->Int->Prop) (g:Int->Int->V):R2:=fun x y H Q=>IR C g x y H Q
inductive I0R (g:Int->Int->V) (x y:V) (H:Hp) (Q:VK):Prop
 | mk (i j:Int) (a:x=.int i) (b:y=.int j) (q:Q (g i j) H):I0R g x y H Q
def rI0 (g:Int->Int->V):R2:=fun x y H Q=>I0R g x y H Q
def rU (g:Int->V):V->Hp->VK->Prop:=fun x H Q=>∃ i,x=.int i∧Q (g i) H
section
variable {X:Cx} {a b c:Expr} {ta tb tc:TE} {pos:Pos}
theorem binT (ha:PE X a ta) (hb:PE X b tb) {pins:List (Addr×Obj)} {s:Shared} {σ:St} {H:Hp} {R:V->V->Hp->Prop} (I:Inv X pins σ H s)
  (h:ta σ H fun x H1=>tb σ H1 fun y H2=>R x y H2) {Q:Value->Shared->Prop} {f:Value->Value->Sem Value}
  (hf:∀ v u s2 x y H2,Inv X pins σ H2 s2->RelV x v->RelV y u->R x y H2->wpAny (model X.prog X.w) X.A (f v u) Q X.xe s2) :
  wpAny (model X.prog X.w) X.A (eval a X.env) (fun v s₁=>wpAny (model X.prog X.w) X.A (eval b X.env) (fun u s₂=>wpAny (model X.prog X.w) X.A (f v u) Q X.xe s₂) X.xe s₁) X.xe s:=by
 refine thn (ha pins s σ H _ I h) fun v s1 ⟨x,H1,I1,r1,q1⟩=>?_
 refine thn (hb pins s1 σ H1 _ I1 q1) fun u s2 ⟨y,H2,I2,r2,q2⟩=>?_
 exact hf v u s2 x y H2 I2 r1 r2 q2
theorem pe_op {op:Operator} {r:R2} (ho:OpR X (binaryOp op) r) (ha:PE X a ta) (hb:PE X b tb):PE X (.BinOp a op b pos) (tOp r ta tb):=by
 intro pins s σ H Q I h
 exact wpAny_BinOp (binT ha hb I h fun v u s2 x y H2 I2 rx ry q=>ho pins s2 σ H2 x y v u Q I2 rx ry q)
theorem pe_un {op:UnaryOp} {r:V->Hp->VK->Prop} (ho:UnR X (unaryOp op) r) (ha:PE X a ta):PE X (.UnaryOp op a pos) (tUn r ta):=by
 intro pins s σ H Q I h
 exact UnaryOp_ (thn (ha pins s σ H _ I h) fun v s1 ⟨x,H1,I1,r1,q1⟩=>ho pins s1 σ H1 x v Q I1 r1 q1)
theorem opI {f:Value->Value->Sem Value} {C:Int->Int->Prop} {g:Int->Int->Int}
  (rule:∀ (i j:Int) (t u:Tok) (s:Shared) (Q:Value->Shared->Prop) (E:Value->Shared->Prop),C i j->Q (.int (g i j) s.toks) { s with toks:=s.toks+1 }->wpAny (model X.prog X.w) X.A (f (.int i t) (.int j u)) Q E s) :
  OpR X f (rI C fun i j=>.int (g i j)):=by
 intro pins s σ H x y v u Q I rx ry h
 obtain ⟨i,j,rfl,rfl,hc,q⟩:=h
 obtain ⟨t,rfl⟩:=rx
 obtain ⟨t',rfl⟩:=ry
 exact rule i j t t' s _ _ hc ⟨.int (g i j),H,I.tok _,⟨_,rfl⟩,q⟩
theorem opI0 {f:Value->Value->Sem Value} {g:Int->Int->Int}
  (rule:∀ (i j:Int) (t u:Tok) (s:Shared) (Q:Value->Shared->Prop) (E:Value->Shared->Prop),Q (.int (g i j) s.toks) { s with toks:=s.toks+1 }->wpAny (model X.prog X.w) X.A (f (.int i t) (.int j u)) Q E s) :
  OpR X f (rI0 fun i j=>.int (g i j)):=by
 intro pins s σ H x y v u Q I rx ry h
 obtain ⟨i,j,rfl,rfl,q⟩:=h
 obtain ⟨t,rfl⟩:=rx
 obtain ⟨t',rfl⟩:=ry
 exact rule i j t t' s _ _ ⟨.int (g i j),H,I.tok _,⟨_,rfl⟩,q⟩
theorem opB0 {f:Value->Value->Sem Value} {g:Int->Int->Bool}
  (rule:∀ (i j:Int) (t u:Tok) (s:Shared) (Q:Value->Shared->Prop) (E:Value->Shared->Prop),Q (.bool (g i j)) s->wpAny (model X.prog X.w) X.A (f (.int i t) (.int j u)) Q E s) :
  OpR X f (rI0 fun i j=>.bl (g i j)):=by
 intro pins s σ H x y v u Q I rx ry h
 obtain ⟨i,j,rfl,rfl,q⟩:=h
 obtain ⟨t,rfl⟩:=rx
 obtain ⟨t',rfl⟩:=ry
 exact rule i j t t' s _ _ ⟨.bl (g i j),H,I,rfl,q⟩
def CDiv (i j:Int):Prop:=0<j∧j<1073741824
def CPow (i j:Int):Prop:=0≤j∧j≤1000000∧i.natAbs<2 ^ 64
def CMul (i j:Int):Prop:=(-(2 ^ 64)<i∧i<2 ^ 64)∨(-(2 ^ 64)<j∧j<2 ^ 64)
theorem CMul.ok {i j:Int} (h:CMul i j):IntMulOk i j:=by
 rcases h with ⟨h1,h2⟩ | ⟨h1,h2⟩
 ·exact .of_left (intBits_le_64 h1 h2)
 ·exact .of_right (intBits_le_64 h1 h2)
theorem op_add:OpR X (binaryOp .Add) (rI0 fun i j=>.int (i+j)):=opI0 fun _ _ _ _ _ _ _ q=>add_int q
theorem op_sub:OpR X (binaryOp .Sub) (rI0 fun i j=>.int (i-j)):=opI0 fun _ _ _ _ _ _ _ q=>sub_int q
theorem op_mul:OpR X (binaryOp .Mult) (rI CMul fun i j=>.int (i*j)):=opI fun _ _ _ _ _ _ _ hc q=>mul_int q hc.ok
theorem op_fdiv:OpR X (binaryOp .FloorDiv) (rI CDiv fun i j=>.int (i / j)):=opI fun i j _ _ _ _ _ hc q=>by
 have h1:(0:Int)<j:=hc.1
 have h2:j<1073741824:=hc.2
 exact floordiv_int (by omega) (by rw [Int.fdiv_eq_ediv_of_nonneg i (by omega)]; exact q) (.inl (PyProof.noPylong_small (by omega)))
theorem op_mod:OpR X (binaryOp .Mod) (rI (fun _ j=>0<j) fun i j=>.int (i % j)):=opI fun i j _ _ _ _ _ hc q=>by
 have h1:(0:Int)<j:=hc
 exact mod_int' (by omega) (by rw [Int.fmod_eq_emod_of_nonneg i (by omega)]; exact q)
theorem op_modN:OpR X (binaryOp .Mod) (rI (fun _ j=>j≠0) fun i j=>.int (i.fmod j)):=opI fun _ _ _ _ _ _ _ hc q=>mod_int' hc q
theorem op_pow:OpR X (binaryOp .Pow) (rI CPow fun i j=>.int (i ^ j.toNat)):=opI fun _ _ _ _ _ _ _ hc q=>pow_int_small hc.1 hc.2.1 hc.2.2 q
theorem op_xor:OpR X (binaryOp .BitXor) (rI0 fun i j=>.int (Builtin.bitXor i j)):=opI0 fun _ _ _ _ _ _ _ q=>xor_int q
theorem unI {f:Value->Sem Value} {g:Int->Int}
  (rule:∀ (i:Int) (t:Tok) (s:Shared) (Q:Value->Shared->Prop) (E:Value->Shared->Prop),Q (.int (g i) s.toks) { s with toks:=s.toks+1 }->wpAny (model X.prog X.w) X.A (f (.int i t)) Q E s) :
  UnR X f (rU fun i=>.int (g i)):=by
 intro pins s σ H x v Q I rx h
 obtain ⟨i,rfl,q⟩:=h
 obtain ⟨t,rfl⟩:=rx
 exact rule i t s _ _ ⟨.int (g i),H,I.tok _,⟨_,rfl⟩,q⟩
theorem un_neg:UnR X (unaryOp .USub) (rU fun i=>.int (-i)):=unI fun _ _ _ _ _ q=>neg_int q
end
def scal:V->V->Bool
 | .non,.non=>true | .non,.int _=>true | .int _,.non=>true | .non,.bl _=>true | .bl _,.non=>true | .non,.str _=>true | .str _,.non=>true
 | .int _,.int _=>true | .bl _,.bl _=>true | .str _,.str _=>true | .byt _,.byt _=>true
 | .int _,.str _=>true | .str _,.int _=>true | .bl _,.str _=>true | .str _,.bl _=>true
 | _,_=>false
inductive EqR (x y:V) (H:Hp) (Q:VK):Prop
 | mk (c:scal x y=true) (q:Q (.bl (decide (x=y))) H):EqR x y H Q
inductive NeR (x y:V) (H:Hp) (Q:VK):Prop
 | mk (c:scal x y=true) (q:Q (.bl (!decide (x=y))) H):NeR x y H Q
def rEq:R2:=fun x y H Q=>EqR x y H Q
def rNe:R2:=fun x y H Q=>NeR x y H Q
theorem dec_int {i j:Int}:decide (V.int i=V.int j)=(i == j):=by
 rw [Bool.eq_iff_iff]
 simp
theorem dec_bl {i j:Bool}:decide (V.bl i=V.bl j)=(i == j):=by
 rw [Bool.eq_iff_iff]
 simp
theorem dec_str {i j:Str}:decide (V.str i=V.str j)=(i == j):=by
 rw [Bool.eq_iff_iff]
 simp
theorem dec_byt {i j:Array UInt8}:decide (V.byt i=V.byt j)=(i.toList == j.toList):=by
 rw [Bool.eq_iff_iff]
 cases i
 cases j
 simp
section
variable {X:Cx} {a b c:Expr} {ta tb tc:TE} {pos:Pos}
theorem fin_bl {pins:List (Addr×Obj)} {σ:St} {H:Hp} {s:Shared} {Q:VK} {k k':Bool} (I:Inv X pins σ H s) (q:Q (.bl k) H) (e:k=k'):EP X pins σ Q (.bool k') s:=by
 subst e
 exact ⟨.bl k,H,I,rfl,q⟩
theorem op_eq:OpR X (compareOp .Eq) rEq:=by
 intro pins s σ H x y v u Q I rx ry h
 obtain ⟨hs,q⟩:=h
 cases x with
 | non =>
  cases rx
  cases y with
  | non=>cases ry; exact PySem.EqNone.eq_none_none (fin_bl I q (by simp))
  | bl j=>cases ry; exact PySem.EqNone.eq_none_bool (fin_bl I q (by simp))
  | int j=>obtain ⟨t',rfl⟩:=ry; exact PySem.EqNone.eq_none_int (fin_bl I q (by simp))
  | str j=>obtain ⟨t',rfl⟩:=ry; exact PySem.EqNone.eq_none_str (fin_bl I q (by simp))
  | _=>exact absurd (show false=true from hs) Bool.false_ne_true
 | bl i =>
  cases rx
  cases y with
  | non=>cases ry; exact PySem.EqNone.eq_bool_none (fin_bl I q (by simp))
  | bl j=>cases ry; exact eq_bool (fin_bl I q dec_bl)
  | str j=>obtain ⟨t',rfl⟩:=ry; exact PySem.EqMixed.eq_bool_str (fin_bl I q (by simp))
  | _=>exact absurd (show false=true from hs) Bool.false_ne_true
 | int i =>
  obtain ⟨t,rfl⟩:=rx
  cases y with
  | non=>cases ry; exact PySem.EqNone.eq_int_none (fin_bl I q (by simp))
  | int j=>obtain ⟨t',rfl⟩:=ry; exact eq_int (fin_bl I q dec_int)
  | str j=>obtain ⟨t',rfl⟩:=ry; exact PySem.EqMixed.eq_int_str (fin_bl I q (by simp))
  | _=>exact absurd (show false=true from hs) Bool.false_ne_true
 | str i =>
  obtain ⟨t,rfl⟩:=rx
  cases y with
  | non=>cases ry; exact PySem.EqNone.eq_str_none (fin_bl I q (by simp))
  | bl j=>cases ry; exact PySem.EqMixed.eq_str_bool (fin_bl I q (by simp))
  | int j=>obtain ⟨t',rfl⟩:=ry; exact PySem.EqMixed.eq_str_int (fin_bl I q (by simp))
  | str j=>obtain ⟨t',rfl⟩:=ry; exact eq_str (fin_bl I q dec_str)
  | _=>exact absurd (show false=true from hs) Bool.false_ne_true
 | byt i =>
  obtain ⟨t,rfl⟩:=rx
  cases y with
  | byt j=>obtain ⟨t',rfl⟩:=ry; exact PySem.W.eq_bytes (fin_bl I q dec_byt)
  | _=>exact absurd (show false=true from hs) Bool.false_ne_true
 | _=>cases y <;> exact absurd (show false=true from hs) Bool.false_ne_true
theorem op_ne:OpR X (compareOp .NotEq) rNe:=by
 intro pins s σ H x y v u Q I rx ry h
 obtain ⟨hs,q⟩:=h
 cases x with
 | non =>
  cases rx
  cases y with
  | non=>cases ry; exact PySem.EqNone.ne_none_none (fin_bl I q (by simp))
  | bl j=>cases ry; exact PySem.EqNone.ne_none_bool (fin_bl I q (by simp))
  | int j=>obtain ⟨t',rfl⟩:=ry; exact PySem.EqNone.ne_none_int (fin_bl I q (by simp))
  | str j=>obtain ⟨t',rfl⟩:=ry; exact PySem.EqNone.ne_none_str (fin_bl I q (by simp))
  | _=>exact absurd (show false=true from hs) Bool.false_ne_true
 | bl i =>
  cases rx
  cases y with
  | non=>cases ry; exact PySem.EqNone.ne_bool_none (fin_bl I q (by simp))
  | bl j=>cases ry; exact ne_bool (fin_bl I q (congrArg not dec_bl))
  | str j=>obtain ⟨t',rfl⟩:=ry; exact PySem.EqMixed.ne_bool_str (fin_bl I q (by simp))
  | _=>exact absurd (show false=true from hs) Bool.false_ne_true
 | int i =>
  obtain ⟨t,rfl⟩:=rx
  cases y with
  | non=>cases ry; exact PySem.EqNone.ne_int_none (fin_bl I q (by simp))
  | int j=>obtain ⟨t',rfl⟩:=ry; exact ne_int (fin_bl I q (congrArg not dec_int))
  | str j=>obtain ⟨t',rfl⟩:=ry; exact PySem.EqMixed.ne_int_str (fin_bl I q (by simp))
  | _=>exact absurd (show false=true from hs) Bool.false_ne_true
 | str i =>
  obtain ⟨t,rfl⟩:=rx
  cases y with
  | non=>cases ry; exact PySem.EqNone.ne_str_none (fin_bl I q (by simp))
  | bl j=>cases ry; exact PySem.EqMixed.ne_str_bool (fin_bl I q (by simp))
  | int j=>obtain ⟨t',rfl⟩:=ry; exact PySem.EqMixed.ne_str_int (fin_bl I q (by simp))
  | str j=>obtain ⟨t',rfl⟩:=ry; exact ne_str (fin_bl I q (congrArg not dec_str))
  | _=>exact absurd (show false=true from hs) Bool.false_ne_true
 | byt i =>
  obtain ⟨t,rfl⟩:=rx
  cases y with
  | byt j=>obtain ⟨t',rfl⟩:=ry; exact PySem.W.ne_bytes (fin_bl I q (congrArg not dec_byt))
  | _=>exact absurd (show false=true from hs) Bool.false_ne_true
 | _=>cases y <;> exact absurd (show false=true from hs) Bool.false_ne_true
theorem op_lt:OpR X (compareOp .Lt) (rI0 fun i j=>.bl (decide (i<j))):=opB0 fun _ _ _ _ _ _ _ q=>lt_int q
theorem op_le:OpR X (compareOp .LtE) (rI0 fun i j=>.bl (decide (i≤j))):=opB0 fun _ _ _ _ _ _ _ q=>le_int q
theorem op_gt:OpR X (compareOp .Gt) (rI0 fun i j=>.bl (decide (j<i))):=opB0 fun _ _ _ _ _ _ _ q=>gt_int q
theorem op_ge:OpR X (compareOp .GtE) (rI0 fun i j=>.bl (decide (j≤i))):=opB0 fun _ _ _ _ _ _ _ q=>ge_int q
theorem op_isN:OpR X (compareOp .Is) (fun x y H Q=>y=.non∧Q (.bl (decide (x=.non))) H):=by
 intro pins s σ H x y v u Q I rx ry h
 obtain ⟨rfl,q⟩:=h
 cases ry
 refine is_none_gen (fin_bl I q ?_)
 cases x <;> first
  | (cases rx; rfl)
  | (obtain ⟨t,rfl⟩:=rx; rfl)
theorem nomark (b:Expr) {op:CmpOp} (h:op≠.In:=by decide) (h2:op≠.NotIn:=by decide):behindInMarks op b=false:=by
 have e1:(op == CmpOp.In)=false:=by cases op <;> first | rfl | exact absurd rfl h
 have e2:(op == CmpOp.NotIn)=false:=by cases op <;> first | rfl | exact absurd rfl h2
 cases b <;> simp [behindInMarks,e1,e2]
theorem pe_cmpR {op:CmpOp} {r:R2} (ho:OpR X (compareOp op) r) (ha:PE X a ta) (hb:PE X b tb) (hm:behindInMarks op b=false):PE X (.Compare a [op] [b] pos) (tOp r ta tb):=by
 intro pins s σ H Q I h
 exact wpAny_Compare1 (binT ha hb I h fun v u s2 x y H2 I2 rx ry q=>ho pins s2 σ H2 x y v u Q I2 rx ry q) hm
def tTest (t:TE):TT:=fun σ H Q=>t σ H fun x H'=>BlR x H' Q
theorem pt_cmpR {op:CmpOp} {r:R2} (ho:OpR X (compareOp op) r) (ha:PE X a ta) (hb:PE X b tb) (hm:behindInMarks op b=false):PT X (.Compare a [op] [b] pos) (tTest (tOp r ta tb)):=by
 intro pins s σ H Q I h
 refine wpAny_isTrue_Compare1 (thn (ha pins s σ H _ I h) fun v s1 ⟨x,H1,I1,r1,q1⟩=>thn (hb pins s1 σ H1 _ I1 q1) fun u s2 ⟨y,H2,I2,r2,q2⟩ =>
  thn (ho pins s2 σ H2 x y v u _ I2 r1 r2 q2) fun c s3 ⟨z,H3,I3,r3,k,e,q3⟩=>?_) hm
 subst e
 cases r3
 exact wpAny_truthy_bool ⟨H3,I3,q3⟩
theorem line63:(sizeLine:Nat)<2 ^ 63:=by rw [sizeLine_eq]; decide
theorem vals1 {x:V} {us:List Value} (r:Vals [x] us):∃ u,us=[u]∧RelV x u:=by
 cases r with
 | cons r1 r2=>cases r2; exact ⟨_,rfl,r1⟩
theorem vals2 {x y:V} {us:List Value} (r:Vals [x,y] us):∃ u w',us=[u,w']∧RelV x u∧RelV y w':=by
 cases r with
 | cons r1 r2 =>
  cases r2 with
  | cons r3 r4=>cases r4; exact ⟨_,_,rfl,r1,r3⟩
theorem call_abs:CallR X (.builtin "abs") (fun xs H Q=>∃ i,xs=[.int i]∧Q (.int (if i<0 then -i else i)) H):=by
 intro pins s σ H xs us Q I r h
 obtain ⟨i,rfl,q⟩:=h
 obtain ⟨u,rfl,t,rfl⟩:=vals1 r
 exact call_abs_int fun u tk=>⟨.int (if i<0 then -i else i),H,I.tok _,⟨_,rfl⟩,q⟩
theorem call_min2 (hc:X.calm=true):CallR X (.builtin "min") (fun xs H Q=>∃ i j,xs=[.int i,.int j]∧Q (.int (if j<i then j else i)) H):=by
 intro pins s σ H xs us Q I r h
 obtain ⟨i,j,rfl,q⟩:=h
 obtain ⟨u,w',rfl,⟨t,rfl⟩,⟨t',rfl⟩⟩:=vals2 r
 refine min_two_ints (I.ok.hd hc) fun h' tk k=>⟨_,H,I.kept k,?_,q⟩
 by_cases hj:j<i
 ·rw [if_pos hj,if_pos hj]; exact ⟨_,rfl⟩
 ·rw [if_neg hj,if_neg hj]; exact ⟨_,rfl⟩
end
end L2
namespace L2
open PySem PySem.Spec PyProof.Rows
section
variable {prog:Program} {w:World} {A:Around} {E:Value->Shared->Prop} {s:Shared} {K:PySem.W.Frag} {x dx C f:Addr} {mA:Str->Option Value} {name:Str} {v:Value}
end
theorem RelO.some_of {v:V} {o:Option Value} (r:RelO (some v) o):∃ u,o=some u∧RelV v u:=by
 cases o with
 | none=>exact (show False from r).elim
 | some u=>exact ⟨u,rfl,r⟩
section
variable {P:Program} {w:World} {H H':Hp} {h h':Heap} {a C dx:Addr} {fs fs':List (Str×V)}
end
structure Cls (K:PySem.W.Frag) (C:Addr):Prop where
 pg:PySem.W.plainGet K C Str.empty=true
 hd:PySem.W.hasDictIn K C=true
 po:PySem.W.plainOver K C=true
 sa:PySem.W.findIn K (.ref C) "__setattr__" = some (some (.builtin "object.__setattr__"))
theorem Cls.get {K:PySem.W.Frag} {C:Addr} (c:Cls K C) (f:Str):PySem.W.plainGet K C f=true:=c.pg
section
variable {X:Cx} {pins:List (Addr×Obj)} {σ:St} {H:Hp} {s:Shared} {a C dx:Addr} {fs:List (Str×V)} {f:Str} {v:V} {A:Around} {E:Value->Shared->Prop}
end
section
variable {X:Cx} {o e value:Expr} {f:Str} {pos pos' tpos:Pos} {ta tv:TE}
end
section
variable {X:Cx} {pins:List (Addr×Obj)} {σ:St} {H:Hp} {s:Shared} {A:Around} {E:Value->Shared->Prop} {Q:Value->Shared->Prop} {c:Value} {b:Bool}
end
end L2
namespace L2
open PySem PySem.Spec PyProof.Rows
structure Room (k:Nat) (A:Around):Prop where
 hd:A.handled=none
 dp:A.depth+3*k+5<recursionLimit
 un:A.units+16*k+200<cLine
theorem Room.mono {j k:Nat} {A:Around} (r:Room k A) (h:j≤k):Room j A:=⟨r.hd,by have:=r.dp; omega,by have:=r.un; omega⟩
theorem Room.deeper {k:Nat} {A:Around} (r:Room (k+1) A) (env:Env):Room k (A.deeper env) :=
 ⟨r.hd,by have:=r.dp; show A.depth+1+3*k+5<_; omega,by have:=r.un; show A.units+3+16*k+200<_; omega⟩
theorem Room.in1 {k:Nat} {A:Around} (r:Room (k+1) A):Room k A.in1 :=
 ⟨r.hd,by have:=r.dp; show A.depth+3*k+5<_; omega,by have:=r.un; show A.units+1+16*k+200<_; omega⟩
theorem make_depth {A:Around} {C:Addr} {us:List Value} {kw:List (Str×Value)}:(A.under (.builtin "type.__call__" ⟨.ref C :: us,kw⟩)).depth=A.depth+1:=by
 first | rfl | simp [Around.under,Code.weight,Code.isCreation,Code.isGuard,Code.isCaller,Code.frames,Code.isFrame,guardIds]
theorem make_units {A:Around} {C:Addr} {us:List Value} {kw:List (Str×Value)}:(A.under (.builtin "type.__call__" ⟨.ref C :: us,kw⟩)).units=A.units+1:=by
 first | rfl | simp [Around.under,Code.cUnits,Code.frames,Code.isFrame]
theorem Room.make {k:Nat} {A:Around} (r:Room (k+1) A) (C:Addr) (us:List Value) (kw:List (Str×Value)):Room k (A.under (.builtin "type.__call__" ⟨.ref C :: us,kw⟩)) :=
 ⟨r.hd,by have:=r.dp; rw [make_depth]; omega,by have:=r.un; rw [make_units]; omega⟩
theorem Room.depth {k:Nat} {A:Around} (r:Room k A):A.depth<recursionLimit:=by have:=r.dp; omega
theorem Room.units {k:Nat} {A:Around} (r:Room k A):A.units+64<cLine:=by have:=r.un; omega
def tNil:TA:=fun _ H Q=>Q [] H
def tCons (ta:TE) (tr:TA):TA:=fun σ H Q=>ta σ H fun x H1=>tr σ H1 fun xs H2=>Q (x :: xs) H2
section
variable {X:Cx} {e:Expr} {es:List Expr} {te:TE} {t:TA} {pos:Pos}
theorem pa_nil:PA X [] tNil:=fun _ _ _ _ H Q I h=>Calls.spliced_nil ⟨[],H,I,.nil,h⟩
theorem pa_cons (ha:PE X e te) (hr:PA X es t) (hs:starEach (e :: es) X.env=(false,eval e X.env) :: starEach es X.env:=by rfl):PA X (e :: es) (tCons te t):=by
 intro pos pins s σ H Q I h
 rw [hs]
 show wpAny _ _ (spliced ((false,eval e X.env) :: backTo pos (starEach es X.env))) _ _ s
 refine Calls.spliced_cons (thn (ha pins s σ H _ I h) fun u s1 ⟨x,H1,I1,r1,q1⟩=>?_)
 exact thn (hr pos pins s1 σ H1 _ I1 q1) fun us s2 ⟨xs,H2,I2,r2,q2⟩=>⟨x :: xs,H2,I2,.cons r1 r2,q2⟩
inductive TupNR (xs:List V) (H:Hp) (Q:VK):Prop
 | mk (n:xs.length≤sizeLine) (q:∀ p,H p=none->Q (.ref p) (upd H p (.tup xs))):TupNR xs H Q
inductive LstNR (xs:List V) (H:Hp) (Q:VK):Prop
 | mk (n:xs.length≤sizeLine) (q:∀ p,H p=none->Q (.ref p) (upd H p (.lst xs))):LstNR xs H Q
def tTup (t:TA):TE:=fun σ H Q=>t σ H fun xs H1=>TupNR xs H1 Q
def tLst (t:TA):TE:=fun σ H Q=>t σ H fun xs H1=>LstNR xs H1 Q
theorem pe_tup {x1} (h:PA X es t):PE X (.Tuple es x1 pos) (tTup t):=by
 intro pins s σ H Q I hq
 refine wpAny_Tuple_spliced (thn (h pos pins s σ H _ I hq) fun us s1 ⟨xs,H1,I1,r,z,q⟩=>⟨by rw [←r.length]; exact z,?_⟩)
 have hf:H1 s1.heap.objs.size=none:=I1.hok.fresh (Nat.le_refl _)
 refine ⟨.ref s1.heap.objs.size,upd H1 s1.heap.objs.size (.tup xs),I1.laid (t':=s1.toks) (fun b u e=>Heap.get?_push_of_some _ e) (Nat.le_refl _) ?_,rfl,q _ hf⟩
 exact ⟨z,us,r,⟨_,Heap.get?_push_size _ rfl,rfl,_,rfl⟩,_,Heap.get?_push_size _ rfl,rfl⟩
theorem pe_lst (h:PA X es t):PE X (.List es pos) (tLst t):=by
 intro pins s σ H Q I hq
 refine wpAny_List_spliced (thn (h pos pins s σ H _ I hq) fun us s1 ⟨xs,H1,I1,r,z,q⟩=>⟨by rw [←r.length]; exact z,?_⟩)
 have hf:H1 s1.heap.objs.size=none:=I1.hok.fresh (Nat.le_refl _)
 refine ⟨.ref s1.heap.objs.size,upd H1 s1.heap.objs.size (.lst xs),I1.laid (t':=s1.toks) (fun b u e=>Heap.get?_push_of_some _ e) (Nat.le_refl _) ?_,rfl,q _ hf⟩
 exact ⟨z,us,0,r,Heap.get?_push_size _ rfl⟩
end
abbrev Sp:=List V->Hp->VK->XK->Prop
abbrev CXT:=List Env->Hp->Shared->XK->Value->Shared->Prop
structure Env0 (P:Program) (w:World) (K:PySem.W.Frag) (mg:Str->Option Value) (base:Heap) (A:Around) (outer:List Env) (s:Shared) (H:Hp):Prop where
 frames:A.frames=some outer
 mod:Mod K mg base
 bs:∀ b o,base.get? b=some o->s.heap.get? b=some o∧H b=none
 bsz:base.objs.size≤s.heap.objs.size
 funs:s.heap.FunFrames base outer
 frf:∀ b∈frs outer,H b=none
 hok:HOk P w H s.heap
 bare:AllBare s.gens
def CE (outer:List Env) (P:Program) (w:World) (H:Hp) (s:Shared) (Q:VK) (u:Value) (s':Shared):Prop :=
 ∃ v H',s'.os=s.os∧AllBare s'.gens∧Un (frs outer) [] H H' s.heap s'.heap∧HOk P w H' s'.heap∧RelV v u∧Q v H'
def CR (CX:CXT) (outer:List Env) (P:Program) (w:World) (H:Hp) (s:Shared) (Q:VK) (E:XK) (r:Result) (s':Shared):Prop :=
 match r with
 | .ok (.ret u)=>CE outer P w H s Q u s'
 | .ok _=>False
 | .error e=>CX outer H s E e s'
structure FnOk (P:Program) (w:World) (K:PySem.W.Frag) (mg:Str->Option Value) (base:Heap) (CX:CXT) (k:Nat) (f:Addr) (fd:FuncData) (ps:List Str) (sp:Sp):Prop where
 len:∀ vs H Q E,sp vs H Q E->vs.length=ps.length
 run:∀ (A:Around) (outer:List Env) (s:Shared) (H:Hp) (args:Args) (us:List Value) (vs:List V) (Q:VK) (E:XK),Room k A->Env0 P w K mg base A outer s H->BindsTo s fd args (ps.zip us)->Vals vs us->sp vs H Q E →
  codeAny (model P w) A (.call (.ref f) args) (CR CX outer P w H s Q E) s
theorem FnOk.mono {P:Program} {w:World} {K:PySem.W.Frag} {mg:Str->Option Value} {base:Heap} {CX:CXT} {j k:Nat} {f:Addr} {fd:FuncData} {ps:List Str} {sp:Sp} (F:FnOk P w K mg base CX j f fd ps sp) (h:j≤k) :
  FnOk P w K mg base CX k f fd ps sp:=⟨F.len,fun A outer s H args us vs Q E hr=>F.run A outer s H args us vs Q E (hr.mono h)⟩
theorem FnOk.imp {P:Program} {w:World} {K:PySem.W.Frag} {mg:Str->Option Value} {base:Heap} {CX:CXT} {k:Nat} {f:Addr} {fd:FuncData} {ps:List Str} {sp sp':Sp} (F:FnOk P w K mg base CX k f fd ps sp)
  (h:∀ vs H Q E,sp' vs H Q E->sp vs H Q E):FnOk P w K mg base CX k f fd ps sp' :=
 ⟨fun vs H Q E q=>F.len vs H Q E (h _ _ _ _ q),fun A outer s H args us vs Q E hr he hb hv hs=>F.run A outer s H args us vs Q E hr he hb hv (h _ _ _ _ hs)⟩
theorem Env0.make {P:Program} {w:World} {K:PySem.W.Frag} {mg:Str->Option Value} {base:Heap} {A:Around} {outer:List Env} {s:Shared} {H:Hp} (e:Env0 P w K mg base A outer s H) (C:Addr) (us:List Value) (kw:List (Str×Value)) :
  Env0 P w K mg base (A.under (.builtin "type.__call__" ⟨.ref C :: us,kw⟩)) outer s H:=⟨by first | exact e.frames | (simpa [Around.under,Code.envs,Code.isFrame,pushEnvs] using e.frames),e.mod,e.bs,e.bsz,e.funs,e.frf,e.hok,e.bare⟩
theorem Env0.in1 {P:Program} {w:World} {K:PySem.W.Frag} {mg:Str->Option Value} {base:Heap} {A:Around} {outer:List Env} {s:Shared} {H:Hp} (e:Env0 P w K mg base A outer s H) :
  Env0 P w K mg base A.in1 outer s H:=⟨e.frames,e.mod,e.bs,e.bsz,e.funs,e.frf,e.hok,e.bare⟩
section
variable {X:Cx} {pins:List (Addr×Obj)} {σ:St} {H:Hp} {s s':Shared}
theorem Inv.env0 (I:Inv X pins σ H s):Env0 X.prog X.w X.K X.mg X.base X.A X.stack s H :=
 ⟨I.ok.frames,I.ok.mod,I.bs,Nat.le_trans I.ok.bsz I.sz,I.stack,I.stkFree,I.hok,I.bare⟩
theorem Inv.after {Q:VK} {u:Value} (I:Inv X pins σ H s) (h:CE X.stack X.prog X.w H s Q u s'):EP X pins σ Q u s':=by
 obtain ⟨v,H',os,bare,un,hok,r,q⟩:=h
 obtain ⟨hh,g,d,t,os'⟩:=s'
 obtain rfl:os'=s.os:=os
 exact ⟨v,H',I.call (h':=hh) (g':=g) (d':=d) (t':=t) (ch:=[]) un hok bare (fun b z=>absurd z (by simp)),r,q⟩
end
def tCall (sp:Sp) (dvs:List V) (E:XK) (t:TA):TE:=fun σ H Q=>t σ H fun vs H1=>sp (vs++dvs) H1 Q E
def Binds (K:PySem.W.Frag) (fd:FuncData) (ps:List Str) (ds:List Value):Prop :=
 ∀ (s:Shared) (us:List Value),K.In s.heap->(us++ds).length=ps.length->BindsTo s fd ⟨us,[]⟩ (ps.zip (us++ds))
theorem Binds.all {K:PySem.W.Frag} {fd:FuncData} {ps:List Str} (h:∀ us:List Value,us.length=ps.length->bindArgs fd ⟨us,[]⟩=pure (ps.zip us)):Binds K fd ps []:=fun s us _ hl=>by
 rw [List.append_nil] at hl ⊢
 exact .of_eq (h us hl)
def Passes (CX:CXT) (X:Cx) (E:XK):Prop:=∀ (pins:List (Addr×Obj)) (σ:St) (H:Hp) (s:Shared) (e:Value) (s':Shared),Inv X pins σ H s->CX X.stack H s E e s'->X.xe e s'
section
variable {X:Cx} {CX:CXT} {k:Nat} {f C:Addr} {fd:FuncData} {ps:List Str} {sp:Sp} {dvs:List V} {ds:List Value} {E:XK} {x m:Str} {p pos apos:Pos} {e o:Expr} {es:List Expr} {ta:TE} {t:TA}
theorem run_fn {pins:List (Addr×Obj)} {σ:St} {H:Hp} {s:Shared} {Q:VK} {us:List Value} {vs:List V} (F:FnOk X.prog X.w X.K X.mg X.base CX k f fd ps sp) (hr:Room k X.A) (hb:Binds X.K fd ps ds) (hd:Vals dvs ds) (hx:Passes CX X E)
  (I:Inv X pins σ H s) (r:Vals vs us) (h:sp (vs++dvs) H Q E):wpAny (model X.prog X.w) X.A (call (.ref f) us) (EP X pins σ Q) X.xe s:=by
 have r2:Vals (vs++dvs) (us++ds):=r.append hd
 have hl:(us++ds).length=ps.length:=by rw [←r2.length]; exact F.len _ _ _ _ h
 refine wpAny_call (codeAny_mono (F.run X.A X.stack s H ⟨us,[]⟩ (us++ds) (vs++dvs) Q E hr I.env0 (hb s us I.kIn hl) r2 h) fun r s' hq=>?_)
 cases r with
 | error e=>exact hx pins σ H s e s' I hq
 | ok fl =>
  cases fl with
  | ret u=>exact I.after hq
  | next=>exact False.elim hq
  | brk=>exact False.elim hq
  | cont=>exact False.elim hq
theorem pe_call (F:FnOk X.prog X.w X.K X.mg X.base CX k f fd ps sp) (hr:Room k X.A) (hg:Gl X x) (hm:X.mg x=some (.ref f)) (hk:PySem.W.keepIn X.K (.ref f)=true) (hb:Binds X.K fd ps ds) (hd:Vals dvs ds) (hx:Passes CX X E)
  (ha:PA X (e :: es) t) (hdb:(x == ("__debug__":Str))=false:=by decide) (he:starEach (e :: es) X.env=(false,eval e X.env) :: starEach es X.env:=by rfl) (hpl:(backTo pos (starEach es X.env)).any (·.1)=false:=by rfl) :
  PE X (.Call (.Name x p) (e :: es) [] pos) (tCall sp dvs E t):=by
 intro pins s σ H Q I h
 refine wpAny_Call_Name_kw (ld_glob I hg hm ?_ hdb)
 refine PySem.W.callWith_K (h₀:=X.base) I.ok.mod.kin hk (thn (ha pos pins s σ H _ I h) fun us s1 ⟨vs,H1,I1,r,q⟩=>⟨I1.kIn,?_⟩) he hpl
 exact run_fn F hr hb hd hx I1 r q
structure Mk (K:PySem.W.Frag) (C f:Addr):Prop where
 makes:PySem.W.makesIn K C=true
 init:PySem.W.findIn K (.ref C) "__init__" = some (some (.ref f))
 fn:PySem.W.isFn K (.ref f)=true
 kp:PySem.W.keepIn K (.ref C)=true
end
section
variable {X:Cx} {CX:CXT} {k:Nat} {f C:Addr} {fd:FuncData} {ps ks:List Str} {sp:Sp} {E:XK} {x m:Str} {p pos apos kpos:Pos} {e o:Expr} {es:List Expr} {kws:List Keyword} {te ta:TE} {t tk:TA} {nm:Option Str}
variable {g:List Value->List Value->List Value} {gV:List V->List V->List V}
end
structure FnScope (N P:List Str) (sc:Scope):Prop where
 kind:sc.kind=.function
 co:sc.isCoroutine=false
 gen:sc.isGenerator=false
 nd:N.Nodup
 pre:N.take P.length=P
 par:∀ x∈P,sc.names.lookup x=some .local∨sc.names.lookup x=some .cell
 nofree:∀ y∈sc.names,y.2≠.free
theorem bindL_out {kindOf:Str->Option NameKind} {x:Str}:∀ {binds:List (Str×Value)} {m:Str->Option Value},(∀ v,(x,v)∉binds)->bindL kindOf binds m x=m x
 | [],_,_=>rfl
 | (n,v) :: r,m,h=>by
  unfold bindL
  rw [bindL_out fun w hw=>h w (List.mem_cons_of_mem _ hw)]
  split
  ·have:x≠n:=by rintro rfl; exact h v List.mem_cons_self
   simp [this]
  ·rfl
theorem bindC_out {kindOf:Str->Option NameKind} {x:Str}:∀ {binds:List (Str×Value)} {m:Str->Option Value},(∀ v,(x,v)∉binds)->bindC kindOf binds m x=m x
 | [],_,_=>rfl
 | (n,v) :: r,m,h=>by
  unfold bindC
  rw [bindC_out fun w hw=>h w (List.mem_cons_of_mem _ hw)]
  split
  ·rfl
  ·have:x≠n:=by rintro rfl; exact h v List.mem_cons_self
   simp [this]
theorem bindL_get {kindOf:Str->Option NameKind} {x:Str} {v:Value}:∀ {P:List Str} {vs:List Value} {i:Nat} {m:Str->Option Value},P.Nodup->P[i]?=some x->vs[i]?=some v->kindOf x=some .local →
  bindL kindOf (P.zip vs) m x=some v
 | [],_,_,_,_,h,_,_=>by simp at h
 | _ :: _,[],_,_,_,_,h,_=>by simp at h
 | p :: P,w :: vs,0,m,nd,h1,h2,hk=>by
  simp at h1 h2; subst h1; subst h2
  show bindL kindOf ((p,w) :: P.zip vs) m p=_
  unfold bindL
  rw [bindL_out fun v hv=>(List.nodup_cons.mp nd).1 (List.of_mem_zip hv).1,if_pos hk]
  simp
 | p :: P,w :: vs,i+1,m,nd,h1,h2,hk=>by
  show bindL kindOf ((p,w) :: P.zip vs) m x=_
  unfold bindL
  exact bindL_get (i:=i) (List.nodup_cons.mp nd).2 (by simpa using h1) (by simpa using h2) hk
theorem bindC_get {kindOf:Str->Option NameKind} {x:Str} {v:Value}:∀ {P:List Str} {vs:List Value} {i:Nat} {m:Str->Option Value},P.Nodup->P[i]?=some x->vs[i]?=some v->kindOf x≠some .local →
  bindC kindOf (P.zip vs) m x=some v
 | [],_,_,_,_,h,_,_=>by simp at h
 | _ :: _,[],_,_,_,_,h,_=>by simp at h
 | p :: P,w :: vs,0,m,nd,h1,h2,hk=>by
  simp at h1 h2; subst h1; subst h2
  show bindC kindOf ((p,w) :: P.zip vs) m p=_
  unfold bindC
  rw [bindC_out fun v hv=>(List.nodup_cons.mp nd).1 (List.of_mem_zip hv).1,if_neg hk]
  simp
 | p :: P,w :: vs,i+1,m,nd,h1,h2,hk=>by
  show bindC kindOf ((p,w) :: P.zip vs) m x=_
  unfold bindC
  exact bindC_get (i:=i) (List.nodup_cons.mp nd).2 (by simpa using h1) (by simpa using h2) hk
def start (N:List Str) (vs:List V):St:=vs.map some++List.replicate (N.length-vs.length) none
def cxOf (CX:CXT) (P:Program) (w:World) (K:PySem.W.Frag) (mg:Str->Option Value) (base:Heap) (N:List Str) (qual:Str) (scope:Scope) (f:Addr) (cd:Value) (A:Around) (outer:List Env) (s:Shared) (H:Hp) (E:XK):Cx where
 prog:=P
 w:=w
 K:=K
 mg:=mg
 base:=base
 A:=A.deeper (envOfC qual scope s.heap.objs.size f cd)
 N:=N
 s₀:=s
 H₀:=H
 env:=envOfC qual scope s.heap.objs.size f cd
 outer:=outer
 stack:=envOfC qual scope s.heap.objs.size f cd :: outer
 ex:=[]
 calm:=true
 fn:=fun _=>true
 pn:=[]
 xe:=fun e s'=>wpAny (model P w) (A.deeper (envOfC qual scope s.heap.objs.size f cd)) (leaving (envOfC qual scope s.heap.objs.size f cd) e) (fun _ s''=>CX outer H s E e s'') (fun e' s''=>CX outer H s E e' s'') s'
theorem cell_has {sc:Scope} {n:Nat} {x:Str} (h:sc.names.lookup x=some .cell):∃ c,(cellsFrom n sc.names []).lookup x=some c:=by
 have q:=PySem.W.cellsFrom_some sc.names n [] (.inl h)
 exact Option.isSome_iff_exists.mp q
theorem inv_start {CX:CXT} {P:Program} {w:World} {K:PySem.W.Frag} {mg:Str->Option Value} {base:Heap} {N ps:List Str} {qual:Str} {scope:Scope} {f:Addr} {cd:Value} {A:Around} {outer:List Env} {s s1:Shared} {H:Hp} {E:XK} {us:List Value} {vs:List V}
  (S:FnScope N ps scope) (hd:A.handled=none) (e0:Env0 P w K mg base A outer s H) (hl:vs.length=ps.length) (r:Vals vs us)
  (x:InCallC s s.heap.objs.size (bindL (envOfC qual scope s.heap.objs.size f cd).kindOf (ps.zip us) fun _=>none) (cellsFrom (s.heap.objs.size+1) scope.names []) (bindC (envOfC qual scope s.heap.objs.size f cd).kindOf (ps.zip us) fun _=>none) s1) :
  Inv (cxOf CX P w K mg base N qual scope f cd A outer s H E) [] (start N vs) H s1:=by
 have hpl:ps.length≤N.length:=by have:=congrArg List.length S.pre; rw [List.length_take] at this; omega
 obtain ⟨h1,tk,rfl,hk⟩:=x.done
 have noA:∀ b:Addr,b∉(cxOf CX P w K mg base N qual scope f cd A outer s H E).ex:=fun b z=>absurd (show b∈([]:List Addr) from z) (by simp)
 refine ⟨⟨e0.mod,S.kind,rfl,rfl,Nat.le_refl _,fun y z c h1 h2=>?_,fun y hy=>?_,fun y c _ h=>?_,fun _=>hd,Around.frames_deeper e0.frames,.inr ⟨rfl,rfl⟩,fun b z=>absurd z (noA b),e0.bs,e0.bsz,fun b _ _=>noA b,fun b z=>absurd z (noA b),e0.funs,e0.frf⟩,
  rfl,e0.bare,Un.kept hk,⟨_,x.toInCall.ns,fun i y v h1 h2 h3=>?_⟩,fun y c h=>⟨_,x.cell y c h⟩,e0.hok.fresh (Nat.le_refl _),fun y c h=>?_,fun p hp=>absurd (show p∈([]:List (Addr×Obj)) from hp) (by simp),e0.hok.kept hk,?_⟩
 ·exact name_of_addr x.apart (PySem.mem_of_lookup h1) (PySem.mem_of_lookup h2)
 ·have hy:scope.names.lookup y=some .cell∨scope.names.lookup y=some .free:=hy
  rcases hy with hy | hy
  ·exact cell_has hy
  ·exact absurd rfl (S.nofree _ (PySem.mem_of_lookup hy))
 ·exact Nat.le_of_lt (x.above y c (PySem.mem_of_lookup h))
 ·have hi:i<vs.length:=by
   unfold start at h2
   by_cases hi:i<vs.length
   ·exact hi
   ·rw [List.getElem?_append_right (by simpa using hi)] at h2
    rw [List.getElem?_replicate] at h2
    split at h2 <;> cases h2
  have ha:vs[i]?=some v:=by
   unfold start at h2
   rw [List.getElem?_append_left (by simpa using hi),List.getElem?_map] at h2
   cases e:vs[i]? with
   | none=>rw [e] at h2; cases h2
   | some a=>rw [e] at h2; cases h2; rfl
  obtain ⟨u,hu,rv⟩:=r.get ha
  have hp:ps[i]?=some y:=by
   rw [←S.pre,List.getElem?_take_of_lt (by omega)]; exact h1
  have ndP:ps.Nodup:=by rw [←S.pre]; exact S.nd.sublist (List.take_sublist _ _)
  refine ⟨u,rv,?_⟩
  rcases S.par y (List.mem_of_getElem? hp) with k | k
  ·exact .inl ⟨k,bindL_get ndP hp hu k⟩
  ·obtain ⟨c,e⟩:=cell_has (n:=s.heap.objs.size+1) k
   refine .inr ⟨.inl k,c,e,?_⟩
   have q:=x.cell y c e
   rw [bindC_get ndP hp hu (by show scope.names.lookup y≠_; rw [k]; decide)] at q
   exact q
 ·exact e0.hok.fresh (Nat.le_of_lt (x.above y c (PySem.mem_of_lookup h)))
 ·unfold start
  show _=N.length
  rw [List.length_append,List.length_map,List.length_replicate]
  omega
theorem fn_of {CX:CXT} {P:Program} {w:World} {K:PySem.W.Frag} {mg:Str->Option Value} {base:Heap} {k:Nat} {f:Addr} {name qual:Str} {params:Arguments} {body:List Stmt} {scope:Scope} {dV kV doc pm cdv ct oc:Value} {an od:Option Addr}
  {osl:Array (Option Value)} {N ps:List Str} {sp:Sp} (lk:K.lookup f=some ⟨oc,od,.func (PySem.W.fnOf name qual params body scope dV kV doc pm an cdv ct),osl⟩) (hcd:PySem.W.codeIn K cdv qual=true) (S:FnScope N ps scope)
  (len:∀ vs H Q E,sp vs H Q E->vs.length=ps.length)
  (hbody:∀ (A:Around) (outer:List Env) (s:Shared) (H:Hp) (vs:List V) (Q:VK) (E:XK),Room k (A.deeper (envOfC qual scope s.heap.objs.size f cdv))->sp vs H Q E →
   ∃ t,PSs (cxOf CX P w K mg base N qual scope f cdv A outer s H E) body t∧t { nx:=fun _ H'=>Q .non H',rt:=Q } (start N vs) H) :
  FnOk P w K mg base CX (k+1) f (PySem.W.fnOf name qual params body scope dV kV doc pm an cdv ct) ps sp:=by
 refine ⟨len,fun A outer s H args us vs Q E hr e0 hb r hsp=>?_⟩
 have hl:=len _ _ _ _ hsp
 have KX:K.In s.heap:=e0.mod.kin.keeps fun b o e=>(e0.bs b o e).1
 have lim:s.heap.NoLimit:=e0.mod.nolimit.keeps fun b o e=>(e0.bs b o e).1
 have hkind:∀ y∈ps.zip us,scope.names.lookup y.1=some .local∨(scope.names.lookup y.1=some .cell∧((cellsFrom (s.heap.objs.size+1) scope.names []).lookup y.1).isSome=true):=fun ⟨n,v⟩ hy=>by
  rcases S.par n (List.of_mem_zip hy).1 with q | q
  ·exact .inl q
  ·exact .inr ⟨q,PySem.W.cellsFrom_some _ _ _ (.inl q)⟩
 refine codeAny_call_function hr.depth (KX _ _ lk) rfl S.co S.gen rfl (PySem.W.codeRec_of KX hcd) (hb _ _ _ _ ?_)
 refine wpAny_newFunctionEnv_cells S.kind hkind fun env he s1 x=>?_
 subst he
 refine ⟨lim.keeps x.toInCall.keep,codeAny_func ?_⟩
 obtain ⟨t,ht,hq⟩:=hbody A outer s H vs Q E (hr.deeper _) hsp
 have I:Inv (cxOf CX P w K mg base N qual scope f cdv A outer s H E) [] (start N vs) H s1:=inv_start S hr.hd e0 hl r x
 refine wpAny_mono (ht [] s1 (start N vs) H _ I hq) (fun fl s' hs=>?_) fun e s' hs=>hs
 have fin:∀ {σ':St} {H':Hp} {v:V} {u:Value},Inv (cxOf CX P w K mg base N qual scope f cdv A outer s H E) [] σ' H' s'->RelV v u->Q v H'->CE outer P w H s Q u s' :=
  fun {σ' H' v u} J rv q=>⟨v,H',J.os,J.bare,J.base,J.hok,rv,q⟩
 cases fl with
 | ret u =>
  obtain ⟨v,σ',H',J,rv,q⟩:=hs
  exact fin J rv q
 | next =>
  obtain ⟨σ',H',J,q⟩:=hs
  exact fin (v:=V.non) (u:=Value.none) J rfl q
 | brk =>
  obtain ⟨_,_,_,q⟩:=hs
  exact False.elim q
 | cont =>
  obtain ⟨_,_,_,q⟩:=hs
  exact False.elim q
end L2
namespace L2
open PySem PySem.Spec PyProof.Rows
section
variable {X:Cx} {x:Str} {p pos:Pos} {e:Expr} {es:List Expr} {t:TA} {id T:String} {r:List V->Hp->VK->Prop}
def tCB (r:List V->Hp->VK->Prop) (t:TA):TE:=fun σ H Q=>t σ H fun vs H1=>r vs H1 Q
theorem pe_callB (hc:CallR X (.builtin id) r) (hg:Gl X x) (hm:X.mg x=none) (hv:bootBuiltins x=some (.builtin id)) (ha:PA X (e :: es) t) (hn:x≠"__name__":=by decide) (hdb:(x == ("__debug__":Str))=false:=by decide)
  (he:starEach (e :: es) X.env=(false,eval e X.env) :: starEach es X.env:=by rfl) (hpl:(backTo pos (starEach es X.env)).any (·.1)=false:=by rfl):PE X (.Call (.Name x p) (e :: es) [] pos) (tCB r t):=by
 intro pins s σ H Q I h
 refine wpAny_Call_Name_kw (ld_blt I hg hm hv ?_ hn hdb)
 exact PyProof.Rows.callWith_builtin1 (thn (ha pos pins s σ H _ I h) fun us s1 ⟨vs,H1,I1,r1,q1⟩=>hc pins s1 σ H1 vs us Q I1 r1 q1) he hpl
theorem pe_callTy (hc:CallR X (.type T) r) (hg:Gl X x) (hm:X.mg x=none) (hv:bootBuiltins x=some (.type T)) (ha:PA X (e :: es) t) (hn:x≠"__name__":=by decide) (hdb:(x == ("__debug__":Str))=false:=by decide)
  (he:starEach (e :: es) X.env=(false,eval e X.env) :: starEach es X.env:=by rfl) (hpl:(backTo pos (starEach es X.env)).any (·.1)=false:=by rfl):PE X (.Call (.Name x p) (e :: es) [] pos) (tCB r t):=by
 intro pins s σ H Q I h
 refine wpAny_Call_Name_kw (ld_blt I hg hm hv ?_ hn hdb)
 exact PyProof.Rows.callWith_type1 (thn (ha pos pins s σ H _ I h) fun us s1 ⟨vs,H1,I1,r1,q1⟩=>hc pins s1 σ H1 vs us Q I1 r1 q1) he hpl
end
end L2
namespace HT
open PySem PyProof.Rows
section
open PySem.SeqAt
open PySem.AutoSeq1 (wpAny_loadPart')
open PySem.MeetsSeq PySem.MeetsSeq2 PySem.MeetsSeq3
end
section
variable {prog:Program} {w:World} {A:Around} {E:Value->Shared->Prop} {s:Shared}
theorem cat_tup {t b:Addr} {vs ws:List Value} {Q:Value->Shared->Prop} (ht:IsTup s.heap t vs.toArray) (hb:IsTup s.heap b ws.toArray) (hv:vs≠[])
  (h1:ws=[]->Q (.ref t) s) (h2:ws≠[]->Q (.ref s.heap.objs.size) { s with heap:=s.heap.push { cls:=.type "tuple",data:=.seq (vs++ws).toArray } })
  (hsz:vs.length+ws.length≤sizeLine):wpAny (model prog w) A (binaryOp .Add (.ref t) (.ref b)) Q E s:=by
 obtain ⟨⟨cls,dd,data,sl⟩,ho,hc,n,hd⟩:=id ht
 obtain ⟨⟨cls2,dd2,data2,sl2⟩,ho2,hc2,n2,hd2⟩:=id hb
 simp only at hc hd hc2 hd2
 subst hc hd hc2 hd2
 have e:vs.toArray++ws.toArray=(vs++ws).toArray:=by simp
 by_cases hw:ws=[]
 ·exact concat_meets ⟨_,ho,rfl⟩ ⟨_,ho2,rfl⟩ noFill_tuple_add seq_tuple_add PySem.F.slot_tuple_add PySem.F.entry_tuple_add (PySem.F.args_tuple_add_2 _ _)
   (tuple_addW1 t b vs.toArray ws.toArray n n2 dd dd2 sl sl2 (by simpa using hv) (by simp [hw])) ⟨ho,ho2,h1 hw⟩
 ·refine concat_meets ⟨_,ho,rfl⟩ ⟨_,ho2,rfl⟩ noFill_tuple_add seq_tuple_add PySem.F.slot_tuple_add PySem.F.entry_tuple_add (PySem.F.args_tuple_add_2 _ _)
   (tuple_addW2 t b vs.toArray ws.toArray n n2 dd dd2 sl sl2 (by simpa using hv) (by simpa using hw) (by rw [List.size_toArray,List.size_toArray]; exact hsz)) ⟨ho,ho2,?_⟩
  rw [e]
  exact h2 hw
def sIx (n d:Nat):Option Int->Nat
 | none=>d
 | some v=>if v<0 then (v+(n:Int)).toNat else min v.toNat n
theorem sIx_nat (n d k:Nat):sIx n d (some (k:Int))=min k n:=by
 show (if (k:Int)<0 then ((k:Int)+(n:Int)).toNat else min (k:Int).toNat n)=min k n
 rw [if_neg (by omega),Int.toNat_natCast]
theorem sIx_le (n d:Nat) (hd:d≤n) (o:Option Int):sIx n d o≤n:=by
 cases o with
 | none=>exact hd
 | some v =>
  show (if v<0 then (v+(n:Int)).toNat else min v.toNat n)≤n
  by_cases hv:v<0
  ·rw [if_pos hv]; omega
  ·rw [if_neg hv]; exact Nat.min_le_right _ _
theorem clip_eq (v:Int) (n d:Nat):(if v<0 then max (v+(n:Int)) 0 else min v (n:Int))=((sIx n d (some v):Nat):Int):=by
 show (if v<0 then max (v+(n:Int)) 0 else min v (n:Int))=(((if v<0 then (v+(n:Int)).toNat else min v.toNat n):Nat):Int)
 by_cases hv:v<0
 ·simp only [if_pos hv]; omega
 ·simp only [if_neg hv]; omega
theorem adjust_gen (lo hi:Option Int) (n:Nat):Builtin.Slice.sliceAdjust lo hi 1 (n:Int)=(((sIx n 0 lo:Nat):Int),((sIx n n hi:Nat):Int)):=by
 have h1:¬ ((1:Int)<0):=by omega
 unfold Builtin.Slice.sliceAdjust
 simp only [h1,if_false]
 refine Prod.ext ?_ ?_
 ·cases lo with
  | none=>rfl
  | some v=>exact clip_eq v n 0
 ·cases hi with
  | none=>rfl
  | some v=>exact clip_eq v n n
theorem places_gen (i j:Nat):Builtin.Slice.slicePlaces (i:Int) (j:Int) 1=j-i:=by
 unfold Builtin.Slice.slicePlaces
 have h1:(1:Int) > 0:=by omega
 simp only [h1,if_true,Int.ediv_one]
 split <;> omega
theorem slicePart_ {v:Value} {o:Option Int} {Q:Option Int->Shared->Prop} (p:IsPart v o) (h:Q o s):wpAny (model prog w) A (Builtin.Slice.slicePartIndex v) Q E s:=by
 cases p with
 | none=>exact slicePart_none h
 | int i t=>exact slicePart_int h
theorem sliceApplied_gen {sl:Addr} {vl vu:Value} {lo hi:Option Int} {n:Nat} {Q:Int×Int×Nat->Shared->Prop} (hs:s.heap.IsSliceOf sl vl vu .none) (pl:IsPart vl lo) (pu:IsPart vu hi)
  (h:Q (((sIx n 0 lo:Nat):Int),1,sIx n n hi-sIx n 0 lo) s):wpAny (model prog w) A (Builtin.Slice.sliceApplied (.ref sl) (pure (n:Int))) Q E s:=by
 obtain ⟨os,hos,hcs,hds⟩:=id hs
 unfold Builtin.Slice.sliceApplied Builtin.Slice.sliceFields
 refine wpAny_bind (wpAny_bind (wpAny_field hos hds (x:=vl) rfl (wpAny_bind (wpAny_field hos hds (x:=vu) rfl (wpAny_bind (wpAny_field hos hds (x:=.none) rfl (wpAny_pure ?_)))))))
 refine wpAny_bind (slicePart_none ?_)
 show wpAny _ _ (if ((1:Int) == 0)=true then _ else _) _ _ s
 rw [if_neg (by decide)]
 refine wpAny_bind (slicePart_ pl (wpAny_bind (slicePart_ pu (wpAny_bind (wpAny_pure ?_)))))
 show wpAny _ _ (match Builtin.Slice.sliceAdjust lo hi 1 (n:Int) with | (lo,hi)=>pure (lo,(1:Int),Builtin.Slice.slicePlaces lo hi 1)) _ _ s
 rw [adjust_gen lo hi n]
 show wpAny _ _ (pure (((sIx n 0 lo:Nat):Int),(1:Int),Builtin.Slice.slicePlaces ((sIx n 0 lo:Nat):Int) ((sIx n n hi:Nat):Int) 1)) _ _ s
 rw [places_gen]
 exact wpAny_pure h
theorem pick_gen (xs:Array Value) (i k:Nat):((List.range k).filterMap fun (m:Nat)=>xs[((i:Int)+(m:Int)*1).toNat]?).toArray=((xs.toList.drop i).take k).toArray:=by
 have e:(fun (m:Nat)=>xs[((i:Int)+(m:Int)*1).toNat]?)=fun m=>xs[i+m]?:=by
  funext m
  have:((i:Int)+(m:Int)*1).toNat=i+m:=by omega
  rw [this]
 rw [e]
 have:=pick_run xs i k
 rw [List.filterMap_map] at this
 have e2:((fun x=>xs[x]?) ∘ fun x=>i+x)=fun m=>xs[i+m]?:=rfl
 rw [e2] at this
 rw [this]
theorem getItem_tuple_cut {t sl:Addr} {items:Array Value} {vl vu:Value} {lo hi:Option Int} {Q:Value->Shared->Prop} (ht:IsTup s.heap t items) (hs:s.heap.IsSliceOf sl vl vu .none) (pl:IsPart vl lo) (pu:IsPart vu hi)
  (hw:¬ (sIx items.size 0 lo=0∧sIx items.size items.size hi=items.size))
  (h:Q (.ref s.heap.objs.size) { s with heap:=s.heap.push { cls:=.type "tuple",data:=.seq ((items.toList.drop (sIx items.size 0 lo)).take (sIx items.size items.size hi-sIx items.size 0 lo)).toArray } })
  (hsz:items.size≤sizeLine):wpAny (model prog w) A (getItem (.ref t) (.ref sl)) Q E s:=by
 have htake:sizeOk (.seq ((items.toList.drop (sIx items.size 0 lo)).take (sIx items.size items.size hi-sIx items.size 0 lo)).toArray):=by
  show ((items.toList.drop (sIx items.size 0 lo)).take (sIx items.size items.size hi-sIx items.size 0 lo)).toArray.size≤sizeLine
  rw [List.size_toArray,List.length_take,List.length_drop,Array.length_toList]
  omega
 have hj:sIx items.size items.size hi≤items.size:=sIx_le _ _ (Nat.le_refl _) hi
 obtain ⟨os,hos,hcs,hds⟩:=id hs
 have hTs:s.TypeIs (.ref sl) "slice":=⟨os,hos,hcs⟩
 unfold getItem
 try with_reducible refine wpAny_holding ?_
 first | refine wpAny_bind (wpAny_pure ?_) | skip
 refine wpAny_bind (wpAny_sequenceKey ht.typeIs (by decide) ?_)
 refine wpAny_bind (wpAny_callSpecial?_slot (name:=Str.ofString "__getitem__") ht.typeIs PyProof.Rows.slot_tuple_getitem
  (wpAny_call_entry PyProof.Rows.slot_tuple_getitem ht.typeIs entry_tuple_getitem ?_ (args_tuple_getitem _ _)))
 show wpAny _ _ (Builtin.Tuple.tupleItemsOf (.ref t) >>= _) _ _ s
 refine wpAny_bind (tupleItemsOf_ ht ?_)
 refine wpAny_bind (wpAny_typeOf hTs ?_)
 rw [if_pos (by decide)]
 refine wpAny_bind (sliceApplied_gen hs pl pu ?_)
 have hno:¬ ((((sIx items.size 0 lo:Nat):Int) == 0 && (1:Int) == 1 && (sIx items.size items.size hi-sIx items.size 0 lo) == items.size)=true):=by
  intro q
  rw [Bool.and_eq_true,Bool.and_eq_true] at q
  have q1:((sIx items.size 0 lo:Nat):Int)=0:=eq_of_beq q.1.1
  have q2:sIx items.size items.size hi-sIx items.size 0 lo=items.size:=eq_of_beq q.2
  exact hw ⟨by omega,by omega⟩
 show wpAny _ _ (if (((sIx items.size 0 lo:Nat):Int) == 0 && (1:Int) == 1 && (sIx items.size items.size hi-sIx items.size 0 lo) == items.size)=true then _ else _) _ _ s
 rw [if_neg hno,pick_gen]
 first
  | exact wpAny_bind (m:=Builtin.Tuple.tupleExact _) (wpAny_newObj_type (wpAny_pure ⟨_,rfl,wpAny_pure h⟩) htake)
  | exact wpAny_bind (m:=Builtin.Tuple.tupleExact _) (wpAny_newObj_type (wpAny_bind (wpAny_pure (wpAny_pure ⟨_,rfl,wpAny_pure h⟩))) htake)
  | exact wpAny_bind (wpAny_bind (m:=Builtin.Tuple.tupleExact _) (wpAny_newObj_type (wpAny_pure (wpAny_pure ⟨_,rfl,wpAny_pure h⟩)) htake))
  | exact wpAny_bind (wpAny_bind (m:=Builtin.Tuple.tupleExact _) (wpAny_newObj_type (wpAny_pure ⟨_,rfl,wpAny_pure h⟩) htake))
end
end HT
namespace L2
open PySem PySem.Spec PyProof.Rows
abbrev TO:=St->Hp->(Option Int->Hp->Prop)->Prop
def PO (X:Cx) (e:Option Expr) (t:TO):Prop :=
 ∀ (pins:List (Addr×Obj)) (s:Shared) (σ:St) (H:Hp) (Q:Option Int->Hp->Prop),Inv X pins σ H s->t σ H Q →
  wpAny (model X.prog X.w) X.A (evalPart e X.env) (fun u s'=>∃ o H',Inv X pins σ H' s'∧IsPart u o∧Q o H') X.xe s
def tNoPart:TO:=fun _ H Q=>Q none H
def tPart (t:TE):TO:=fun σ H Q=>t σ H fun x H1=>∃ i,x=.int i∧Q (some i) H1
theorem intsAre_of {ns:List Int}:∀ {us:List Value},Vals (ns.map V.int) us->IntsAre us ns:=by
 induction ns with
 | nil=>intro us r; rw [List.map_nil] at r; cases r; exact .nil
 | cons n ns ih =>
  intro us r
  rw [List.map_cons] at r
  cases r with
  | cons r1 r2 =>
   obtain ⟨t,e⟩:=r1
   subst e
   exact .cons n t (ih r2)
section
variable {X:Cx} {e:Expr} {te:TE} {lo hi:Option Expr} {tl th:TO} {pos p2:Pos}
theorem po_none:PO X none tNoPart:=by
 intro pins s σ H Q I h
 rw [evalPart_none]
 exact wpAny_pure ⟨none,H,I,.none,h⟩
theorem po_some (h:PE X e te):PO X (some e) (tPart te):=by
 intro pins s σ H Q I hw
 rw [evalPart_some]
 refine thn (h pins s σ H _ I hw) fun u s1 ⟨x,H1,I1,r1,q1⟩=>?_
 obtain ⟨i,rfl,q⟩:=q1
 obtain ⟨t,rfl⟩:=r1
 exact ⟨some i,H1,I1,.int i t,q⟩
def SlR (X:Cx) (r:V->Option Int->Option Int->Hp->VK->Prop):Prop :=
 ∀ (pins:List (Addr×Obj)) (s:Shared) (σ:St) (H:Hp) (x:V) (v vl vu:Value) (lo hi:Option Int) (sl:Addr) (Q:VK),Inv X pins σ H s->RelV x v->s.heap.IsSliceOf sl vl vu .none->IsPart vl lo->IsPart vu hi->r x lo hi H Q →
  ∃ T id,typeLookup (.type T) "__getitem__" = pure (some (.builtin id))∧s.TypeIs v T∧wpAny (model X.prog X.w) X.A (getItem v (.ref sl)) (EP X pins σ Q) X.xe s
def tSl (r:V->Option Int->Option Int->Hp->VK->Prop) (te:TE) (tl th:TO):TE:=fun σ H Q=>te σ H fun x H1=>tl σ H1 fun l H2=>th σ H2 fun u H3=>r x l u H3 Q
theorem pe_slice {r:V->Option Int->Option Int->Hp->VK->Prop} (hr:SlR X r) (he:PE X e te) (hl:PO X lo tl) (hu:PO X hi th):PE X (.Subscript e (.Slice lo hi none p2) pos) (tSl r te tl th):=by
 intro pins s σ H Q I h
 refine Subscript_ (thn (he pins s σ H _ I h) fun v s1 ⟨x,H1,I1,r1,q1⟩=>?_)
 refine wpAny_Slice (thn (hl pins s1 σ H1 _ I1 q1) fun vl s2 ⟨l,H2,I2,pl,q2⟩=>thn (hu pins s2 σ H2 _ I2 q2) fun vu s3 ⟨u,H3,I3,pu,q3⟩=>?_)
 rw [evalPart_none]
 refine wpAny_pure ?_
 have I4:Inv X pins σ H3 { s3 with heap:=s3.heap.push { cls:=.type "slice",data:=.fields #[vl,vu,.none] } }:=I3.kept (t':=s3.toks) fun b ob q=>Heap.get?_push_of_some _ q
 obtain ⟨T,id,hT,ht,hg⟩:=hr pins { s3 with heap:=s3.heap.push { cls:=.type "slice",data:=.fields #[vl,vu,.none] } } σ H3 x v vl vu l u s3.heap.objs.size Q I4 r1 (Heap.IsSliceOf.new ..) pl pu q3
 show wpAny (model X.prog X.w) X.A (subscriptTail e (.Slice lo hi none p2) v (.ref s3.heap.objs.size)) (EP X pins σ Q) X.xe { s3 with heap:=s3.heap.push { cls:=.type "slice",data:=.fields #[vl,vu,.none] } }
 exact tail_any (ops:=[.ref s3.heap.objs.size,v]) ht hT hg (by with_unfolding_all rfl)
def cutV (xs:List V) (lo hi:Option Int):List V:=(xs.drop (HT.sIx xs.length 0 lo)).take (HT.sIx xs.length xs.length hi-HT.sIx xs.length 0 lo)
theorem cutV_length (xs:List V) (lo hi:Option Int):(cutV xs lo hi).length≤xs.length:=by
 unfold cutV
 rw [List.length_take,List.length_drop]
 omega
def rSlT (K:PySem.W.Frag):V->Option Int->Option Int->Hp->VK->Prop:=fun x lo hi H Q=>∃ a xs,x=.ref a∧SqT K H a xs ∧
 ¬ (HT.sIx xs.length 0 lo=0∧HT.sIx xs.length xs.length hi=xs.length)∧∀ p,H p=none->Q (.ref p) (upd H p (.tup (cutV xs lo hi)))
theorem sl_tup:SlR X (rSlT X.K):=by
 intro pins s σ H x v vl vu lo hi sl Q I rx hs pl pu h
 obtain ⟨a,xs,rfl,hx,hw,q⟩:=h
 cases rx
 obtain ⟨its,r,ht,hz⟩:=I.tuple hx
 have hlen:its.toArray.size=xs.length:=by rw [List.size_toArray]; exact r.length.symm
 refine ⟨"tuple",_,PyProof.Rows.slot_tuple_getitem.lookup,ht.typeIs,?_⟩
 refine HT.getItem_tuple_cut ht hs pl pu (by rw [hlen]; exact hw) ?_ (by rw [hlen]; exact hz)
 rw [hlen]
 refine ⟨.ref s.heap.objs.size,_,I.laid (t':=s.toks) (o:=.tup (cutV xs lo hi)) (fun b ob q=>Heap.get?_push_of_some _ q) (Nat.le_refl _) ?_,rfl,q _ (I.hok.fresh (Nat.le_refl _))⟩
 exact ⟨Nat.le_trans (cutV_length xs lo hi) hz,_,(r.drop (HT.sIx xs.length 0 lo)).take (HT.sIx xs.length xs.length hi-HT.sIx xs.length 0 lo),IsTup.new _ _,_,Heap.get?_push_size _ rfl,rfl⟩
def rCatT (K:PySem.W.Frag):R2:=fun x y H Q=>∃ a b xs ys,x=.ref a∧y=.ref b∧SqT K H a xs∧SqT K H b ys∧xs≠[]∧xs.length+ys.length≤sizeLine ∧
 (ys=[]->Q (.ref a) H)∧(ys≠[]->∀ p,H p=none->Q (.ref p) (upd H p (.tup (xs++ys))))
theorem Vals.nil_iff {xs:List V} {us:List Value} (r:Vals xs us):us=[]↔xs=[]:=by
 cases r with
 | nil=>simp
 | cons _ _=>simp
theorem op_catT:OpR X (binaryOp .Add) (rCatT X.K):=by
 intro pins s σ H x y v u Q I rx ry h
 obtain ⟨a,b,xs,ys,rfl,rfl,ha,hb,hx,hz,q1,q2⟩:=h
 cases rx
 cases ry
 obtain ⟨its,r1,p1,_⟩:=I.tuple ha
 obtain ⟨its2,r2,p2,_⟩:=I.tuple hb
 refine HT.cat_tup p1 p2 (fun z=>hx (r1.nil_iff.mp z)) (fun z=>⟨.ref a,H,I,rfl,q1 (r2.nil_iff.mp z)⟩) (fun z=>?_) (by rw [←r1.length,←r2.length]; exact hz)
 refine ⟨.ref s.heap.objs.size,_,I.laid (t':=s.toks) (o:=.tup (xs++ys)) (fun b ob q=>Heap.get?_push_of_some _ q) (Nat.le_refl _) ?_,rfl,q2 (fun w=>z (r2.nil_iff.mpr w)) _ (I.hok.fresh (Nat.le_refl _))⟩
 exact ⟨by rw [List.length_append]; exact hz,_,r1.append r2,IsTup.new _ _,_,Heap.get?_push_size _ rfl,rfl⟩
end
end L2
namespace L2
open PySem PySem.Spec PyProof.Rows
def ixN (n:Nat) (i:Int):Option Nat:=if 0≤i then (if i<n then some i.toNat else none) else if -(n:Int)≤i then some (i+n).toNat else none
def atI {α:Type} (xs:List α) (i:Int):Option α:=(ixN xs.length i).bind fun j=>xs[j]?
theorem ixN_seq {n:Nat} {i:Int} {j:Nat} (h:ixN n i=some j):seqIndex? i n=some j∧j<n∧-(n:Int)≤i∧i<n:=by
 unfold ixN at h
 by_cases h0:0≤i
 ·rw [if_pos h0] at h
  by_cases h1:i<n
  ·rw [if_pos h1] at h
   have e:i.toNat=j:=Option.some.inj h
   exact ⟨by rw [seqIndex_of h0 h1,e],by omega,by omega,h1⟩
  ·rw [if_neg h1] at h; cases h
 ·rw [if_neg h0] at h
  by_cases h1:-(n:Int)≤i
  ·rw [if_pos h1] at h
   have e:(i+n).toNat=j:=Option.some.inj h
   exact ⟨by rw [seqIndex_neg (by omega) h1,e],by omega,h1,by omega⟩
  ·rw [if_neg h1] at h; cases h
theorem atI_get {α:Type} {xs:List α} {i:Int} {v:α} (h:atI xs i=some v):∃ j,seqIndex? i xs.length=some j∧xs[j]?=some v∧j<xs.length∧-(xs.length:Int)≤i∧i<xs.length:=by
 unfold atI at h
 cases e:ixN xs.length i with
 | none=>rw [e] at h; cases h
 | some j =>
  rw [e] at h
  obtain ⟨h1,h2,h3,h4⟩:=ixN_seq e
  exact ⟨j,h1,h,h2,h3,h4⟩
theorem atI_nat {α:Type} {xs:List α} {j:Nat} {v:α} (h:xs[j]?=some v):atI xs (j:Int)=some v:=by
 have hj:j<xs.length:=(List.getElem?_eq_some_iff.mp h).1
 have e:ixN xs.length (j:Int)=some j:=by
  unfold ixN
  rw [if_pos (by omega),if_pos (by omega)]; simp
 unfold atI; rw [e]; exact h
def PlainIx (b:Expr):Prop:=∀ o i,subscripted b false o i=operate [o,i] (getItem o i)
def IxR (X:Cx) (r:R2):Prop :=
 ∀ (value slice:Expr) (pins:List (Addr×Obj)) (s:Shared) (σ:St) (H:Hp) (x y:V) (v u:Value) (Q:VK),Inv X pins σ H s->RelV x v->RelV y u->r x y H Q →
  subscripted slice false v u=operate [v,u] (getItem v u)->wpAny (model X.prog X.w) X.A (subscriptTail value slice v u) (EP X pins σ Q) X.xe s
def MtR (X:Cx) (id:String) (r:V->List V->Hp->VK->Prop):Prop :=
 ∀ (pins:List (Addr×Obj)) (s:Shared) (σ:St) (H:Hp) (x:V) (xs:List V) (v:Value) (us:List Value) (Q:VK),Inv X pins σ H s->RelV x v->Vals xs us->r x xs H Q →
  wpAny (model X.prog X.w) X.A (call (.builtin id) (v :: us)) (EP X pins σ Q) X.xe s
section
variable {X:Cx} {a b:Expr} {ta tb:TE} {pos:Pos}
theorem pe_ix {r:R2} (hr:IxR X r) (ha:PE X a ta) (hb:PE X b tb) (hs:PlainIx b):PE X (.Subscript a b pos) (tOp r ta tb):=by
 intro pins s σ H Q I h
 exact Subscript_ (binT ha hb I h fun v u s2 x y H2 I2 rx ry q=>hr a b pins s2 σ H2 x y v u Q I2 rx ry q (hs _ _))
inductive IxLR (K:PySem.W.Frag) (x y:V) (H:Hp) (Q:VK):Prop
 | mk (p:Addr) (xs:List V) (i:Int) (v:V) (a:x=.ref p) (b:y=.int i) (c:SqL K H p xs) (d:atI xs i=some v) (q:Q v H):IxLR K x y H Q
inductive IxTR (K:PySem.W.Frag) (x y:V) (H:Hp) (Q:VK):Prop
 | mk (p:Addr) (xs:List V) (i:Int) (v:V) (a:x=.ref p) (b:y=.int i) (c:SqT K H p xs) (d:atI xs i=some v) (q:Q v H):IxTR K x y H Q
def rIxL (K:PySem.W.Frag):R2:=fun x y H Q=>IxLR K x y H Q
def rIxT (K:PySem.W.Frag):R2:=fun x y H Q=>IxTR K x y H Q
theorem ix_list:IxR X (rIxL X.K):=by
 intro value slice pins s σ H x y v u Q I rx ry h hs
 obtain ⟨p,xs,i,z,rfl,rfl,hq,he,q⟩:=h
 cases rx
 obtain ⟨t,rfl⟩:=ry
 obtain ⟨its,r,pl,hz⟩:=I.list hq
 obtain ⟨j,h1,h2,h3,h4,h5⟩:=atI_get he
 obtain ⟨w,ew,rw'⟩:=r.get h2
 have hl:=r.length
 have hn:=line63
 have fin:EP X pins σ Q w s:=⟨z,H,I,rw',q⟩
 by_cases h0:0≤i
 ·have hj:i.toNat=j:=by
   rw [seqIndex_of h0 h5] at h1
   exact Option.some.inj h1
  exact item_listR pl.isList h0 (by omega) (by rw [hj]; simpa using ew) fin hs
 ·have hj:(i+(its.toArray.size:Int)).toNat=j:=by
   rw [seqIndex_neg (by omega) h4] at h1
   rw [List.size_toArray,←hl]
   exact Option.some.inj h1
  exact subscriptTail_builtinR (x:=w) pl.isList.typeIs slot_list_getitem.lookup
   (wpAny_getItem_list_neg (Q:=fun r s'=>r=w∧EP X pins σ Q r s') pl.isList (by omega) (by rw [List.size_toArray] <;> omega) (by omega) (by rw [hj]; simpa using ew) ⟨rfl,fin⟩) hs
theorem ix_tup:IxR X (rIxT X.K):=by
 intro value slice pins s σ H x y v u Q I rx ry h hs
 obtain ⟨p,xs,i,z,rfl,rfl,hq,he,q⟩:=h
 cases rx
 obtain ⟨t,rfl⟩:=ry
 obtain ⟨its,r,pl,hz⟩:=I.tuple hq
 obtain ⟨j,h1,h2,h3,h4,h5⟩:=atI_get he
 obtain ⟨w,ew,rw'⟩:=r.get h2
 have hl:=r.length
 have hn:=line63
 have fin:EP X pins σ Q w s:=⟨z,H,I,rw',q⟩
 exact subscriptTail_builtinR (x:=w) pl.typeIs slot_tuple_getitem.lookup
  (getItem_tuple (j:=j) (Q:=fun r s'=>r=w∧EP X pins σ Q r s') pl (by omega) (by omega) (by rw [List.size_toArray,←hl]; exact h1) (by simpa using ew) ⟨rfl,fin⟩) hs
theorem mapSeq_set (its:List Value) (n j:Nat) (u:Value):Obj.mapSeq (·.setIfInBounds j u) { cls:=.type "list",data:=.seq its.toArray n }={ cls:=.type "list",data:=.seq (its.set j u).toArray n }:=by
 simp [Obj.mapSeq]
theorem Inv.lst {pins:List (Addr×Obj)} {σ:St} {H:Hp} {s:Shared} {p:Addr} {xs:List V} (I:Inv X pins σ H s) (h:H p=some (.lst xs)) :
  ∃ (its:List Value) (n:Nat),Vals xs its∧s.heap.get? p=some { cls:=.type "list",data:=.seq its.toArray n }∧xs.length≤sizeLine:=by
 obtain ⟨z,its,n,r,e⟩:=I.hok p _ h
 exact ⟨its,n,r,e,z⟩
theorem Inv.lstUpd {pins:List (Addr×Obj)} {σ:St} {H:Hp} {s:Shared} {p:Addr} {xs ys:List V} {its its':List Value} {n n':Nat} {f:Obj->Obj} (I:Inv X pins σ H s) (h:H p=some (.lst xs))
  (ho:s.heap.get? p=some { cls:=.type "list",data:=.seq its.toArray n }) (hf:f { cls:=.type "list",data:=.seq its.toArray n }={ cls:=.type "list",data:=.seq its'.toArray n' }) (r:Vals ys its') (hz:ys.length≤sizeLine) (t:Nat) :
  Inv X pins σ (upd H p (.lst ys)) { s with heap:=s.heap.update p f,toks:=t }:=by
 have e:(s.heap.update p f).get? p=some { cls:=.type "list",data:=.seq its'.toArray n' }:=by
  rw [Heap.get?_update_self f ho (by rw [hf] <;> rfl),hf]
 refine I.write (x:=p) (e:=p) (by rw [h]; trivial) (.inl rfl) (fun b u hb q=>(Heap.get?_update_other _ _ (Ne.symm hb)).trans q) ⟨_,e⟩ ?_
 exact ⟨hz,its',n',r,e⟩
inductive SetLR (o i v:V) (H:Hp) (Q:Hp->Prop):Prop
 | mk (p:Addr) (xs:List V) (k:Int) (j:Nat) (e1:o=.ref p) (e2:i=.int k) (h:H p=some (.lst xs)) (x:ixN xs.length k=some j) (q:Q (upd H p (.lst (xs.set j v)))):SetLR o i v H Q
def rSetL:V->V->V->Hp->(Hp->Prop)->Prop:=fun o i v H Q=>SetLR o i v H Q
theorem set_list:PSet X rSetL:=by
 intro pins s σ H o i v ov iv u Q I ro ri rv h
 obtain ⟨p,xs,k,j,rfl,rfl,hp,hj,q⟩:=h
 cases ro
 obtain ⟨t,rfl⟩:=ri
 obtain ⟨its,n,r,ho,hz⟩:=I.lst hp
 obtain ⟨h1,h2,h3,h4⟩:=ixN_seq hj
 have hl:=r.length
 have hn:=line63
 have I':Inv X pins σ (upd H p (.lst (xs.set j v))) { s with heap:=s.heap.update p (Obj.mapSeq (·.setIfInBounds j u)) } :=
  I.lstUpd hp ho (mapSeq_set its n j u) (r.set rv j) (by rw [List.length_set]; exact hz) s.toks
 by_cases h0:0≤k
 ·have hk:k.toNat=j:=by
   rw [seqIndex_of h0 h4] at h1
   exact Option.some.inj h1
  exact PySem.W.ki_setAt ho h0 (by omega) (by rw [List.size_toArray,←hl]; exact h4) (by rw [hk]; exact ⟨_,I',q⟩)
 ·have hk:(k+(its.toArray.size:Int)).toNat=j:=by
   rw [seqIndex_neg (by omega) h3] at h1
   rw [List.size_toArray,←hl]
   exact Option.some.inj h1
  exact PySem.W.ki_setBack ho (by omega) (by rw [List.size_toArray,←hl]; exact h3) (by omega) (by rw [hk]; exact ⟨_,I',q⟩)
theorem slice_bounds (lo hi:Option Int) (n:Nat):(sliceBounds lo hi none n).1=((HT.sIx n 0 lo:Nat):Int)∧(sliceBounds lo hi none n).2.1=((HT.sIx n n hi:Nat):Int)∧(sliceBounds lo hi none n).2.2=1:=by
 refine ⟨?_,?_,rfl⟩
 ·cases lo with
  | none=>simp [sliceBounds,HT.sIx]
  | some i =>
   simp only [sliceBounds,HT.sIx,Option.getD_none,show (1:Int) > 0 by decide,if_true]
   by_cases h:i<0
   ·simp only [h,if_true] <;> omega
   ·simp only [h,if_false] <;> omega
 ·cases hi with
  | none=>simp [sliceBounds,HT.sIx]
  | some i =>
   simp only [sliceBounds,HT.sIx,Option.getD_none,show (1:Int) > 0 by decide,if_true]
   by_cases h:i<0
   ·simp only [h,if_true] <;> omega
   ·simp only [h,if_false] <;> omega
theorem slicePick_cut (its:List Value) (lo hi:Option Int):slicePick its.toArray lo hi none=((its.drop (HT.sIx its.length 0 lo)).take (HT.sIx its.length its.length hi-HT.sIx its.length 0 lo)).toArray:=by
 obtain ⟨h1,h2,h3⟩:=slice_bounds lo hi its.toArray.size
 unfold slicePick
 rw [h1,h2,h3]
 simp only [sliceRange_one,pick_run,List.size_toArray] <;> rfl
inductive SlLR (K:PySem.W.Frag) (x:V) (lo hi:Option Int) (H:Hp) (Q:VK):Prop
 | mk (a:Addr) (xs:List V) (e:x=.ref a) (s:SqL K H a xs) (q:∀ p,H p=none->Q (.ref p) (upd H p (.lst (cutV xs lo hi)))):SlLR K x lo hi H Q
def rSlL (K:PySem.W.Frag):V->Option Int->Option Int->Hp->VK->Prop:=fun x lo hi H Q=>SlLR K x lo hi H Q
theorem sl_list:SlR X (rSlL X.K):=by
 intro pins s σ H x v vl vu lo hi sl Q I rx hs pl pu h
 obtain ⟨a,xs,rfl,hx,q⟩:=h
 cases rx
 obtain ⟨its,r,ht,hz⟩:=I.list hx
 have hlen:=r.length
 refine ⟨"list",_,slot_list_getitem.lookup,ht.isList.typeIs,?_⟩
 refine wpAny_getItem_list_slice ht.isList hs pl pu .none (by simp) ?_ (by rw [List.size_toArray] <;> omega)
 rw [slicePick_cut,←hlen]
 refine ⟨.ref s.heap.objs.size,_,I.laid (t':=s.toks) (o:=.lst (cutV xs lo hi)) (fun b ob q=>Heap.get?_push_of_some _ q) (Nat.le_refl _) ?_,rfl,q _ (I.hok.fresh (Nat.le_refl _))⟩
 exact ⟨Nat.le_trans (cutV_length xs lo hi) hz,_,0,(r.drop (HT.sIx xs.length 0 lo)).take (HT.sIx xs.length xs.length hi-HT.sIx xs.length 0 lo),Heap.get?_push_size _ rfl⟩
def flatV:V->Bool
 | .non=>true
 | .bl _=>true
 | .int _=>true
 | .str _=>true
 | _=>false
def eqV:V->V->Bool
 | .non,.non=>true
 | .bl a,.bl b=>a == b
 | .bl a,.int b=>(if a then 1 else 0) == b
 | .int a,.bl b=>a == (if b then 1 else 0)
 | .int a,.int b=>a == b
 | .str a,.str b=>a == b
 | _,_=>false
theorem eqAt_V {A:Around} {s:Shared} {y x:V} {u v:Value} (ry:RelV y u) (rx:RelV x v) (fy:flatV y=true) (fx:flatV x=true):SeqAt.EqAt A s u v (eqV y x):=by
 cases y with
 | non =>
  cases ry
  cases x with
  | non=>cases rx; exact SeqAt.EqAt.same _
  | bl b=>cases rx; exact SeqAt.EqAt.none_bool b
  | int b=>obtain ⟨t,rfl⟩:=rx; exact SeqAt.EqAt.none_int b t
  | str b=>obtain ⟨t,rfl⟩:=rx; exact SeqAt.EqAt.none_str b t
  | _=>exact absurd (show false=true from fx) Bool.false_ne_true
 | bl a =>
  cases ry
  cases x with
  | non=>cases rx; exact SeqAt.EqAt.bool_none a
  | bl b=>cases rx; exact SeqAt.EqAt.bool_bool a b
  | int b=>obtain ⟨t,rfl⟩:=rx; exact SeqAt.EqAt.bool_int a b t
  | str b=>obtain ⟨t,rfl⟩:=rx; exact SeqAt.EqAt.bool_str a b t
  | _=>exact absurd (show false=true from fx) Bool.false_ne_true
 | int a =>
  obtain ⟨t',rfl⟩:=ry
  cases x with
  | non=>cases rx; exact SeqAt.EqAt.int_none a t'
  | bl b=>cases rx; exact SeqAt.EqAt.int_bool a t' b
  | int b=>obtain ⟨t,rfl⟩:=rx; exact SeqAt.EqAt.int_int a t' b t
  | str b=>obtain ⟨t,rfl⟩:=rx; exact SeqAt.EqAt.int_str a t' b t
  | _=>exact absurd (show false=true from fx) Bool.false_ne_true
 | str a =>
  obtain ⟨t',rfl⟩:=ry
  cases x with
  | non=>cases rx; exact SeqAt.EqAt.str_none a t'
  | bl b=>cases rx; exact SeqAt.EqAt.str_bool a t' b
  | int b=>obtain ⟨t,rfl⟩:=rx; exact SeqAt.EqAt.str_int a t' b t
  | str b=>obtain ⟨t,rfl⟩:=rx; exact SeqAt.EqAt.str_str a t' b t
  | _=>exact absurd (show false=true from fx) Bool.false_ne_true
 | _=>exact absurd (show false=true from fy) Bool.false_ne_true
def eqU (x:V) (u:Value):Bool:=match u with
 | .none=>eqV .non x
 | .bool b=>eqV (.bl b) x
 | .int i _=>eqV (.int i) x
 | .str z _=>eqV (.str z) x
 | _=>false
theorem eqU_of {x y:V} {u:Value} (r:RelV y u) (f:flatV y=true):eqU x u=eqV y x:=by
 cases y with
 | non=>cases r; rfl
 | bl b=>cases r; rfl
 | int i=>obtain ⟨t,rfl⟩:=r; rfl
 | str z=>obtain ⟨t,rfl⟩:=r; rfl
 | _=>exact absurd (show false=true from f) Bool.false_ne_true
theorem any_eqU {x:V}:∀ {xs:List V} {us:List Value},Vals xs us->xs.all flatV=true->us.any (eqU x)=xs.any fun y=>eqV y x
 | _,_,.nil,_=>rfl
 | y :: xs,u :: us,.cons r t,f=>by
  rw [List.all_cons,Bool.and_eq_true] at f
  rw [List.any_cons,List.any_cons,eqU_of r f.1,any_eqU t f.2]
theorem mem_eqAt {A:Around} {s:Shared} {x:V} {v:Value} (rx:RelV x v) (fx:flatV x=true):∀ {xs:List V} {us:List Value},Vals xs us->xs.all flatV=true->∀ u∈us,SeqAt.EqAt A s u v (eqU x u)
 | _,_,.nil,_=>fun u hu=>by cases hu
 | y :: xs,u :: us,.cons r t,f=>fun u' hu=>by
  rw [List.all_cons,Bool.and_eq_true] at f
  rcases List.mem_cons.mp hu with rfl | hu
  ·rw [eqU_of r f.1]; exact eqAt_V r rx f.1 fx
  ·exact mem_eqAt rx fx t f.2 u' hu
def inV (x:V) (xs:List V):Bool:=xs.any fun y=>eqV y x
def rIn (K:PySem.W.Frag) (neg:Bool):R2:=fun x y H Q=>∃ p xs,y=.ref p∧(SqL K H p xs∨SqT K H p xs)∧flatV x=true∧xs.all flatV=true∧Q (.bl (if neg then !inV x xs else inV x xs)) H
theorem op_in_seq:OpR X (compareOp .In) (rIn X.K false):=by
 intro pins s σ H x y v u Q I rx ry h
 obtain ⟨p,xs,rfl,hq,fx,fs,q⟩:=h
 cases ry
 rcases hq with hq | hq
 ·obtain ⟨its,r,pl,hz⟩:=I.list hq
  refine SeqAt.in_listAt (eqU x) pl.isList (fun w hw=>mem_eqAt rx fx r fs w (by simpa using hw)) ⟨.bl _,H,I,rfl,?_⟩
  rw [show its.toArray.any (eqU x)=its.any (eqU x) by simp,any_eqU r fs]
  exact q
 ·obtain ⟨its,r,pl,hz⟩:=I.tuple hq
  refine SeqAt.in_tupleAt (eqU x) pl (fun w hw=>mem_eqAt rx fx r fs w (by simpa using hw)) ⟨.bl _,H,I,rfl,?_⟩
  rw [show its.toArray.any (eqU x)=its.any (eqU x) by simp,any_eqU r fs]
  exact q
inductive LenR (K:PySem.W.Frag) (xs:List V) (H:Hp) (Q:VK):Prop
 | mk (p:Addr) (ys:List V) (e:xs=[.ref p]) (s:SqL K H p ys∨SqT K H p ys) (q:Q (.int ys.length) H):LenR K xs H Q
theorem call_len_seq:CallR X (.builtin "len") (LenR X.K):=by
 intro pins s σ H xs us Q I r h
 obtain ⟨p,ys,rfl,hq,q⟩:=h
 obtain ⟨u,rfl,rx⟩:=vals1 r
 cases rx
 have hn:=line63
 rcases hq with hq | hq
 ·obtain ⟨its,r',pl,hz⟩:=I.list hq
  have hlen:=r'.length
  exact Calls.call_len_list pl.isList (by simp only [List.size_toArray] <;> omega) ⟨.int ys.length,H,I.tok _,⟨s.toks+1,by rw [List.size_toArray,hlen]⟩,q⟩
 ·obtain ⟨its,r',pl,hz⟩:=I.tuple hq
  have hlen:=r'.length
  exact len_tuple pl (by simp only [List.size_toArray] <;> omega) ⟨.int ys.length,H,I.tok _,⟨s.toks+1,by rw [List.size_toArray,hlen]⟩,q⟩
theorem call_list_of:CallR X (.type "list") (fun xs H Q=>∃ p ys,xs=[.ref p]∧(SqL X.K H p ys∨SqT X.K H p ys)∧∀ l,H l=none->Q (.ref l) (upd H l (.lst ys))):=by
 intro pins s σ H xs us Q I r h
 obtain ⟨p,ys,rfl,hq,q⟩:=h
 obtain ⟨u,rfl,rx⟩:=vals1 r
 cases rx
 have fin:∀ (its:List Value),Vals ys its->ys.length≤sizeLine->∀ (h':Heap) (c':Nat),(∀ b o',s.heap.get? b=some o'->h'.get? b=some o') →
   h'.get? s.heap.objs.size=some { cls:=.type "list",dict:=none,data:=.seq its.toArray c',slots:=#[] }->EP X pins σ Q (.ref s.heap.objs.size) { s with heap:=h' }:=fun its r' hz h' c' kp e =>
  ⟨.ref s.heap.objs.size,_,I.laid (t':=s.toks) kp (Nat.le_refl _) (show ObjOk X.prog X.w _ h' _ (.lst ys) from ⟨hz,its,c',r',e⟩),rfl,q _ (I.hok.fresh (Nat.le_refl _))⟩
 rcases hq with hq | hq
 ·obtain ⟨its,r',pl,hz⟩:=I.list hq
  have hlen:=r'.length
  obtain ⟨o,ho,hc,n,hd⟩:=pl.isList
  exact call_list_seq p (.inl rfl) ho hc hd (fun h' c' kp e=>fin its r' hz h' c' kp e) (by simp only [List.size_toArray] <;> omega)
 ·obtain ⟨its,r',pl,hz⟩:=I.tuple hq
  have hlen:=r'.length
  obtain ⟨o,ho,hc,n,hd⟩:=pl
  exact call_list_seq p (.inr rfl) ho hc hd (fun h' c' kp e=>fin its r' hz h' c' kp e) (by simp only [List.size_toArray] <;> omega)
theorem call_tuple_of:CallR X (.type "tuple") (fun xs H Q=>∃ p ys,xs=[.ref p]∧((SqL X.K H p ys∧∀ l,H l=none->Q (.ref l) (upd H l (.tup ys)))∨(SqT X.K H p ys∧Q (.ref p) H))):=by
 intro pins s σ H xs us Q I r h
 obtain ⟨p,ys,rfl,h⟩:=h
 obtain ⟨u,rfl,rx⟩:=vals1 r
 cases rx
 rcases h with ⟨hq,q⟩ | ⟨hq,q⟩
 ·obtain ⟨its,r',pl,hz⟩:=I.list hq
  have hlen:=r'.length
  refine call_tuple_list pl.isList (fun h' kp=>?_) (by simp only [List.size_toArray] <;> omega)
  have I1:Inv X pins σ H { s with heap:=h' }:=I.kept (t':=s.toks) kp
  have I2:Inv X pins σ (upd H h'.objs.size (.tup ys)) { s with heap:=h'.push { cls:=.type "tuple",data:=.seq its.toArray } } :=
   I1.laid (t':=s.toks) (fun b o e=>Heap.get?_push_of_some _ e) (Nat.le_refl _) (show ObjOk X.prog X.w _ _ _ (.tup ys) from ⟨hz,its,r',IsTup.new _ _,_,Heap.get?_push_size _ rfl,rfl⟩)
  exact ⟨.ref h'.objs.size,_,I2,rfl,q _ (I1.hok.fresh (Nat.le_refl _))⟩
 ·obtain ⟨its,r',pl,hz⟩:=I.tuple hq
  exact call_tuple_same pl ⟨.ref p,H,I,rfl,q⟩
def tyV (K:PySem.W.Frag) (T:String) (x:V) (H:Hp):Prop:=match x with
 | .str _=>T="str"
 | .int _=>T="int"
 | .ref p=>(T="list"∧∃ xs,SqL K H p xs)∨(T="tuple"∧∃ o,K.lookup p=some o∧o.cls=.type "tuple"∧o.dict=none) ∨
   (T="dict"∧((∃ kvs,H p=some (.dK kvs))∨∃ kvs,H p=some (.dT kvs)))∨(T="set"∧∃ S n,H p=some (.set S n))
 | _=>False
theorem tyV_is {pins:List (Addr×Obj)} {σ:St} {H:Hp} {s:Shared} {T:String} {x:V} {v:Value} (I:Inv X pins σ H s) (r:RelV x v) (ty:tyV X.K T x H) :
  s.TypeIs v T∧∀ a,v=.ref a->∃ ob,s.heap.get? a=some ob∧ob.dict=none:=by
 cases x with
 | str z =>
  obtain ⟨t,rfl⟩:=r
  cases (show T="str" from ty)
  exact ⟨typeIs_str s z t,fun _ e=>nomatch e⟩
 | int i =>
  obtain ⟨t,rfl⟩:=r
  cases (show T="int" from ty)
  exact ⟨typeIs_int s i t,fun _ e=>nomatch e⟩
 | ref p =>
  cases r
  rcases ty with ⟨rfl,xs,hq⟩ | ⟨rfl,o,hk,hc,hd⟩ | ⟨rfl,hk⟩ | ⟨rfl,S,n,hk⟩
  ·obtain ⟨its,_,pl,_⟩:=I.list hq
   refine ⟨pl.isList.typeIs,fun a e=>?_⟩
   cases e
   obtain ⟨o,n,e,c,hd,_⟩:=pl
   exact ⟨o,e,hd⟩
  ·refine ⟨⟨o,I.kIn p o hk,hc⟩,fun a e=>?_⟩
   cases e
   exact ⟨o,I.kIn _ o hk,hd⟩
  ·have z:∃ o,s.heap.get? p=some o∧o.ExactDict:=by
    rcases hk with ⟨kvs,hk⟩ | ⟨kvs,hk⟩
    ·obtain ⟨_,_,_,_,o,_,_,e,ex,_⟩:=I.hok p _ hk
     exact ⟨o,e,ex⟩
    ·obtain ⟨_,_,_,_,o,_,_,e,ex,_⟩:=I.hok p _ hk
     exact ⟨o,e,ex⟩
   obtain ⟨o,e,ex⟩:=z
   refine ⟨⟨o,e,ex.1⟩,fun a e2=>?_⟩
   cases e2
   exact ⟨o,e,ex.2.1⟩
  ·obtain ⟨o,_,_,_,e,ex,_⟩:=I.hok p _ hk
   refine ⟨⟨o,e,ex.1⟩,fun a e2=>?_⟩
   cases e2
   exact ⟨o,e,ex.2.1⟩
 | _=>exact False.elim ty
def tBM (K:PySem.W.Frag) (T:String) (r:V->List V->Hp->VK->Prop) (to:TE) (t:TA):TE:=fun σ H Q=>to σ H fun x H1=>tyV K T x H1∧t σ H1 fun xs H2=>r x xs H2 Q
variable {o e:Expr} {es:List Expr} {to:TE} {t:TA} {name:Str} {apos cpos:Pos} {T id:String} {r:V->List V->Hp->VK->Prop}
theorem pe_bm (pa:PlainAttrs T) (slot:Slot T name id) (hty:typeOf (.builtin id)=pure (.type "method_descriptor")) (hm:MtR X id r) (ho:PE X o to) (ha:PA X (e :: es) t)
  (hbase:attributeBase o name X.env (eval o X.env)=eval o X.env:=by rfl)
  (hfew:((backTo cpos (starEach (e :: es) X.env)).all (fun x=>!x.1) && (backToKw cpos (keywordEach [] X.env)).all (fun x=>x.1.isSome)
   && decide ((e :: es).length+([]:List Keyword).length+(if ([]:List Keyword).isEmpty then 0 else 1)<30))=true:=by rfl)
  (hline:(apos.endLine == cpos.line)=true:=by rfl) (hs:starEach (e :: es) X.env=(false,eval e X.env) :: starEach es X.env:=by rfl) (hplain:(backTo cpos (starEach es X.env)).any (·.1)=false:=by rfl) :
  PE X (.Call (.Attribute o name apos) (e :: es) [] cpos) (tBM X.K T r to t):=by
 intro pins s σ H Q I h
 refine wpAny_Call_method_late hbase hfew hline rfl (thn (ho pins s σ H _ I h) fun v s1 ⟨x,H1,I1,r1,ty,q1⟩=>?_)
 obtain ⟨h1,h2⟩:=tyV_is I1 r1 ty
 refine ⟨T,id,pa,slot,hty,h1,h2,?_⟩
 have hA:=ha cpos pins s1 σ H1 _ I1 q1
 rw [hs] at hA ⊢
 refine Calls.callWith_builtin (by show (false || (backTo cpos (starEach es X.env)).any (·.1))=false; rw [hplain] <;> rfl) (Calls.evalArgs_plain ?_)
 exact thn hA fun us s2 ⟨vs,H2,I2,r2,q2⟩=>hm pins s2 σ H2 x vs v us Q I2 r1 r2 q2
/- xs.append(e),list.index on a module's tuple .. are MtR facts of 06m -/
end
end L2
namespace L2
open PySem PySem.Spec PyProof.Rows
def MtM (X:Cx) (id:String) (r:V->List V->Hp->VK->Prop):Prop :=
 ∀ (pins:List (Addr×Obj)) (s:Shared) (σ:St) (H:Hp) (x:V) (xs:List V) (v:Value) (us:List Value) (Q:VK),Inv X pins σ H s->RelV x v->Vals xs us->r x xs H Q →
  wpAny (model X.prog X.w) X.A (call (.builtin id) (v :: us)) (EP X pins σ Q) X.xe s
theorem Vals.one:∀ {x:V} {us:List Value},Vals [x] us->∃ u,us=[u]∧RelV x u
 | _,_,.cons r .nil=>⟨_,rfl,r⟩
theorem Vals.two:∀ {x y:V} {us:List Value},Vals [x,y] us->∃ u v,us=[u,v]∧RelV x u∧RelV y v
 | _,_,_,.cons r (.cons q .nil)=>⟨_,_,rfl,r,q⟩
theorem Vals.zero:∀ {us:List Value},Vals [] us->us=[]
 | _,.nil=>rfl
theorem Vals.eraseIdx:∀ {xs:List V} {us:List Value} (i:Nat),Vals xs us->Vals (xs.eraseIdx i) (us.eraseIdx i)
 | _,_,_,.nil=>.nil
 | _,_,0,.cons _ t=>t
 | _,_,i+1,.cons r t=>.cons r (Vals.eraseIdx i t)
theorem Vals.reverse {xs:List V} {us:List Value} (h:Vals xs us):Vals xs.reverse us.reverse:=by
 induction h with
 | nil=>exact .nil
 | cons r t ih=>rw [List.reverse_cons,List.reverse_cons]; exact Vals.append ih (.cons r .nil)
theorem Vals.rep {xs:List V} {us:List Value} (h:Vals xs us):∀ k:Nat,Vals (List.replicate k xs).flatten (List.replicate k us).flatten
 | 0=>.nil
 | k+1=>by
  rw [List.replicate_succ,List.replicate_succ,List.flatten_cons,List.flatten_cons]
  exact Vals.append h (Vals.rep h k)
theorem len_erase {α:Type}:∀ (l:List α) (i:Nat),(l.eraseIdx i).length≤l.length
 | [],_=>Nat.le_refl _
 | _ :: _,0=>Nat.le_succ _
 | _ :: r,i+1=>Nat.succ_le_succ (len_erase r i)
theorem foldl_rep (its:List Value):∀ (k:Nat) (acc:List Value),
  List.foldl (fun x1 x2=>x1++x2) acc.toArray (List.replicate k its.toArray)=(acc++(List.replicate k its).flatten).toArray
 | 0,acc=>by simp
 | k+1,acc=>by
  have e:acc.toArray++its.toArray=(acc++its).toArray:=by simp
  have e2:(acc++its)++(List.replicate k its).flatten=acc++(List.replicate (k+1) its).flatten:=by
   rw [List.replicate_succ,List.flatten_cons,List.append_assoc]
  rw [←e2,←foldl_rep its k (acc++its),←e,List.replicate_succ,List.foldl_cons]
section
variable {X:Cx} {pins:List (Addr×Obj)} {σ:St} {H:Hp} {s:Shared} {l b:Addr} {xs ys zs:List V}
theorem Inv.lset {its its':List Value} {n:Nat} {f:Array Value->Array Value} {t':Nat} (I:Inv X pins σ H s) (hH:H l=some (.lst xs))
  (e:s.heap.get? l=some { cls:=.type "list",data:=.seq its.toArray n }) (hf:f its.toArray=its'.toArray) (hv:Vals ys its') (hz:ys.length≤sizeLine) :
  Inv X pins σ (upd H l (.lst ys)) { s with heap:=s.heap.update l (Obj.mapSeq f),toks:=t' }:=by
 have q:=PySem.IsL.update e f
 rw [hf] at q
 refine I.write (x:=l) (e:=l) (by rw [hH]; exact trivial) (.inl rfl) (fun b' u hb hu=>(Heap.get?_update_other s.heap (Obj.mapSeq f) (Ne.symm hb)).trans hu) ⟨_,q⟩ ?_
 exact ⟨hz,its',_,hv,q⟩
theorem Inv.lnew {its:List Value} {t':Nat} (I:Inv X pins σ H s) (hv:Vals ys its) (hz:ys.length≤sizeLine) :
  Inv X pins σ (upd H s.heap.objs.size (.lst ys)) { s with heap:=s.heap.push { cls:=.type "list",data:=.seq its.toArray },toks:=t' } :=
 I.laid (fun _ _ q=>Heap.get?_push_of_some _ q) (Nat.le_refl _) ⟨hz,its,0,hv,Heap.get?_push_size _ rfl⟩
theorem Inv.fresh (I:Inv X pins σ H s):H s.heap.objs.size=none:=I.hok.fresh (Nat.le_refl _)
theorem Inv.lstM (I:Inv X pins σ H s) (hH:H l=some (.lst xs)):xs.length≤sizeLine∧∃ (its:List Value) (n:Nat),Vals xs its∧xs.length=its.length∧s.heap.get? l=some { cls:=.type "list",data:=.seq its.toArray n }:=by
 obtain ⟨z,its,n,r,e⟩:=I.hok l _ hH
 exact ⟨z,its,n,r,r.length,e⟩
theorem notLongL {n:Nat} (h:n≤sizeLine):Builtin.List.listTooLong n=false:=by
 unfold Builtin.List.listTooLong
 exact decide_eq_false (by omega)
end
section
variable {X:Cx}
inductive AppR (x:V) (vs:List V) (H:Hp) (Q:VK):Prop
 | mk (l:Addr) (xs:List V) (y:V) (e1:x=.ref l) (e2:vs=[y]) (h:H l=some (.lst xs)) (n:xs.length<sizeLine) (q:Q .non (upd H l (.lst (xs++[y])))):AppR x vs H Q
def rAppend:V->List V->Hp->VK->Prop:=fun x vs H Q=>AppR x vs H Q
theorem mt_append:MtM X "list.append" rAppend:=by
 intro pins s σ H x vs v us Q I rx rv h
 obtain ⟨l,xs,y,rfl,rfl,hH,hz,q⟩:=h
 cases rx
 obtain ⟨u,rfl,ru⟩:=rv.one
 obtain ⟨z,its,n,r,hl,e⟩:=I.lstM hH
 refine call_meets F.slot_list_append ⟨_,e,rfl⟩ F.entry_list_append (F.args_list_append_2 _ _) (PySem.list_append l its.toArray n u (by rw [List.size_toArray]; omega)) ⟨e,?_⟩
 refine ⟨.non,_,I.lset (its':=its++[u]) hH e (by simp) (r.append (.cons ru .nil)) ?_,rfl,q⟩
 rw [List.length_append,List.length_singleton]
 omega
def rPopAt:V->List V->Hp->VK->Prop:=fun x vs H Q=>∃ l xs i k y,x=.ref l∧vs=[.int i]∧H l=some (.lst xs)∧-(2 ^ 63)≤i∧i<2 ^ 63∧seqIndex? i xs.length=some k∧xs[k]?=some y∧Q y (upd H l (.lst (xs.eraseIdx k)))
theorem mt_popAt:MtM X "list.pop" rPopAt:=by
 intro pins s σ H x vs v us Q I rx rv h
 obtain ⟨l,xs,i,k,y,rfl,rfl,hH,h1,h2,hk,hy,q⟩:=h
 cases rx
 obtain ⟨u,rfl,ru⟩:=rv.one
 obtain ⟨t,rfl⟩:=ru
 obtain ⟨z,its,n,r,hl,e⟩:=I.lstM hH
 obtain ⟨w,hw,rw'⟩:=r.get hy
 refine call_meets F.slot_list_pop ⟨_,e,rfl⟩ F.entry_list_pop (F.args_list_pop_2 _ _)
  (MeetsSeq.list_pop_at l its.toArray n i t k w (fitsIndex_both h1 h2) (by rw [List.size_toArray,←hl]; exact hk) (by rw [←Array.getElem?_toList]; exact hw) (by rw [List.size_toArray]; omega)) ⟨e,?_⟩
 refine ⟨y,_,I.lset (its':=its.eraseIdx k) hH e ?_ (r.eraseIdx k) ?_,rw',q⟩
 ·show its.toArray.eraseIdxIfInBounds k=(its.eraseIdx k).toArray
  rw [List.eraseIdxIfInBounds_toArray]
 ·have:=len_erase xs k
  omega
inductive CatR (x y:V) (H:Hp) (Q:VK):Prop
 | mk (l b:Addr) (xs zs:List V) (e1:x=.ref l) (e2:y=.ref b) (h1:H l=some (.lst xs)) (h2:H b=some (.lst zs)) (n:xs.length+zs.length≤sizeLine) (q:∀ p,H p=none->Q (.ref p) (upd H p (.lst (xs++zs)))):CatR x y H Q
def rCat:R2:=fun x y H Q=>CatR x y H Q
theorem op_cat:OpR X (binaryOp .Add) rCat:=by
 intro pins s σ H x y v u Q I rx ry h
 obtain ⟨l,b,xs,zs,rfl,rfl,hH,hB,hz,q⟩:=h
 cases rx
 cases ry
 obtain ⟨z,its,n,r,hl,e⟩:=I.lstM hH
 obtain ⟨z2,its2,n2,r2,hl2,e2⟩:=I.lstM hB
 refine PySem.P.add_list e e2 ?_ (by rw [List.size_toArray,List.size_toArray]; omega)
 have ea:its.toArray++its2.toArray=(its++its2).toArray:=by simp
 rw [ea]
 exact ⟨.ref _,_,I.lnew (t':=s.toks) (r.append r2) (by rw [List.length_append]; omega),rfl,q _ I.fresh⟩
def rRep:R2:=fun x y H Q=>∃ l k xs,x=.ref l∧y=.int k∧H l=some (.lst xs)∧-(2 ^ 63)≤k∧k<2 ^ 63∧xs.length*k.toNat≤sizeLine ∧
 ∀ p,H p=none->Q (.ref p) (upd H p (.lst (List.replicate k.toNat xs).flatten))
theorem len_rep {α:Type} (xs:List α) (k:Nat):(List.replicate k xs).flatten.length=k*xs.length:=by
 induction k with
 | zero=>simp
 | succ k ih=>rw [List.replicate_succ,List.flatten_cons,List.length_append,ih,Nat.succ_mul,Nat.add_comm]
theorem op_rep:OpR X (binaryOp .Mult) rRep:=by
 intro pins s σ H x y v u Q I rx ry h
 obtain ⟨l,k,xs,rfl,rfl,hH,h1,h2,hz,q⟩:=h
 cases rx
 obtain ⟨t,rfl⟩:=ry
 obtain ⟨z,its,n,r,hl,e⟩:=I.lstM hH
 have hlen:its.toArray.size*k.toNat≤sizeLine:=by rw [List.size_toArray,←hl]; exact hz
 have hcap:¬ its.toArray.size*k.toNat > (2 ^ 63-1) / 8:=by
  have:(sizeLine:Nat)≤(2 ^ 63-1) / 8:=by decide
  omega
 have hfit:¬ (!Builtin.List.listFitsIndex k)=true:=by
  rw [fitsIndex_both h1 h2]
  exact Bool.false_ne_true
 have hlong:¬ Builtin.List.listTooLong (its.toArray.size*k.toNat)=true:=by
  rw [notLongL hlen]
  exact Bool.false_ne_true
 have hnew:List.foldl (fun x1 x2=>x1++x2) #[] (List.replicate (if its.toArray.isEmpty=true then 0 else k.toNat) its.toArray)=(List.replicate k.toNat its).flatten.toArray:=by
  have f0:∀ m:Nat,List.foldl (fun x1 x2=>x1++x2) #[] (List.replicate m its.toArray)=(List.replicate m its).flatten.toArray:=fun m=>by
   have:=foldl_rep its m []
   rw [List.nil_append] at this
   exact this
  rw [f0]
  cases its with
  | nil=>simp
  | cons a r'=>rw [if_neg (by simp)]
 refine wpAny_binaryOp_repeat_ref (T:="list") (U:="int") (by decide) ⟨_,e,rfl⟩ (fun s'=>typeIs_int s' k t) noFill_list_mul F.fills_int_mul F.slot_int_rmul repeat_list F.slot_int_index.lookup
  (call_meets F.slot_int_rmul (typeIs_int s k t) F.entry_int_rmul (F.args_int_rmul_2 _ _) (int___rmul___int_list k t l its.toArray n)
   ⟨e,rfl,⟨_,e,rfl⟩,call_meets F.slot_list_mul ⟨_,e,rfl⟩ F.entry_list_mul (F.args_list_mul_2 _ _) (AutoListH.list___mul___list_int_3 l its.toArray n k t hfit hcap hlong) ⟨e,?_⟩⟩)
 rw [hnew]
 exact ⟨.ref _,_,I.lnew (t':=s.toks) (r.rep k.toNat) (by rw [len_rep,Nat.mul_comm]; exact hz),rfl,q _ I.fresh⟩
end
section
variable {prog:Program} {w:World} {A:Around} {E:Value->Shared->Prop} {s:Shared}
end
section
variable {X:Cx}
end
end L2
namespace L2
open PySem PySem.Spec PyProof.Rows
section
variable {κ:Type} [DecidableEq κ]
def valV (kvs:List (κ×V)) (k:κ):Option V:=(kvs.find? fun kv=>decide (kv.1=k)).map (·.2)
def putK (kvs:List (κ×V)) (k:κ) (v:V):List (κ×V) :=
 if (kvs.any fun kv=>decide (kv.1=k))=true then kvs.map (fun kv=>if kv.1=k then (kv.1,v) else kv) else kvs++[(k,v)]
def dropK (kvs:List (κ×V)) (k:κ):List (κ×V):=kvs.filter fun kv=>decide (kv.1≠k)
theorem valV_pos {p:κ×V} {r:List (κ×V)} {k:κ} (e:p.1=k):valV (p :: r) k=some p.2:=by simp [valV,List.find?_cons,e]
theorem valV_neg {p:κ×V} {r:List (κ×V)} {k:κ} (e:¬ p.1=k):valV (p :: r) k=valV r k:=by simp [valV,List.find?_cons,e]
theorem valV_any (k:κ):∀ kvs:List (κ×V),(kvs.any fun kv=>decide (kv.1=k))=(valV kvs k).isSome
 | []=>rfl
 | p :: r=>by
  rw [List.any_cons]
  by_cases e:p.1=k
  ·simp only [valV_pos e,decide_eq_true e,Bool.true_or,Option.isSome_some]
  ·rw [valV_neg e,decide_eq_false e,Bool.false_or]; exact valV_any k r
theorem length_putK (kvs:List (κ×V)) (k:κ) (v:V):(putK kvs k v).length≤kvs.length+1:=by
 unfold putK
 split
 ·rw [List.length_map]; omega
 ·rw [List.length_append,List.length_cons,List.length_nil]; omega
theorem RelO.isSome_eq {o:Option V} {u:Option Value} (r:RelO o u):o.isSome=u.isSome:=by
 cases o with
 | none=>cases u with
  | none=>rfl
  | some _=>exact (show False from r).elim
 | some _=>cases u with
  | none=>exact (show False from r).elim
  | some _=>rfl
theorem RelO.getD {o:Option V} {u:Option Value} {d:V} {d':Value} (r:RelO o u) (rd:RelV d d'):RelV (o.getD d) (u.getD d'):=by
 cases o with
 | none=>cases u with
  | none=>exact rd
  | some _=>exact (show False from r).elim
 | some _=>cases u with
  | none=>exact (show False from r).elim
  | some _=>exact r
theorem KV.val {kvs:List (κ×V)} {vs:List (κ×Value)} (r:KV kvs vs) (k:κ):RelO (valV kvs k) (valueAt vs k):=by
 unfold KV at r
 induction r with
 | nil=>exact True.intro
 | @cons p q ps qs h t ih =>
  obtain ⟨h1,h2⟩:=h
  by_cases e:p.1=k
  ·have e':q.1=k:=h1.symm.trans e
   have b:valueAt (q :: qs) k=some q.2:=by simp [valueAt,List.find?_cons,e']
   rw [valV_pos e,b]; exact h2
  ·have e':¬ q.1=k:=fun z=>e (h1.trans z)
   have b:valueAt (q :: qs) k=valueAt qs k:=by simp [valueAt,List.find?_cons,e']
   rw [valV_neg e,b]; exact ih
theorem KV.any {kvs:List (κ×V)} {vs:List (κ×Value)} (r:KV kvs vs) (k:κ):(kvs.any fun kv=>decide (kv.1=k))=vs.any fun kv=>decide (kv.1=k):=by
 unfold KV at r
 induction r with
 | nil=>rfl
 | cons h t ih=>rw [List.any_cons,List.any_cons,ih,h.1]
theorem KV.repl {kvs:List (κ×V)} {vs:List (κ×Value)} (r:KV kvs vs) (k:κ) {y:V} {u:Value} (ry:RelV y u) :
  KV (kvs.map fun kv=>if kv.1=k then (kv.1,y) else kv) (vs.map fun kv=>if kv.1=k then (kv.1,u) else kv):=by
 unfold KV at r ⊢
 induction r with
 | nil=>exact .nil
 | @cons p q ps qs h t ih =>
  rw [List.map_cons,List.map_cons]
  refine .cons ?_ ih
  obtain ⟨h1,h2⟩:=h
  by_cases e:p.1=k
  ·rw [if_pos e,if_pos (h1.symm.trans e)]; exact ⟨h1,ry⟩
  ·rw [if_neg e,if_neg (fun z=>e (h1.trans z))]; exact ⟨h1,h2⟩
theorem KV.put {kvs:List (κ×V)} {vs:List (κ×Value)} (r:KV kvs vs) (k:κ) {y:V} {u:Value} (ry:RelV y u):KV (putK kvs k y) (stored vs k u):=by
 unfold putK stored
 rw [r.any k]
 by_cases e:(vs.any fun kv=>decide (kv.1=k))=true
 ·rw [if_pos e,if_pos e]; exact r.repl k ry
 ·rw [if_neg e,if_neg e]; exact Paired.snoc r ⟨rfl,ry⟩
theorem KV.drop {kvs:List (κ×V)} {vs:List (κ×Value)} (r:KV kvs vs) (k:κ):KV (dropK kvs k) (without vs k):=by
 unfold KV at r ⊢
 unfold dropK without
 induction r with
 | nil=>exact .nil
 | @cons p q ps qs h t ih =>
  obtain ⟨h1,h2⟩:=h
  rw [List.filter_cons,List.filter_cons]
  by_cases e:p.1=k
  ·have a:¬ decide (p.1≠k)=true:=by simp [e]
   have b:¬ decide (q.1≠k)=true:=by simp [h1.symm.trans e]
   rw [if_neg a,if_neg b]; exact ih
  ·have e':¬ q.1=k:=fun z=>e (h1.trans z)
   have a:decide (p.1≠k)=true:=by simp [e]
   have b:decide (q.1≠k)=true:=by simp [e']
   rw [if_pos a,if_pos b]; exact .cons ⟨h1,h2⟩ ih
theorem KV.length {kvs:List (κ×V)} {vs:List (κ×Value)} (r:KV kvs vs):kvs.length=vs.length:=Paired.length r
end
theorem kV_is {P:Program} {w:World} {k:Key} {u:Value} (r:RelV (kV k) u):(mixKind P w).is k u=true:=by
 cases k with
 | inl i=>obtain ⟨t,e⟩:=(show ∃ t,u=Value.int i t from r); subst e; exact mixKind_int P w i t
 | inr x=>obtain ⟨t,e⟩:=(show ∃ t,u=Value.str x t from r); subst e; exact mixKind_str P w x t
theorem items_are {P:Program} {w:World}:∀ {ks:List Key} {us:List Value},Vals (ks.map kV) us->ItemsAre (mixKind P w) ks us
 | [],_,r=>by rw [List.map_nil] at r; cases r; exact .nil
 | k :: ks,_,r=>by
  rw [List.map_cons] at r
  cases r with
  | cons h t=>exact .cons (kV_is h) (items_are t)
abbrev KT (H:Hp):List (List Key×V)->List (List Key×Addr×Value)->Prop:=Paired fun p q=>p.1=q.1∧H q.2.1=some (.tup (p.1.map kV))∧RelV p.2 q.2.2
theorem KT.val {H:Hp} {kvs:List (List Key×V)} {xs:List (List Key×Addr×Value)} (r:KT H kvs xs) (k:List Key):RelO (valV kvs k) ((atKey xs k).map (·.2)):=by
 induction r with
 | nil=>exact True.intro
 | @cons p q ps qs h t ih =>
  obtain ⟨h1,_,h2⟩:=h
  by_cases e:p.1=k
  ·have e':q.1=k:=h1.symm.trans e
   have b:atKey (q :: qs) k=some q.2:=by simp [atKey,List.find?_cons,e']
   rw [valV_pos e,b]; exact h2
  ·have e':¬ q.1=k:=fun z=>e (h1.trans z)
   have b:atKey (q :: qs) k=atKey qs k:=by simp [atKey,List.find?_cons,e']
   rw [valV_neg e,b]; exact ih
theorem KT.repl {H:Hp} {kvs:List (List Key×V)} {xs:List (List Key×Addr×Value)} (r:KT H kvs xs) (k:List Key) {y:V} {u:Value} (ry:RelV y u) :
  KT H (kvs.map fun kv=>if kv.1=k then (kv.1,y) else kv) (xs.map (putAt k u)):=by
 induction r with
 | nil=>exact .nil
 | @cons p q ps qs h t ih =>
  rw [List.map_cons,List.map_cons]
  refine .cons ?_ ih
  obtain ⟨h1,h2,h3⟩:=h
  unfold putAt
  by_cases e:p.1=k
  ·rw [if_pos e,if_pos (h1.symm.trans e)]; exact ⟨h1,h2,ry⟩
  ·rw [if_neg e,if_neg (fun z=>e (h1.trans z))]; exact ⟨h1,h2,h3⟩
theorem KT.put {H:Hp} {kvs:List (List Key×V)} {xs:List (List Key×Addr×Value)} (r:KT H kvs xs) (k:List Key) {b:Addr} {y:V} {u:Value} (hb:H b=some (.tup (k.map kV))) (ry:RelV y u) :
  KT H (putK kvs k y) (storedH xs k b u):=by
 have e:(kvs.any fun kv=>decide (kv.1=k))=(atKey xs k).isSome:=by
  rw [valV_any,(r.val k).isSome_eq,Option.isSome_map]
 unfold putK storedH
 rw [e]
 by_cases q:(atKey xs k).isSome=true
 ·rw [if_pos q,if_pos q]; exact r.repl k ry
 ·rw [if_neg q,if_neg q]; exact Paired.snoc r ⟨rfl,hb,ry⟩
theorem KT.keeps {H H':Hp} {kvs:List (List Key×V)} {xs:List (List Key×Addr×Value)} (r:KT H kvs xs) (ht:∀ b ys,H b=some (.tup ys)->H' b=some (.tup ys)):KT H' kvs xs :=
 Paired.mapP r fun _ _ z=>⟨z.1,ht _ _ z.2.1,z.2.2⟩
section
variable {P:Program} {w:World} {H:Hp} {h:Heap} {a:Addr}
theorem rd_of {u:HO} (ok:HOk P w H h) (e:Rd H a u):ObjOk P w H h a u:=e.ok ok
theorem dk_rd {kvs:List (Key×V)} (ok:HOk P w H h) (e:Rd H a (.dK kvs)):kvs.length≤sizeLine∧(a == sysModules)=false∧∃ vs,KV kvs vs∧h.DictOf (mixKind P w) a vs :=
 show ObjOk P w H h a (.dK kvs) from rd_of ok e
theorem dk_of {kvs:List (Key×V)} (ok:HOk P w H h) (e:H a=some (.dK kvs)):kvs.length≤sizeLine∧(a == sysModules)=false∧∃ vs,KV kvs vs∧h.DictOf (mixKind P w) a vs:=dk_rd ok (.inl e)
theorem key_of {ks:List Key} (ok:HOk P w H h) (e:H a=some (.tup (ks.map kV))):(tupleKind (mixKind P w)).is h ks a:=by
 obtain ⟨_,its,r,⟨o,h1,h2,n,h3⟩,_⟩:=(show ObjOk P w H h a (.tup (ks.map kV)) from ok a _ e)
 exact ⟨o,its.toArray,n,h1,h2,h3,by simpa using items_are r⟩
theorem dt_rd {kvs:List (List Key×V)} (ok:HOk P w H h) (e:Rd H a (.dT kvs)):kvs.length≤sizeLine∧(a == sysModules)=false ∧
  ∃ xs,KT H kvs xs∧h.DictOfH (tupleKind (mixKind P w)) a xs:=by
 obtain ⟨z,y,xs,r,o,es,ep,h1,h2,h3,h4,h5⟩:=(show ObjOk P w H h a (.dT kvs) from rd_of ok e)
 refine ⟨z,y,xs,r,o,es,ep,h1,h2,h3,h4,fun x hx=>?_,h5⟩
 have all:∀ {l:List (List Key×V)} {m:List (List Key×Addr×Value)},KT H l m->∀ x∈m,(tupleKind (mixKind P w)).is h x.1 x.2.1:=by
  intro l m q
  induction q with
  | nil=>intro x hx; exact nomatch hx
  | @cons p q ps qs hq t ih =>
   intro x hx
   rcases List.mem_cons.mp hx with e | hx
   ·subst e
    exact key_of ok (by rw [←hq.1]; exact hq.2.1)
   ·exact ih x hx
 exact all r x hx
theorem dt_of {kvs:List (List Key×V)} (ok:HOk P w H h) (e:H a=some (.dT kvs)):kvs.length≤sizeLine∧(a == sysModules)=false ∧
  ∃ xs,KT H kvs xs∧h.DictOfH (tupleKind (mixKind P w)) a xs:=dt_rd ok (.inl e)
end
def DGet (H:Hp) (a:Addr) (y:V) (r:Option V):Prop :=
 (∃ kvs k,Rd H a (.dK kvs)∧y=kV k∧r=valV kvs k)∨∃ kvs k b,Rd H a (.dT kvs)∧y=.ref b∧H b=some (.tup (k.map kV))∧r=valV kvs k
def DPut (H:Hp) (a:Addr) (y v:V) (H':Hp):Prop :=
 (∃ kvs k,H a=some (.dK kvs)∧y=kV k∧kvs.length<sizeLine∧H'=upd H a (.dK (putK kvs k v))) ∨
 ∃ kvs k b,H a=some (.dT kvs)∧y=.ref b∧H b=some (.tup (k.map kV))∧kvs.length<sizeLine∧H'=upd H a (.dT (putK kvs k v))
theorem DGet.k {H:Hp} {a:Addr} {kvs:List (Key×V)} {k:Key} (e:H a=some (.dK kvs)):DGet H a (kV k) (valV kvs k):=.inl ⟨kvs,k,.inl e,rfl,rfl⟩
theorem DGet.t {H:Hp} {a b:Addr} {kvs:List (List Key×V)} {k:List Key} (e:H a=some (.dT kvs)) (eb:H b=some (.tup (k.map kV))):DGet H a (.ref b) (valV kvs k):=.inr ⟨kvs,k,b,.inl e,rfl,eb,rfl⟩
theorem DPut.k {H:Hp} {a:Addr} {kvs:List (Key×V)} {k:Key} {v:V} (e:H a=some (.dK kvs)) (hl:kvs.length<sizeLine):DPut H a (kV k) v (upd H a (.dK (putK kvs k v))):=.inl ⟨kvs,k,e,rfl,hl,rfl⟩
theorem DPut.t {H:Hp} {a b:Addr} {kvs:List (List Key×V)} {k:List Key} {v:V} (e:H a=some (.dT kvs)) (eb:H b=some (.tup (k.map kV))) (hl:kvs.length<sizeLine) :
  DPut H a (.ref b) v (upd H a (.dT (putK kvs k v))):=.inr ⟨kvs,k,b,e,rfl,eb,hl,rfl⟩
section
variable {X:Cx} {pins:List (Addr×Obj)} {σ:St} {H:Hp} {s:Shared} {a:Addr} {y v:V} {u r:Value} {o:Option V} {A:Around} {E:Value->Shared->Prop}
theorem Inv.big (I:Inv X pins σ H s):sysModules<s.heap.objs.size:=by
 have h:mainGlobals<s.heap.objs.size:=(I.mod.glob.keeps I.bk).lt
 exact Nat.lt_trans (by decide) h
theorem d_getItem {Q:Value->Shared->Prop} (hu:A.units+1<cLine) (I:Inv X pins σ H s) (g:DGet H a y (some v)) (ry:RelV y u) (h:∀ w' s',Inv X pins σ H s'->RelV v w'->Q w' s') :
  wpAny (model X.prog X.w) A (getItem (.ref a) u) Q E s:=by
 rcases g with ⟨kvs,k,e,ey,l⟩ | ⟨kvs,k,b,e,ey,eb,l⟩
 ·subst ey
  obtain ⟨z,hd,vs,rel,dd⟩:=dk_rd I.hok e
  obtain ⟨w',hw,rw'⟩:=RelO.some_of (v:=v) (o:=valueAt vs k) (by rw [l]; exact rel.val k)
  exact wpAny_getItem_of (kV_is ry) dd.mapOf hw (h w' _ (I.tok _) rw')
 ·subst ey
  cases (show u=Value.ref b from ry)
  obtain ⟨z,hd,xs,rel,dd⟩:=dt_rd I.hok e
  obtain ⟨w',hw,rw'⟩:=RelO.some_of (v:=v) (o:=(atKey xs k).map (·.2)) (by rw [l]; exact rel.val k)
  obtain ⟨p,hp,hp2⟩:=Option.map_eq_some_iff.mp hw
  refine wpAny_getItem_heap (tupleKind_room_in1 hu) (key_of I.hok eb) dd hp ?_
  rw [hp2]
  exact h w' _ (I.tok _) rw'
theorem d_in {Q:Value->Shared->Prop} (hu:A.units+1<cLine) (I:Inv X pins σ H s) (g:DGet H a y o) (ry:RelV y u) (h:∀ s',Inv X pins σ H s'->Q (.bool o.isSome) s') :
  wpAny (model X.prog X.w) A (compareOp .In u (.ref a)) Q E s:=by
 rcases g with ⟨kvs,k,e,ey,l⟩ | ⟨kvs,k,b,e,ey,eb,l⟩
 ·subst ey
  obtain ⟨z,hd,vs,rel,dd⟩:=dk_rd I.hok e
  refine wpAny_in_of (kV_is ry) hd dd.mapOf ?_
  rw [←(rel.val k).isSome_eq,←l]
  exact h _ (I.tok _)
 ·subst ey
  cases (show u=Value.ref b from ry)
  obtain ⟨z,hd,xs,rel,dd⟩:=dt_rd I.hok e
  refine wpAny_in_heap (tupleKind_room_in1 hu) (key_of I.hok eb) hd dd ?_
  have q:=(rel.val k).isSome_eq
  rw [Option.isSome_map] at q
  rw [←q,←l]
  exact h _ (I.tok _)
theorem d_notIn {Q:Value->Shared->Prop} (hu:A.units+1<cLine) (I:Inv X pins σ H s) (g:DGet H a y o) (ry:RelV y u) (h:∀ s',Inv X pins σ H s'->Q (.bool (!o.isSome)) s') :
  wpAny (model X.prog X.w) A (compareOp .NotIn u (.ref a)) Q E s:=by
 rcases g with ⟨kvs,k,e,ey,l⟩ | ⟨kvs,k,b,e,ey,eb,l⟩
 ·subst ey
  obtain ⟨z,hd,vs,rel,dd⟩:=dk_rd I.hok e
  refine wpAny_notIn_of (kV_is ry) hd dd.mapOf ?_
  rw [←(rel.val k).isSome_eq,←l]
  exact h _ (I.tok _)
 ·subst ey
  cases (show u=Value.ref b from ry)
  obtain ⟨z,hd,xs,rel,dd⟩:=dt_rd I.hok e
  refine wpAny_notIn_heap (tupleKind_room_in1 hu) (key_of I.hok eb) hd dd ?_
  have q:=(rel.val k).isSome_eq
  rw [Option.isSome_map] at q
  rw [←q,←l]
  exact h _ (I.tok _)
theorem d_write {h':Heap} {t':Nat} {ob:HO} (I:Inv X pins σ H s) (mu:Mut (H a)) (hs:Heap.SameBut a s.heap h') (he:∃ q,h'.get? a=some q) (new:ObjOk X.prog X.w (upd H a ob) h' a ob) :
  Inv X pins σ (upd H a ob) { s with heap:=h',toks:=t' } :=
 I.write (x:=a) (e:=a) mu (.inl rfl) (fun b q hb z=>(hs.2 b hb).trans z) he new
theorem dk_new {P:Program} {w:World} {H':Hp} {h':Heap} {kvs:List (Key×V)} {vs:List (Key×Value)} (z:kvs.length≤sizeLine) (hd:(a == sysModules)=false) (rel:KV kvs vs) (dd:h'.DictOf (mixKind P w) a vs) :
  ObjOk P w H' h' a (.dK kvs):=⟨z,hd,vs,rel,dd⟩
theorem d_setItem {H':Hp} {Q:Unit->Shared->Prop} (hu:A.units+1<cLine) (I:Inv X pins σ H s) (g:DPut H a y v H') (ry:RelV y u) (rv:RelV v r) (h:∀ s',Inv X pins σ H' s'->Q () s') :
  wpAny (model X.prog X.w) A (setItem (.ref a) u r) Q E s:=by
 rcases g with ⟨kvs,k,e,ey,l,eH⟩ | ⟨kvs,k,b,e,ey,eb,l,eH⟩
 ·subst ey eH
  obtain ⟨z,hd,vs,rel,dd⟩:=dk_of I.hok e
  have hz:vs.length≤sizeLine:=by rw [←rel.length]; exact z
  have hl:(putK kvs k v).length≤sizeLine:=by have:=length_putK kvs k v; omega
  refine wpAny_setItem_pairs (hsz:=hz) (kV_is ry) dd fun h' dd' hs=>h _ ?_
  have he:∃ q,h'.get? a=some q:=let ⟨q,_,_,hq,_⟩:=dd'; ⟨q,hq⟩
  exact d_write I (by rw [e]; exact True.intro) hs he (dk_new hl hd (rel.put k rv) dd')
 ·subst ey eH
  cases (show u=Value.ref b from ry)
  obtain ⟨z,hd,xs,rel,dd⟩:=dt_of I.hok e
  have hz:xs.length≤sizeLine:=by rw [←Paired.length rel]; exact z
  have hl:(putK kvs k v).length≤sizeLine:=by have:=length_putK kvs k v; omega
  refine wpAny_setItem_heap (hsz:=hz) (tupleKind_room_in1 hu) (key_of I.hok eb) dd fun h' dd' hs=>h _ ?_
  obtain ⟨q,es,ep,hq,h2,h3,h4,_,h5⟩:=dd'
  refine d_write I (by rw [e]; exact True.intro) hs ⟨q,hq⟩ ⟨hl,hd,_,(rel.put k eb rv).keeps fun c ys ec=>?_,q,es,ep,hq,h2,h3,h4,h5⟩
  rw [upd_ne (ne_of ec e (fun z=>nomatch z))]
  exact ec
end
section
variable {X:Cx} {pins:List (Addr×Obj)} {σ:St} {H:Hp} {s:Shared} {a:Addr} {kvs:List (Key×V)} {k:Key} {u:Value} {A:Around} {E:Value->Shared->Prop}
theorem d_len {Q:Value->Shared->Prop} (I:Inv X pins σ H s) (e:Rd H a (.dK kvs)) (h:∀ t s',Inv X pins σ H s'->Q (.int kvs.length t) s'):wpAny (model X.prog X.w) A (call (.builtin "len") [.ref a]) Q E s:=by
 obtain ⟨z,hd,vs,rel,dd⟩:=dk_rd I.hok e
 refine call_len_dict hd dd (by rw [←rel.length]; rw [sizeLine_eq] at z; omega) ?_
 rw [←rel.length]
 exact h _ _ (I.tok _)
end
def NoSl (i:Expr):Prop:=∀ ov iv,subscripted i false ov iv=operate [ov,iv] (getItem ov iv)
theorem subD_of {prog:Program} {w:World} {A:Around} {E:Value->Shared->Prop} {s:Shared} {env:Env} {value slice:Expr} {pos:Pos} {T id:String} {Q:Value->Shared->Prop}
  (hl:typeLookup (.type T) "__getitem__" = pure (some (.builtin id))) (hs:NoSl slice)
  (h:wpAny (model prog w) A (eval value env) (fun o s₁=>wpAny (model prog w) A (eval slice env) (fun i s₂=>s₂.TypeIs o T∧wpAny (model prog w) A (getItem o i) Q E s₂) E s₁) E s) :
  wpAny (model prog w) A (eval (.Subscript value slice pos) env) Q E s:=by
 refine Subscript_ (wpAny_mono h (fun o s₁ h₁=>wpAny_mono h₁ (fun i s₂ h₂=>?_) fun _ _ x=>x) fun _ _ x=>x)
 obtain ⟨hT,h₂⟩:=h₂
 unfold subscriptTail
 refine wpAny_bind ?_
 rw [getitemInPython_of_ne hT.not_modules]
 refine wpAny_bind (wpAny_specialOf hT hl ?_)
 have fin:wpAny (model prog w) A (subscripted slice false o i) (fun r s₃=>wpAny (model prog w) A (letTemporaryGo value o r >>= fun _=>pure r) Q E s₃) E s₂:=by
  rw [hs o i]
  exact wpAny_operating (wpAny_mono h₂ (fun r s₃ h₃=>wpAny_bind (wpAny_letTemporaryGo (wpAny_pure h₃))) fun _ _ x=>x)
 first
  | exact wpAny_pure (wpAny_bind fin)
  | exact wpAny_bind (wpAny_pure (wpAny_bind fin))
  | exact wpAny_bind fin
theorem dict_typeIs {X:Cx} {pins:List (Addr×Obj)} {σ:St} {H:Hp} {s:Shared} {a:Addr} {y:V} {o:Option V} (I:Inv X pins σ H s) (g:DGet H a y o):s.TypeIs (.ref a) "dict":=by
 rcases g with ⟨kvs,k,e,_,_⟩ | ⟨kvs,k,b,e,_,_,_⟩
 ·obtain ⟨_,_,vs,_,dd⟩:=dk_rd I.hok e
  exact dd.typeIs
 ·obtain ⟨_,_,xs,_,dd⟩:=dt_rd I.hok e
  exact dd.typeIs
inductive DGetR (x y:V) (H:Hp) (Q:VK):Prop
 | mk (a:Addr) (v:V) (e:x=.ref a) (d:DGet H a y (some v)) (q:Q v H):DGetR x y H Q
inductive DInR (x y:V) (H:Hp) (Q:VK):Prop
 | mk (a:Addr) (o:Option V) (e:x=.ref a) (d:DGet H a y o) (q:Q (.bl o.isSome) H):DInR x y H Q
inductive DPutR (x y v:V) (H:Hp) (Q:Hp->Prop):Prop
 | mk (a:Addr) (H4:Hp) (e:x=.ref a) (d:DPut H a y v H4) (q:Q H4):DPutR x y v H Q
def tDGet (td ty:TE):TE:=fun σ H Q=>td σ H fun x H1=>ty σ H1 fun y H2=>DGetR x y H2 Q
def tDIn (ty td:TE):TE:=fun σ H Q=>ty σ H fun y H1=>td σ H1 fun x H2=>DInR x y H2 Q
def tDNotIn (ty td:TE):TE:=fun σ H Q=>ty σ H fun y H1=>td σ H1 fun x H2=>∃ a o,x=.ref a∧DGet H2 a y o∧Q (.bl (!o.isSome)) H2
def sDPut (td ty tv:TE):TS:=fun D σ H=>tv σ H fun v H1=>td σ H1 fun x H2=>ty σ H2 fun y H3=>DPutR x y v H3 (D.nx σ)
section
variable {X:Cx} {o i e value:Expr} {pos pos' tpos:Pos} {td ty tv:TE}
theorem pe_dget (hu:X.A.units+1<cLine) (ho:PE X o td) (hi:PE X i ty) (hs:NoSl i):PE X (.Subscript o i pos) (tDGet td ty):=by
 intro pins s σ H Q I h
 refine subD_of PySem.F.slot_dict_getitem.lookup hs (thn (ho pins s σ H _ I h) fun u s1 ⟨x,H1,I1,rx,q1⟩=>thn (hi pins s1 σ H1 _ I1 q1) fun iv s2 ⟨y,H2,I2,ry,a,v,ex,g,q2⟩=>?_)
 subst ex
 obtain rfl:u=Value.ref a:=rx
 exact ⟨dict_typeIs I2 g,d_getItem hu I2 g ry fun w' s3 I3 rw'=>⟨v,H2,I3,rw',q2⟩⟩
theorem pc_din (hu:X.A.units+1<cLine) (hi:PE X i ty) (ho:PE X o td):PC X .In i o (tDIn ty td):=by
 intro pins s σ H Q I h
 refine thn (hi pins s σ H _ I h) fun iv s1 ⟨y,H1,I1,ry,q1⟩=>thn (ho pins s1 σ H1 _ I1 q1) fun u s2 ⟨x,H2,I2,rx,a,ov,ex,g,q2⟩=>?_
 subst ex
 obtain rfl:u=Value.ref a:=rx
 exact d_in hu I2 g ry fun s3 I3=>⟨.bl ov.isSome,H2,I3,rfl,q2⟩
theorem pc_dnotin (hu:X.A.units+1<cLine) (hi:PE X i ty) (ho:PE X o td):PC X .NotIn i o (tDNotIn ty td):=by
 intro pins s σ H Q I h
 refine thn (hi pins s σ H _ I h) fun iv s1 ⟨y,H1,I1,ry,q1⟩=>thn (ho pins s1 σ H1 _ I1 q1) fun u s2 ⟨x,H2,I2,rx,a,ov,ex,g,q2⟩=>?_
 subst ex
 obtain rfl:u=Value.ref a:=rx
 exact d_notIn hu I2 g ry fun s3 I3=>⟨.bl (!ov.isSome),H2,I3,rfl,q2⟩
theorem ps_dput (hu:X.A.units+1<cLine) (ho:PE X o td) (hi:PE X i ty) (hv:PE X value tv) (hs:swapsWith value (some (.Subscript o i pos')) pos.line X.env=pure false) :
  PS X (.Assign [.Subscript o i pos'] value pos) (sDPut td ty tv):=by
 intro pins s σ H D I h
 refine wpAny_Assign_Subscript (thn (hv pins s σ H _ I h) fun r s1 ⟨v,H1,I1,rv,q1⟩=>thn (ho pins s1 σ H1 _ I1 q1) fun u s2 ⟨x,H2,I2,rx,q2⟩=>thn (hi pins s2 σ H2 _ I2 q2) fun iv s3 ⟨y,H3,I3,ry,a,H4,ex,g,q3⟩=>?_) hs
 subst ex
 obtain rfl:u=Value.ref a:=rx
 exact d_setItem hu I3 g ry rv fun s4 I4=>⟨σ,H4,I4,q3⟩
end
theorem dk_empty {P:Program} {w:World} {H:Hp} (h:Heap) (hb:sysModules<h.objs.size):ObjOk P w H (h.push { cls:=.type "dict",data:=.dict #[] }) h.objs.size (.dK []) :=
 ⟨Nat.zero_le _,beq_eq_false_iff_ne.mpr (Ne.symm (Nat.ne_of_lt hb)),[],.nil,Heap.DictOf.new h⟩
section
variable {X:Cx} {pos:Pos}
end
def tPairs:List (TE×TE)->St->Hp->(List (V×V)->Hp->Prop)->Prop
 | [],_,H,Q=>Q [] H
 | (tk,tv) :: r,σ,H,Q=>tk σ H fun x H1=>tv σ H1 fun y H2=>tPairs r σ H2 fun ps H3=>Q ((x,y) :: ps) H3
abbrev VV:List (V×V)->List (Value×Value)->Prop:=Paired fun p q=>RelV p.1 q.1∧RelV p.2 q.2
def PPs (X:Cx) (pos:Pos) (keys:List (Option Expr)) (values:List Expr) (trs:List (TE×TE)):Prop :=
 ∀ (pins:List (Addr×Obj)) (s:Shared) (σ:St) (H:Hp) (Q:List (V×V)->Hp->Prop),Inv X pins σ H s->tPairs trs σ H Q →
  wpAny (model X.prog X.w) X.A (evalPairs (pairTrees keys values X.env pos)) (fun vs s'=>∃ ps H',Inv X pins σ H' s'∧VV ps vs∧Q ps H') X.xe s
theorem pps_nil {X:Cx} {pos:Pos}:PPs X pos [] [] []:=fun pins s σ H Q I h=>pairTrees_nil_walk ⟨[],H,I,.nil,h⟩
theorem pps_cons {X:Cx} {pos:Pos} {k v:Expr} {ks:List (Option Expr)} {vs:List Expr} {tk tv:TE} {trs:List (TE×TE)} (hk:PE X k tk) (hv:PE X v tv) (hr:PPs X pos ks vs trs) :
  PPs X pos (some k :: ks) (v :: vs) ((tk,tv) :: trs):=fun pins s σ H Q I h =>
 pairTrees_cons_walk (thn (hk pins s σ H _ I h) fun u s1 ⟨x,H1,I1,rx,q1⟩=>thn (hv pins s1 σ H1 _ I1 q1) fun w2 s2 ⟨y,H2,I2,ry,q2⟩ =>
  thn (hr pins s2 σ H2 _ I2 q2) fun ws s3 ⟨ps,H3,I3,rel,q3⟩=>⟨(x,y) :: ps,H3,I3,.cons ⟨rx,ry⟩ rel,q3⟩)
def mergeK (kvs more:List (Key×V)):List (Key×V):=more.foldl (fun acc kv=>putK acc kv.1 kv.2) kvs
theorem KV.merge:∀ {more:List (Key×V)} {rs:List (Key×Value)} {kvs:List (Key×V)} {vs:List (Key×Value)},KV more rs->KV kvs vs->KV (mergeK kvs more) (merged vs rs):=by
 intro more rs kvs vs r
 unfold KV at r
 induction r generalizing kvs vs with
 | nil=>intro q; exact q
 | @cons p q ps qs h t ih =>
  intro r0
  have e:KV (putK kvs p.1 p.2) (stored vs q.1 q.2):=by
   have:=r0.put p.1 h.2
   rw [←h.1]; exact this
  exact ih e
theorem length_mergeK:∀ (more kvs:List (Key×V)),(mergeK kvs more).length≤kvs.length+more.length
 | [],kvs=>by show kvs.length≤kvs.length+0; omega
 | p :: r,kvs=>by
  have h1:=length_mergeK r (putK kvs p.1 p.2)
  have h2:=length_putK kvs p.1 p.2
  show (mergeK (putK kvs p.1 p.2) r).length≤_
  rw [List.length_cons]; omega
theorem carries_of {P:Program} {w:World}:∀ {kvs:List (Key×V)} {ws:List (Value×Value)},VV (kvs.map fun kv=>(kV kv.1,kv.2)) ws->∃ rs,Carries (mixKind P w) ws rs∧KV kvs rs
 | [],_,r=>by rw [List.map_nil] at r; cases r; exact ⟨[],True.intro,.nil⟩
 | p :: kvs,_,r=>by
  rw [List.map_cons] at r
  cases r with
  | @cons a b as bs h t =>
   obtain ⟨rs,c,q⟩:=carries_of (P:=P) (w:=w) t
   obtain ⟨b1,b2⟩:=b
   exact ⟨(p.1,b2) :: rs,⟨kV_is h.1,rfl,c⟩,.cons ⟨rfl,h.2⟩ q⟩
def tDisp (trs:List (TE×TE)):TE:=fun σ H Q=>∀ p,H p=none->tPairs trs σ (upd H p (.dK [])) fun ps H2=>H2 p=some (.dK [])∧∃ kvs:List (Key×V),ps=kvs.map (fun kv=>(kV kv.1,kv.2))∧kvs.length≤15∧Q (.ref p) (upd H2 p (.dK (mergeK [] kvs)))
theorem pe_disp {X:Cx} {pos:Pos} {keys:List (Option Expr)} {values:List Expr} {trs:List (TE×TE)} (h:PPs X pos keys values trs) (hall:keys.all (·.isSome)=true) (hl:keys.length=values.length) (h0:keys≠[])
  (h15:keys.length≤15):PE X (.Dict keys values pos) (tDisp trs):=by
 intro pins s σ H Q I q
 have hn:=I.hok.fresh (Nat.le_refl s.heap.objs.size)
 have I1:=I.laid (a:=s.heap.objs.size) (o:=.dK []) (h':=s.heap.push { cls:=.type "dict",data:=.dict #[] }) (t':=s.toks) (fun _ _ q=>Heap.get?_push_of_some _ q) (Nat.le_refl _) (dk_empty s.heap I.big)
 refine wpAny_Dict_walk (knd:=mixKind X.prog X.w) hall hl h0 h15 (thn (h pins _ σ _ _ I1 (q _ hn)) fun ws s2 ⟨ps,H2,I2,rel,e,kvs,ep,lk,q2⟩=>?_)
 subst ep
 obtain ⟨rs,c,rk⟩:=carries_of (P:=X.prog) (w:=X.w) rel
 obtain ⟨z,hd,vs0,r0,dd⟩:=dk_of I2.hok e
 cases r0
 refine ⟨rs,c,dd,fun h' dd' hs=>⟨.ref s.heap.objs.size,_,?_,rfl,q2⟩⟩
 have hz:(mergeK [] kvs).length≤sizeLine:=by
  have h1:=length_mergeK kvs []
  rw [List.length_nil] at h1
  rw [sizeLine_eq]; omega
 have he:∃ q,h'.get? s.heap.objs.size=some q:=let ⟨q,_,_,hq,_⟩:=dd'; ⟨q,hq⟩
 exact d_write I2 (by rw [e]; exact True.intro) hs he (dk_new hz hd (rk.merge .nil) dd')
structure M1 (X:Cx) (o:Expr) (m:Str) (apos:Pos) (e:Expr) (cpos:Pos):Prop where
 base:attributeBase o m X.env (eval o X.env)=eval o X.env
 few:((backTo cpos (starEach [e] X.env)).all (fun x=>!x.1) && (backToKw cpos (keywordEach [] X.env)).all (fun x=>x.1.isSome)
  && decide (([e]:List Expr).length+([]:List Keyword).length+(if ([]:List Keyword).isEmpty then 0 else 1)<30))=true
 line:(apos.endLine == cpos.line)=true
 trees:backTo cpos (starEach [e] X.env)=[(false,eval e X.env)]
structure M2 (X:Cx) (o:Expr) (m:Str) (apos:Pos) (e f:Expr) (cpos:Pos):Prop where
 base:attributeBase o m X.env (eval o X.env)=eval o X.env
 few:((backTo cpos (starEach [e,f] X.env)).all (fun x=>!x.1) && (backToKw cpos (keywordEach [] X.env)).all (fun x=>x.1.isSome)
  && decide (([e,f]:List Expr).length+([]:List Keyword).length+(if ([]:List Keyword).isEmpty then 0 else 1)<30))=true
 line:(apos.endLine == cpos.line)=true
 trees:backTo cpos (starEach [e,f] X.env)=[(false,eval e X.env),(false,eval f X.env)]
section
variable {X:Cx} {pins:List (Addr×Obj)} {σ:St} {H:Hp} {s:Shared} {a:Addr} {y d:V} {u r:Value} {o:Option V} {A:Around} {E:Value->Shared->Prop}
end
section
variable {X:Cx} {o e f:Expr} {apos cpos:Pos} {td ty tx:TE}
end
section
variable {X:Cx} {pins:List (Addr×Obj)} {σ:St} {H:Hp} {s:Shared} {a:Addr} {kvs:List (Key×V)} {A:Around} {E:Value->Shared->Prop}
end
section
variable {X:Cx} {pins:List (Addr×Obj)} {σ:St} {H:Hp} {s:Shared} {a:Addr} {y:V} {u:Value} {A:Around} {E:Value->Shared->Prop}
end
end L2
namespace Att
open PySem PySem.W PySem.Calls PyProof.Rows
theorem ints_of_wellAll {P:Params} {h:Heap}:∀ (ns:List Int) (vs:List Value),WellAll P h vs (ns.map WData.int)->IntsAre vs ns:=by
 intro ns
 induction ns with
 | nil =>
  intro vs w
  rw [List.map_nil] at w
  cases w
  exact .nil
 | cons n ns ih =>
  intro vs w
  rw [List.map_cons] at w
  cases w with
  | cons a b =>
   cases a
   exact .cons _ _ (ih _ b)
theorem script_of {l:OpenLaw} {n:Nat} (hn:l.most=some n) {P:Params} {h:Heap} {args:List WData} {vals:List Value}
  (hpre:l.row.toRowW.claim.pre args=true) (hwl:WellAll P h vals args) :
  ∃ a vs ns,vals=[Value.ref a]∧args=[WData.list (ns.map WData.int)]∧h.get? a=some { cls:=.type "list",data:=.seq vs.toArray }∧IntsAre vs ns∧ns.length≤n:=by
 have hsh:WShape.hasAll [] args [.list .int]=true:=(pre_splitW hpre).1
 have hc:l.pre.holds [] { args:=args }=true:=(pre_splitW hpre).2
 obtain ⟨d,r,rfl,h1,h2⟩:=hasAllW_cons hsh
 obtain rfl:=hasAllW_nil h2
 obtain ⟨xs,rfl,h3⟩:=hasW_list h1
 obtain ⟨ns,rfl⟩:=items_int h3
 have hlen:ns.length≤n:=by
  unfold OpenLaw.pre at hc
  have h4:(WTm.not (.lt (.lit (.int (n:Int))) (.len (.arg 0)))).holds [] { args:=[.list (ns.map .int)] }=true:=by
   have h4:=(holds_andW hc).1
   rw [hn] at h4
   exact h4
  have h5:=condW_of h4 (w_not (w_lt w_lit (w_len_list (w_arg rfl))))
  rw [List.length_map] at h5
  refine Nat.le_of_not_lt fun q=>?_
  have q':(n:Int)<((ns.length:Nat):Int):=by omega
  first
   | (rw [decide_eq_true q'] at h5; exact absurd h5 (by decide))
   | (simp at h5; omega)
 cases hwl with
 | cons w1 w2 =>
  cases w2
  cases w1 with
  | list ho hall=>exact ⟨_,_,ns,rfl,rfl,ho,ints_of_wellAll ns _ hall,hlen⟩
theorem post_true (l:OpenLaw) (args:List WData):l.row.toRowW.claim.post args (.bool true) args=true :=
 postW_of (r:=l.row.toRowW) (X:=(true == true))
  (show WShape.has [] (.bool true) .bool=true by first | rfl | decide | simp [WShape.has,WShape.arms,WShape.armsAll])
  (show (WTm.eq .res (.lit (.bool true))).value [] { args:=args,res:=some (.bool true),after:=args }=some (.bool (true == true)) from w_eq_bool (w_res rfl) w_lit) rfl
theorem attach_call {l:OpenLaw} {n:Nat} {q:Program} {loose:List Str} {XP:(Str->Option Value)->Heap->Prop} {YP:World->Heap->Prop} {d:DefRec}
  (hn:l.most=some n) (hdf:d.params.defaults=[])
  (call:∀ (w:World) (s₀ s₁:Shared) (mg mb:Str->Option Value) (fa:Addr) (o:Obj) (pm cd doc:Value) (a:Addr) (vs:List Value) (ns:List Int),
   Ground q loose [] XP w s₀ mg mb s₁.heap->YP w s₁.heap →
   s₁.heap.get? fa=some o->o.data=.func (docDef d.name d.params d.body d.scope pm cd doc)->s₁.heap.CodeRec cd d.name->mg d.name=some (.ref fa) →
   s₁.heap.get? a=some { cls:=.type "list",data:=.seq vs.toArray }->IntsAre vs ns->ns.length≤n->s₁.gens = #[] →
   codeAny (model l.prog w) callerA (.call (.ref fa) ⟨[.ref a],[]⟩) (fun r s'=>r=.ok (.ret (.bool true))∧OldK s₁.heap s'.heap∧s'.os=s₁.os∧AllBare s'.gens) s₁) :
  WalkO q loose XP YP l.row.toRowW d [] (fun f vs=>PySem.call f vs):=by
 intro w s₀ s₁ mg mb G Y fa o pm cd doc dV kV ho hd hcd hD hmg hg args vals as hpre hlay hrd hwl hlo
 obtain rfl:dV=.none:=Dflts.none hD hdf
 obtain rfl:kV=.none:=Dflts.noKw hD
 obtain ⟨a,vs,ns,rfl,rfl,hobj,hints,hlen⟩:=script_of hn hpre hwl
 refine enter_call (codeAny_mono (call w s₀ s₁ mg mb fa o pm cd doc a vs ns G Y ho (fd_plain hd) hcd hmg hobj hints hlen hg) fun r s' hq=>?_)
 obtain ⟨rfl,h2,h3,h4⟩:=hq
 exact ⟨.inl ⟨.bool true,.bool true,[],rfl,fun _=>rfl,.bool true,post_true l _,fun _=>⟨List.Pairwise.nil,fun _ hm=>(nomatch hm)⟩⟩,h2,h3,h4⟩
section
variable {prog:Program} {w:World} {A:Around} {E:Value->Shared->Prop} {s:Shared} {K:Frag}
def ledger (h:Heap) (L d:Addr):List (Addr×Obj):=(List.range h.objs.size).filterMap fun a=>if a=L∨a=d then none else (h.get? a).map fun o=>(a,o)
end
end Att
namespace L2
open PySem PySem.Spec PyProof.Rows
theorem vals_ints:∀ {vs:List Value} {ns:List Int},IntsAre vs ns->Vals (ns.map V.int) vs
 | _,_,.nil=>.nil
 | _,_,.cons n t h=>.cons ⟨t,rfl⟩ (vals_ints h)
def Only (H:Hp):Prop:=∀ b,H b=none∨∃ o xs,H b=some (.frz o (.lst xs))
theorem law_call {P:Program} {w:World} {K:PySem.W.Frag} {mg mb:Str->Option Value} {CX:CXT} {k:Nat} {fa a:Addr} {fd:FuncData} {x:Str} {sp:Sp} {s₁:Shared} {vs:List Value} {ns:List Int}
  (KX:K.In s₁.heap) (hns:s₁.heap.Ns mainGlobals mg) (hb:s₁.heap.Ns builtinsNs mb) (hbb:∀ x:Str,x≠"__name__"->mb x=bootBuiltins x) (hlim:s₁.heap.NoLimit) (hg:s₁.gens = #[])
  (ha:s₁.heap.get? a=some { cls:=.type "list",data:=.seq vs.toArray }) (hi:IntsAre vs ns) (hl:ns.length≤sizeLine) (hr:Room k callerA)
  (F:∀ base:Heap,K.In base->base.Ns mainGlobals mg->FnOk P w K mg base CX k fa fd [x] sp) (hbind:∀ (s:Shared) (u:Value),BindsTo s fd ⟨[u],[]⟩ [(x,u)])
  (hsp:∀ H:Hp,Only H->SqL K H a (ns.map V.int)->sp [.ref a] H (fun v _=>v=.bl true) fun _ _ _=>False)
  (hCX:∀ H e s',CX [] H s₁ (fun _ _ _=>False) e s'->False) :
  codeAny (model P w) callerA (.call (.ref fa) ⟨[.ref a],[]⟩) (fun r s'=>r=.ok (.ret (.bool true))∧OldK s₁.heap s'.heap∧s'.os=s₁.os∧AllBare s'.gens) s₁:=by
 have rv:=vals_ints hi
 have lenV:=hi.length
 have core:∀ H:Hp,Only H->SqL K H a (ns.map V.int)->HOk P w H s₁.heap->(∀ b,H b≠none->b=a)->(H a≠none->K.lookup a=none) →
   codeAny (model P w) callerA (.call (.ref fa) ⟨[.ref a],[]⟩) (fun r s'=>r=.ok (.ret (.bool true))∧OldK s₁.heap s'.heap∧s'.os=s₁.os∧AllBare s'.gens) s₁:=by
  intro H hO hS hok hA hK
  have base_of:∀ {b:Addr} {o:Obj},s₁.heap.get? b=some o->H b=none->(hidT s₁.heap H).get? b=some o:=fun e n=>hidT_get e n
  have noA:∀ {b:Addr} {o:Obj} {es:Array DictEntry} {ep:Nat},s₁.heap.get? b=some o->o.data=.dict es ep->H b=none:=fun {b o es ep} e d=>by
   cases q:H b with
   | none=>rfl
   | some u =>
    have e':b=a:=hA b (by rw [q]; simp)
    subst e'
    rw [ha] at e; cases e
    have d':Data.seq vs.toArray _=Data.dict es ep:=d
    cases d'
  have nsK:∀ {b:Addr} {m:Str->Option Value},s₁.heap.Ns b m->(hidT s₁.heap H).Ns b m:=fun {b m} ⟨o,es,ep,e,d,r⟩=>⟨o,es,ep,base_of e (noA e d),d,r⟩
  have hKb:K.In (hidT s₁.heap H):=fun b o e=>base_of (KX b o e) (by
   cases q:H b with
   | none=>rfl
   | some u =>
    have e':b=a:=hA b (by rw [q]; simp)
    subst e'
    rw [hK (by rw [q]; simp)] at e; cases e)
  have hM:Mod K mg (hidT s₁.heap H):=⟨hKb,nsK hns,⟨mb,nsK hb,hbb⟩,let ⟨mc,h1,h2⟩:=hlim; ⟨mc,nsK h1,h2⟩⟩
  have e0:Env0 P w K mg (hidT s₁.heap H) callerA [] s₁ H:=⟨rfl,hM,fun b o e=>of_hidT e,Nat.le_of_eq (hidT_size _ _),trivial,fun b hb=>absurd (show b∈([]:List Addr) from hb) (by simp),hok,.of_eq hg⟩
  refine codeAny_mono ((F _ hKb (nsK hns)).run callerA [] s₁ H ⟨[.ref a],[]⟩ [.ref a] [.ref a] _ _ hr e0 (hbind s₁ (.ref a)) (.cons rfl .nil) (hsp H hO hS)) fun r s' h=>?_
  cases r with
  | error e=>exact (hCX H e s' h).elim
  | ok fl =>
   cases fl with
   | next=>exact False.elim h
   | brk=>exact False.elim h
   | cont=>exact False.elim h
   | ret u =>
    obtain ⟨v,H',os,bare,un,hok',r',q⟩:=h
    have q':v=.bl true:=q
    subst q'
    obtain rfl:u=Value.bool true:=r'
    refine ⟨rfl,OldK.of_keep fun b o e=>?_,os,bare⟩
    cases q:H b with
    | none=>exact un.keep b o e q (by intro z; exact absurd (show b∈([]:List Addr) from z) (by simp)) (by simp)
    | some u =>
     rcases hO b with z | ⟨ob,xs,z⟩
     ·rw [q] at z; cases z
     ·have z2:=un.frzs b ob _ z
      obtain ⟨e1,_⟩:=hok b _ z
      obtain ⟨e2,_⟩:=hok' b _ z2
      rw [e] at e1; cases e1
      exact e2
 cases hk:K.lookup a with
 | some o =>
  have e:=KX a o hk
  rw [ha] at e
  cases e
  refine core (fun _=>none) (fun _=>.inl rfl) (.inr ⟨_,vs.toArray,_,hk,rfl,rfl,rfl,by rw [List.size_toArray,lenV]; exact hl,by simpa using rv⟩) (fun b u z=>by have z':(none:Option HO)=some u:=z; cases z') (fun b z=>absurd rfl z) fun z=>absurd rfl z
 | none =>
  refine core (fun b=>if b=a then some (.frz { cls:=.type "list",data:=.seq vs.toArray } (.lst (ns.map V.int))) else none) (fun b=>?_) (.inl (.inr ⟨{ cls:=.type "list",data:=.seq vs.toArray },if_pos rfl⟩)) (fun b u z=>?_) (fun b z=>?_) fun _=>hk
  ·by_cases hb:b=a
   ·exact .inr ⟨_,_,if_pos hb⟩
   ·exact .inl (if_neg hb)
  ·by_cases hb:b=a
   ·have z':=(if_pos hb).symm.trans z
    cases z'
    subst hb
    exact ⟨ha,by rw [List.length_map]; exact hl,vs,_,rv,ha⟩
   ·have z':=(if_neg hb).symm.trans z
    cases z'
  ·by_cases hb:b=a
   ·exact hb
   ·exact absurd (if_neg hb) z
end L2
namespace L2
open PySem PySem.Spec PyProof.Rows
abbrev KOf {K:PySem.W.Frag} {h:Heap} (_:K.In h):PySem.W.Frag:=K
theorem walk_of {l:PySem.W.OpenLaw} {n k:Nat} {q:Program} {loose:List Str} {XP:(Str->Option Value)->Heap->Prop} {YP:World->Heap->Prop} {d:DefRec} {K:Params->PySem.W.Frag} {CX:World->CXT} {sp:World->Sp} {x:Str}
  (hn:l.most=some n) (hn2:n≤sizeLine) (hdf:d.params.defaults=[]) (hr:Room k callerA)
  (hY:∀ (w:World) (h:Heap),YP w h->(K w.params).In h)
  (F:∀ (w:World) (mg:Str->Option Value) (fa:Addr) (h:Heap),(K w.params).In h->h.Ns mainGlobals mg->mg d.name=some (.ref fa) →
   ∃ fd:FuncData,(∀ (s:Shared) (u:Value),BindsTo s fd ⟨[u],[]⟩ [(x,u)]) ∧
    ∀ base:Heap,(K w.params).In base->base.Ns mainGlobals mg->FnOk l.prog w (K w.params) mg base (CX w) k fa fd [x] (sp w))
  (hsp:∀ (w:World) (H:Hp) (a:Addr) (ns:List Int),ns.length≤n->Only H->SqL (K w.params) H a (ns.map V.int)->sp w [.ref a] H (fun v _=>v=.bl true) fun _ _ _=>False)
  (hCX:∀ (w:World) (H:Hp) (s:Shared) (e:Value) (s':Shared),CX w [] H s (fun _ _ _=>False) e s'->False) :
  PySem.W.WalkO q loose XP YP l.row.toRowW d [] (fun f vs=>PySem.call f vs):=by
 refine Att.attach_call hn hdf fun w s₀ s₁ mg mb fa o pm cd doc a vs ns G Y ho hd hcd hmg hobj hints hlen hg=>?_
 have KX:=hY w _ Y
 obtain ⟨fd,hb,hF⟩:=F w mg fa _ KX G.T.g hmg
 exact law_call KX G.T.g G.T.b G.T.builtins G.T.nolimit hg hobj hints (Nat.le_trans hlen hn2) hr hF hb (fun H hO hS=>hsp w H a ns hlen hO hS) fun H e s'=>hCX w H s₁ e s'
end L2
/- THE LAST THEOREM (shape; LID, My.* are yours):
   My.Adr: a structure of the addresses that your layer names (classes, functions); My.Txt K t: a structure (Prop) of the equations over K;
   My.txt_mk : {K} {implicit addresses ..} (e1 : nsIn K mainGlobals "law" = some (some (.ref f))) (e2 : K.lookup f = some ⟨oc, od, .func (fnOf "law" "law" params body scope dV kV doc pm an cdv ct), sl⟩) (e3 : codeIn K cdv "law" = true) .. : ∃ t, My.Txt K t
set_option maxRecDepth 100000 in
set_option maxHeartbeats 0 in
theorem PySem.Challenge.cw_LID_holds : PySem.Challenge.rw_LID.Holds := by
  w_on; o_law; k_head; (case hw => w_witness2)
  k_fill
  refine L2.walk_of (l := PySem.Challenge.rw_LID) (n := 63) (k := 40) (x := "script") (CX := fun w => ..) (sp := fun _ => My.sp_law) rfl (by decide) rfl ⟨rfl, by decide, by decide⟩ (fun w h Y => PySem.W.kIn_of Y) ?F ?S ?C
  case F =>
    intro w mg fa h KX G hmg
    have T : ∃ t, My.Txt (L2.KOf KX) t := by
      dsimp only [L2.KOf]                          -- K must stand as «<heap const> w.params» for k_is
      refine' My.txt_mk ?e1 ?e2 ?e3 ..
      (case e1 => PySem.W.k_is)                    -- in the order: a name -> its address -> its object -> its parts
      (case e2 => PySem.W.k_is)
      ..
    obtain ⟨t, T⟩ := T
    have e0 := hmg.symm.trans (PySem.W.mg_of KX G T.law)
    cases e0                                       -- fa is the law's own address
    exact ⟨_, fun s u => .of_eq rfl, fun base kb nb => My.law_fn T kb nb⟩     -- if «.of_eq rfl» comes too early: refine' ⟨_, ?b, fun base kb nb => My.law_fn T kb nb⟩; exact fun s u => .of_eq rfl
  case S => exact fun w H a ns hl hO hS => ..
  case C => exact ..
(the tactic k_is has no namespace: write k_is) -/
namespace L2
open PySem PySem.Spec PyProof.Rows
def inClass (s:Stmt) (j:Nat):Stmt:=match s with
 | .ClassDef _ _ _ body _ _ _ _ _ _ _=>body.getD j (.Pass ⟨0,0,0,0⟩)
 | _=>.Pass ⟨0,0,0,0⟩
def defArgs (s:Stmt):Arguments:=match s with
 | .FunctionDef _ a _ _ _ _ _ _ _ _=>a
 | _=>{ posonlyargs:=[],args:=[],vararg:=none,kwonlyargs:=[],kw_defaults:=[],kwarg:=none,defaults:=[] }
def defBody (s:Stmt):List Stmt:=match s with
 | .FunctionDef _ _ b _ _ _ _ _ _ _=>b
 | _=>[]
def defScope (s:Stmt):Scope:=match s with
 | .FunctionDef _ _ _ _ _ _ sc _ _ _=>sc
 | _=>{ kind:=.function,names:=[],isGenerator:=false,isCoroutine:=false }
abbrev CX0:CXT:=fun _ _ _ _ _ _=>False
abbrev E0:XK:=fun _ _ _=>False
theorem pass0 {X:Cx}:Passes CX0 X E0:=fun _ _ _ _ _ _ _ h=>h.elim
structure Fun (K:PySem.W.Frag) (x qual:Str) (st:Stmt) (f:Addr) (fd:FuncData):Prop where
 ex:∃ (oc:Value) (od:Option Addr) (kV doc pm:Value) (an:Option Addr) (cdv ct:Value) (osl:Array (Option Value)),
  fd=PySem.W.fnOf x qual (defArgs st) (defBody st) (defScope st) .none kV doc pm an cdv ct∧K.lookup f=some ⟨oc,od,.func fd,osl⟩∧PySem.W.codeIn K cdv qual=true
 kp:PySem.W.keepIn K (.ref f)=true
section
variable {P:Program} {w:World} {K:PySem.W.Frag} {mg:Str->Option Value} {base:Heap}
theorem Fun.ok {x qual:Str} {st:Stmt} {f:Addr} {fd:FuncData} {N ps:List Str} {k:Nat} {sp:Sp} (F:Fun K x qual st f fd) (S:FnScope N ps (defScope st)) (len:∀ vs H Q E,sp vs H Q E->vs.length=ps.length)
  (hbody:∀ (cdv:Value) (A:Around) (outer:List Env) (s:Shared) (H:Hp) (vs:List V) (Q:VK) (E:XK),Room k (A.deeper (envOfC qual (defScope st) s.heap.objs.size f cdv))->sp vs H Q E →
   ∃ t,PSs (cxOf CX0 P w K mg base N qual (defScope st) f cdv A outer s H E).nox (defBody st) t∧t { nx:=fun _ H'=>Q .non H',rt:=Q } (start N vs) H):FnOk P w K mg base CX0 (k+1) f fd ps sp:=by
 obtain ⟨oc,od,kV,doc,pm,an,cdv,ct,osl,rfl,lk,hcd⟩:=F.ex
 refine fn_of lk hcd S len fun A outer s H vs Q E hr hsp=>?_
 obtain ⟨t,h,q⟩:=hbody cdv A outer s H vs Q E hr hsp
 exact ⟨t,h.nox,q⟩
theorem Fun.binds {x qual:Str} {st:Stmt} {f:Addr} {fd:FuncData} {ps:List Str} (F:Fun K x qual st f fd)
  (h:∀ (kV doc pm:Value) (an:Option Addr) (cdv ct:Value) (us:List Value),us.length=ps.length->bindArgs (PySem.W.fnOf x qual (defArgs st) (defBody st) (defScope st) .none kV doc pm an cdv ct) ⟨us,[]⟩=pure (ps.zip us)):Binds K fd ps []:=by
 obtain ⟨oc,od,kV,doc,pm,an,cdv,ct,osl,rfl,lk,hcd⟩:=F.ex
 exact .all (h kV doc pm an cdv ct)
theorem fun_mk {x qual:Str} {st:Stmt} {f:Addr} {oc:Value} {od an:Option Addr} {osl:Array (Option Value)} {kV doc pm cdv ct:Value} (l:K.lookup f=some ⟨oc,od,.func (PySem.W.fnOf x qual (defArgs st) (defBody st) (defScope st) .none kV doc pm an cdv ct),osl⟩)
  (c:PySem.W.codeIn K cdv qual=true) (k:PySem.W.keepIn K (.ref f)=true):Fun K x qual st f (PySem.W.fnOf x qual (defArgs st) (defBody st) (defScope st) .none kV doc pm an cdv ct):=⟨⟨oc,od,kV,doc,pm,an,cdv,ct,osl,rfl,l,c⟩,k⟩
end
theorem hu_of {A:Around} {k:Nat} (hr:Room k A):A.units+1<cLine:=Nat.lt_of_le_of_lt (Nat.add_le_add_left (by decide:1≤64) _) hr.units
section
variable {X:Cx}
theorem pv (i:Nat) {x:Str} {pos:Pos} (hN:X.N[i]?=some x:=by rfl) (hv:Vis X.env.scope x:=by first | exact Or.inl rfl | exact Or.inr (Or.inl rfl) | exact Or.inr (Or.inr rfl)) (hd:(x == ("__debug__":Str))=false:=by decide)
  (hcd:(x == ("__classdict__":Str))=false:=by decide):PE X (.Name x pos) (tVar i):=pe_var hN hv hd hcd
end
theorem iteF {A B:Prop} (h:B):if false=true then A else B:=by
 rw [if_neg Bool.false_ne_true]
 exact h
theorem iteT {A B:Prop} (h:A):if true=true then A else B:=by
 rw [if_pos rfl]
 exact h
theorem ite2 {c A B:Prop} [Decidable c] (h1:c->A) (h2:¬ c->B):if c then A else B:=by
 by_cases h:c
 ·rw [if_pos h]
  exact h1 h
 ·rw [if_neg h]
  exact h2 h
theorem iteNS {c A B:Prop} [Decidable c] (hc:c) (h:B):if (!decide c)=true then A else B:=by
 rw [decide_eq_true hc]
 exact iteF h
def Same (H H':Hp):Prop:=∀ b o,H b=some o->H' b=some o
theorem Same.refl (H:Hp):Same H H:=fun _ _ h=>h
theorem Same.trans {H H1 H2:Hp} (a:Same H H1) (b:Same H1 H2):Same H H2:=fun c o h=>b c o (a c o h)
theorem Same.free {H H':Hp} (e:Same H H') {l:Addr} (h:H' l=Option.none):H l=Option.none:=by
 cases q:H l with
 | none=>rfl
 | some o =>
  rw [e l o q] at h
  cases h
theorem Same.seq {K:PySem.W.Frag} {H H':Hp} {a:Addr} {xs:List V} (e:Same H H') (h:SqL K H a xs):SqL K H' a xs:=by
 rcases h with (h | ⟨o,h⟩) | h
 ·exact .inl (.inl (e _ _ h))
 ·exact .inl (.inr ⟨o,e _ _ h⟩)
 ·exact .inr h
end L2
namespace L2
open PySem PySem.Spec PyProof.Rows
section
variable {X:Cx}
theorem call_lenD:CallR X (.builtin "len") (fun xs H Q=>∃ a kvs,xs=[V.ref a]∧H a=some (.dK kvs)∧Q (.int kvs.length) H):=by
 intro pins s σ H xs us Q I r h
 obtain ⟨a,kvs,rfl,ha,q⟩:=h
 obtain ⟨u,rfl,ru⟩:=vals1 r
 cases ru
 exact d_len I (.inl ha) fun t s' I'=>⟨.int kvs.length,H,I',⟨t,rfl⟩,q⟩
end
section
variable {κ:Type} [DecidableEq κ]
end
end L2
namespace L2
open PySem PySem.Spec PyProof.Rows
theorem objOk_get {P:Program} {w:World} {H:Hp} {h:Heap} {a:Addr} {o:HO} (x:ObjOk P w H h a o):∃ u,h.get? a=some u:=by
 cases o with
 | lst xs=>obtain ⟨_,_,_,_,e⟩:=x; exact ⟨_,e⟩
 | tup xs=>obtain ⟨_,_,_,_,u,e,_⟩:=x; exact ⟨u,e⟩
 | dK kvs=>obtain ⟨_,_,_,_,u,_,_,e,_⟩:=x; exact ⟨u,e⟩
 | dT kvs=>obtain ⟨_,_,_,_,u,_,_,e,_⟩:=x; exact ⟨u,e⟩
 | set S n=>obtain ⟨u,_,_,_,e,_⟩:=x; exact ⟨u,e⟩
 | ins C dx fs=>obtain ⟨_,_,_,e,_⟩:=x; exact ⟨_,e⟩
 | own y=>exact x
 | xd fs=>obtain ⟨_,⟨u,_,_,e,_⟩,_⟩:=x; exact ⟨u,e⟩
 | rng lo hi=>obtain ⟨_,_,_,e⟩:=x; exact ⟨_,e⟩
 | frz ob u=>obtain ⟨e,_⟩:=x; exact ⟨_,e⟩
 | tbl ps=>exact ⟨_,x⟩
 | met f y=>exact ⟨_,x⟩
 | ext φ=>obtain ⟨_,e,_⟩:=x; exact e
theorem free_of_none {P:Program} {w:World} {H:Hp} {h:Heap} {a:Addr} (x:HOk P w H h) (e:h.get? a=none):H a=none:=by
 cases q:H a with
 | none=>rfl
 | some o =>
  obtain ⟨u,z⟩:=objOk_get (x a o q)
  rw [e] at z
  cases z
def CXr (P:Program) (w:World):CXT:=fun outer H s E e s' =>
 ∃ (a t:Addr) (cls:Value) (B:Heap) (H':Hp),e=.ref a∧s'.os=s.os∧AllBare s'.gens∧Un (frs outer) [] H H' s.heap s'.heap ∧
  (∀ b o,s.heap.get? b=some o->H b=none->b∉frs outer->B.get? b=some o)∧(∀ b o,s.heap.get? b=some o->b∉frs outer->∃ o',B.get? b=some o') ∧
  HOk P w H' B∧Heap.FlyingW B outer a cls (.ref t) s'.heap∧s.heap.get? a=none∧H' a=none∧E cls none H'
def excO (a:Addr) (cls:Value):HO:=.ext fun h=>∃ o,h.get? a=some o∧o.cls=cls
theorem excO_ok {P:Program} {w:World} {H:Hp} {h:Heap} {a:Addr} {cls:Value} {o:Obj} (e:h.get? a=some o) (c:o.cls=cls):ObjOk P w H h a (excO a cls) :=
 ⟨⟨o,e,c⟩,⟨o,e⟩,fun _ _ ⟨u,q,z⟩ k=>⟨u,k u q,z⟩⟩
def Caught (X:Cx) (pins:List (Addr×Obj)) (σ:St) (a:Addr) (cls:Value) (H':Hp) (s':Shared):Prop :=
 ∃ (B:Heap) (t:Addr),Heap.FlyingW B X.stack a cls (.ref t) s'.heap∧H' a=none∧∀ h'',Heap.FlyingW B X.stack a cls (.ref t) h''->s'.heap.UpToSlots h'' →
  Inv X pins σ H' { s' with heap:=h'' }∧Inv X pins σ (upd H' a (excO a cls)) { s' with heap:=h'' }
section
variable {X:Cx} {pins:List (Addr×Obj)} {σ:St} {H:Hp} {s s':Shared} {E:XK} {e:Value}
theorem fly_inv (I:Inv X pins σ H s) (h:CXr X.prog X.w X.stack H s E e s'):∃ a cls H',e=.ref a∧E cls none H'∧Caught X pins σ a cls H' s':=by
 obtain ⟨a,t,cls,B,H',rfl,os,bare,u,kB,tB,hok,fl,na,nH,hE⟩:=h
 refine ⟨a,cls,H',rfl,hE,B,t,fl,nH,fun h'' fl' up=>?_⟩
 have fr:=I.stack
 have un:Un (frs X.stack) [] H H' s.heap h'':=by
  refine ⟨fun b o q n hb _=>fl'.1 b o (kB b o q n hb),fun b o q n hb hx=>?_,u.free,fun b o q hx=>?_,u.tups,u.frzs,u.tbls⟩
  ·obtain ⟨sl,q1⟩:=u.slot b o q n hb hx
   obtain ⟨_,o2,q2,nf⟩:=fr.mem hb
   rw [q] at q2
   cases q2
   obtain ⟨sl',q3⟩:=up b _ q1 nf
   exact ⟨sl',q3⟩
  ·by_cases hb:b∈frs X.stack
   ·obtain ⟨sl,q1⟩:=u.slot b o q (I.stkFree b hb) hb hx
    obtain ⟨_,o2,q2,nf⟩:=fr.mem hb
    rw [q] at q2
    cases q2
    obtain ⟨sl',q3⟩:=up b _ q1 nf
    exact ⟨_,q3⟩
   ·obtain ⟨o',q'⟩:=tB b o q hb
    exact ⟨o',fl'.1 b o' q'⟩
 have ok':HOk X.prog X.w H' h'':=hok.kept fl'.1
 have neA:∀ b o,s.heap.get? b=some o->b≠a:=fun b o q z=>by rw [z,na] at q; cases q
 have inS:∀ b o,H b=some o->b≠a:=fun b o q=>by
  obtain ⟨v,z⟩:=objOk_get (I.hok b o q)
  exact neA b v z
 refine ⟨I.call' (s':={ s' with heap:=h'' }) os un ok' bare fun b z=>absurd z (by simp),?_⟩
 refine I.call' (s':={ s' with heap:=h'' }) os ⟨un.keep,un.slot,fun b o q n hx=>?_,un.there,fun b xs q=>?_,fun b o v q=>?_,fun b ps q=>?_⟩ (fun b o q=>?_) bare fun b z=>absurd z (by simp)
 ·rw [upd_ne (neA b o q)]
  exact un.free b o q n hx
 ·rw [upd_ne (inS b _ q)]
  exact un.tups b xs q
 ·rw [upd_ne (inS b _ q)]
  exact un.frzs b o v q
 ·obtain ⟨more,z⟩:=un.tbls b ps q
  exact ⟨more,by rw [upd_ne (inS b _ q)]; exact z⟩
 ·by_cases hb:b=a
  ·subst hb
   rw [upd_same] at q
   cases q
   obtain ⟨ob,z1,z2⟩:=fl'.there
   exact excO_ok z1 z2
  ·rw [upd_ne hb] at q
   refine (ok' b o q).stay (fun c v _ z=>z) (fun c z=>?_) fun c xs z=>?_
   ·rw [upd_ne (ne_of_none z nH)]
    exact z
   ·rw [upd_ne (ne_of_none z nH)]
    exact z
end
section
variable {P:Program} {w:World} {K:PySem.W.Frag} {mg:Str->Option Value} {base:Heap} {N:List Str} {qual:Str} {scope:Scope} {f:Addr} {cd:Value} {A:Around} {outer:List Env} {s₀:Shared} {H₀:Hp} {E:XK}
theorem pass_out:Passes (CXr P w) (cxOf (CXr P w) P w K mg base N qual scope f cd A outer s₀ H₀ E) E:=by
 intro pins σ H s e s' I h
 obtain ⟨a,t,cls,B,H',rfl,os,bare,u,kB,tB,hok,fl,na,nH,hE⟩:=h
 have sub:∀ b,b∈frs outer->b∈frs (envOfC qual scope s₀.heap.objs.size f cd :: outer):=fun b hb=>by
  show b∈List.filterMap _ (_ :: outer)
  rw [List.filterMap_cons]
  exact List.mem_cons_of_mem _ hb
 have noL:∀ b o,s₀.heap.get? b=some o->b∉frs outer->b∉frs (envOfC qual scope s₀.heap.objs.size f cd :: outer):=fun b o q hb z=>by
  rcases List.mem_cons.mp (I.stkSub b z) with z | z
  ·exact absurd (Heap.lt_size q) (by rw [z]; exact Nat.lt_irrefl _)
  ·exact hb z
 have nex:∀ b:Addr,b∉([]:List Addr):=fun b z=>by simp at z
 have kB':∀ b o,s₀.heap.get? b=some o->H₀ b=none->b∉frs outer->B.get? b=some o:=fun b o q n hb =>
  kB b o (I.base.keep b o q n hb (nex b)) (I.base.free b o q n (nex b)) (noL b o q hb)
 have tB':∀ b o,s₀.heap.get? b=some o->b∉frs outer->∃ o',B.get? b=some o':=fun b o q hb=>by
  obtain ⟨o1,q1⟩:=I.base.there b o q (nex b)
  exact tB b o1 q1 (noL b o q hb)
 have na':s₀.heap.get? a=none:=by
  cases q:s₀.heap.get? a with
  | none=>rfl
  | some o =>
   obtain ⟨o1,q1⟩:=I.base.there a o q (nex a)
   rw [na] at q1
   cases q1
 refine wpAny_leaves_onW I.ok.frames rfl fl fun h' fl' up=>⟨a,t,cls,B,H',rfl,os.trans I.os,bare,?_,kB',tB',hok,fl',na',nH,hE⟩
 have slot':∀ b o,s₀.heap.get? b=some o->H₀ b=none->b∈frs outer->∃ sl,h'.get? b=some { o with slots:=sl }:=fun b o q n hb=>by
  obtain ⟨sl,q1⟩:=I.base.slot b o q n hb (nex b)
  obtain ⟨sl1,q2⟩:=u.slot b _ q1 (I.base.free b o q n (nex b)) (sub b hb) (nex b)
  obtain ⟨_,o2,q3,nf⟩:=I.funs.mem hb
  rw [q1] at q3
  cases q3
  obtain ⟨sl2,q4⟩:=up b _ q2 nf
  exact ⟨sl2,q4⟩
 refine ⟨fun b o q n hb _=>fl'.1 b o (kB' b o q n hb),fun b o q n hb _=>slot' b o q n hb,fun b o q n _=>?_,fun b o q _=>?_,fun b xs q=>u.tups b xs (I.base.tups b xs q),fun b o v q=>u.frzs b o v (I.base.frzs b o v q),fun b ps q=>?_⟩
 ·obtain ⟨o1,q1⟩:=I.base.there b o q (nex b)
  exact u.free b o1 q1 (I.base.free b o q n (nex b)) (nex b)
 ·by_cases hb:b∈frs outer
  ·obtain ⟨sl,q1⟩:=slot' b o q (I.ok.frf b hb) hb
   exact ⟨_,q1⟩
  ·obtain ⟨o1,q1⟩:=tB' b o q hb
   exact ⟨o1,fl'.1 b o1 q1⟩
 ·obtain ⟨m1,q1⟩:=I.base.tbls b ps q
  obtain ⟨m2,q2⟩:=u.tbls b _ q1
  exact ⟨m1++m2,by rw [q2,Array.append_assoc]⟩
end
theorem okX {P:Program} {w:World} {K:PySem.W.Frag} {mg:Str->Option Value} {base:Heap} {x qual:Str} {st:Stmt} {f:Addr} {fd:FuncData} {N ps:List Str} {k:Nat} {sp:Sp} (F:Fun K x qual st f fd) (S:FnScope N ps (defScope st))
  (len:∀ vs H Q E,sp vs H Q E->vs.length=ps.length)
  (hbody:∀ (cdv:Value) (A:Around) (outer:List Env) (s:Shared) (H:Hp) (vs:List V) (Q:VK) (E:XK),Room k (A.deeper (envOfC qual (defScope st) s.heap.objs.size f cdv))->sp vs H Q E →
   ∃ t,PSs (cxOf (CXr P w) P w K mg base N qual (defScope st) f cdv A outer s H E) (defBody st) t∧t { nx:=fun _ H'=>Q .non H',rt:=Q } (start N vs) H):FnOk P w K mg base (CXr P w) (k+1) f fd ps sp:=by
 obtain ⟨oc,od,kV,doc,pm,an,cdv,ct,osl,rfl,lk,hcd⟩:=F.ex
 exact fn_of lk hcd S len fun A outer s H vs Q E hr hsp=>hbody cdv A outer s H vs Q E hr hsp
abbrev TX:=St->Hp->VK->XK->Prop
def PX (X:Cx) (e:PySem.Expr) (t:TX):Prop :=
 ∀ (pins:List (Addr×Obj)) (s:Shared) (σ:St) (H:Hp) (Q:VK) (E:XK) (W:Value->Shared->Prop),Inv X pins σ H s->t σ H Q E->(∀ a cls H' s',Caught X pins σ a cls H' s'->E cls none H'->W (.ref a) s') →
  wpAny (model X.prog X.w) X.A (eval e X.env) (EP X pins σ Q) W s
def tXCall (sp:Sp) (dvs:List V) (t:TA):TX:=fun σ H Q E=>t σ H fun vs H1=>sp (vs++dvs) H1 Q E
theorem px_call {X:Cx} {k:Nat} {f:Addr} {fd:FuncData} {ps:List Str} {sp:Sp} {dvs:List V} {ds:List Value} {x:Str} {p pos:Pos} {e:PySem.Expr} {es:List PySem.Expr} {t:TA}
  (F:FnOk X.prog X.w X.K X.mg X.base (CXr X.prog X.w) k f fd ps sp) (hr:Room k X.A) (hg:Gl X x) (hm:X.mg x=some (.ref f)) (hk:PySem.W.keepIn X.K (.ref f)=true) (hb:Binds X.K fd ps ds) (hd:Vals dvs ds)
  (ha:PA X.nox (e :: es) t) (hdb:(x == ("__debug__":Str))=false:=by decide) (he:starEach (e :: es) X.env=(false,eval e X.env) :: starEach es X.env:=by rfl) (hpl:(backTo pos (starEach es X.env)).any (·.1)=false:=by rfl) :
  PX X (.Call (.Name x p) (e :: es) [] pos) (tXCall sp dvs t):=by
 intro pins s σ H Q E W I h hW
 refine wpAny_Call_Name_kw (ld_glob I hg hm ?_ hdb)
 refine PySem.W.callWith_K (h₀:=X.base) I.ok.mod.kin hk (wpAny_mono (ha pos pins s σ H _ (I.wish _) h) (fun us s1 ⟨vs,H1,I1',r,q⟩=>?_) fun _ _ z=>False.elim z) he hpl
 have I1:Inv X pins σ H1 s1:=I1'.unwish
 refine ⟨I1.kIn,?_⟩
 have r2:Vals (vs++dvs) (us++ds):=r.append hd
 have hl:(us++ds).length=ps.length:=by rw [←r2.length]; exact F.len _ _ _ _ q
 refine wpAny_call (codeAny_mono (F.run X.A X.stack s1 H1 ⟨us,[]⟩ (us++ds) (vs++dvs) Q E hr I1.env0 (hb s1 us I1.kIn hl) r2 q) fun r s' hq=>?_)
 cases r with
 | error e =>
  obtain ⟨a,cls,H',e1,hE,c⟩:=fly_inv I1 hq
  subst e1
  exact hW a cls H' s' c hE
 | ok fl =>
  cases fl with
  | ret u=>exact I1.after hq
  | next=>exact False.elim hq
  | brk=>exact False.elim hq
  | cont=>exact False.elim hq
abbrev TXS:=Ends->St->Hp->XK->Prop
def PXS (X:Cx) (body:List Stmt) (t:TXS):Prop :=
 ∀ (pins:List (Addr×Obj)) (s:Shared) (σ:St) (H:Hp) (D:Ends) (E:XK) (W:Value->Shared->Prop),Inv X pins σ H s->t D σ H E->(∀ a cls H' s',Caught X pins σ a cls H' s'->E cls none H'->W (.ref a) s') →
  wpAny (model X.prog X.w) X.A (execs body X.env) (SP X pins D) W s
def tXSet (i:Nat) (te:TX):TXS:=fun D σ H E=>te σ H (fun v H1=>D.nx (σ.set i (some v)) H1) E
theorem pxs_set {X:Cx} {i:Nat} {x:Str} {e:PySem.Expr} {te:TX} {pos pos':Pos} (hN:X.N.Nodup) (hi:X.N[i]?=some x) (hx:Loc X.env.scope x) (he:PX X e te) (hs:swapsWith e (some (.Name x pos')) pos.line X.env=pure false:=by rfl)
  (hf:X.fn x=true∨X.env.scope.names.lookup x=some .local:=by first | exact .inl rfl | exact .inr rfl | assumption):PXS X [.Assign [.Name x pos'] e pos] (tXSet i te):=by
 intro pins s σ H D E W I h hW
 refine wpAny_execs_cons (wpAny_Assign_Name (thn (he pins s σ H _ E W I h hW) fun v s1 ⟨y,H1,I1,r1,q1⟩=>?_) hs)
 exact store_ok I1 hN hi hx r1 (fun s2 I2=>wpAny_execs_nil ⟨_,H1,I2,q1⟩) hf
abbrev marked (X:Cx) (a:Addr):Cx:={ X with A:=X.A.mark (some (.ref a)),calm:=false }
theorem inv_marked {X:Cx} {pins:List (Addr×Obj)} {σ:St} {H:Hp} {s:Shared} (I:Inv X pins σ H s) (a:Addr):Inv (marked X a) pins σ H s :=
 ⟨⟨I.ok.mod,I.ok.kind,I.ok.glob,I.ok.blt,I.ok.above,I.ok.inj,I.ok.has,I.ok.cab,(fun z=>by cases z),I.ok.frames,I.ok.stk,I.ok.exf,I.ok.bs,I.ok.bsz,I.ok.noex,I.ok.exfs,I.ok.funs,I.ok.frf⟩,I.os,I.bare,I.base,I.loc,I.cell,I.free,I.freeC,I.pin,I.hok,I.len⟩
theorem inv_back {X:Cx} {pins:List (Addr×Obj)} {σ:St} {H:Hp} {s:Shared} {a:Addr} (ok:X.Ok) (I:Inv (marked X a) pins σ H s):Inv X pins σ H s :=
 ⟨ok,I.os,I.bare,I.base,I.loc,I.cell,I.free,I.freeC,I.pin,I.hok,I.len⟩
end L2
namespace L2
open PySem PySem.Spec PyProof.Rows
def cxComp (X:Cx) (scope:Scope) (cl:List (Str×Addr)) (C:Addr) (Nc:List Str) (ex:List Addr) (pins:List (Addr×Obj)) (s₀:Shared) (H₀:Hp):Cx where
 prog:=X.prog
 w:=X.w
 K:=X.K
 mg:=X.mg
 base:=X.base
 A:=X.A
 N:=Nc
 s₀:=s₀
 H₀:=H₀
 env:=compEnvC scope cl C X.env
 outer:=X.stack
 stack:=X.stack
 ex:=ex
 fn:=fun y=>scope.names.lookup y == some .local
 calm:=true
 pn:=X.pn++pins
 xe:=fun _ _=>False
structure CompScope (X:Cx) (scope:Scope) (cl:List (Str×Addr)) (Nc:List Str) (cap:List (Nat×Nat)):Prop where
 clos:closureFor scope X.env=pure cl
 kind:scope.kind=.function
 names:∀ y∈scope.names,y.2=.local->scope.names.lookup y.1=some .local
 nocell:∀ y∈scope.names,y.2≠.cell
 sub:∀ x c,cl.lookup x=some c->X.env.cells.lookup x=some c∧scope.names.lookup x≠some .local
 has:∀ x,((relabel scope X.env).names.lookup x=some .cell∨(relabel scope X.env).names.lookup x=some .free)->∃ c,cl.lookup x=some c
 caps:∀ j i,(j,i)∈cap->∃ x c,Nc[j]?=some x∧X.N[i]?=some x∧cl.lookup x=some c∧X.env.scope.names.lookup x=some .cell∧(relabel scope X.env).names.lookup x=some .cell
theorem comp_mk {X:Cx} {scope:Scope} {cl:List (Str×Addr)} {Nc:List Str} {cap:List (Nat×Nat)} (clos:closureFor scope X.env=pure cl) (kind:scope.kind=.function) (names:∀ y∈scope.names,y.2=.local->scope.names.lookup y.1=some .local) (nocell:∀ y∈scope.names,y.2≠.cell)
  (subs:∀ p∈cl,X.env.cells.lookup p.1=some p.2∧scope.names.lookup p.1=some .free) (hass:((relabel scope X.env).names.all fun p=>(p.2 != .cell && p.2 != .free) || (cl.lookup p.1).isSome)=true)
  (caps:∀ p∈cap,∃ x c,Nc[p.1]?=some x∧X.N[p.2]?=some x∧cl.lookup x=some c∧X.env.scope.names.lookup x=some .cell∧(relabel scope X.env).names.lookup x=some .cell):CompScope X scope cl Nc cap :=
 ⟨clos,kind,names,nocell,fun x c e=>⟨(subs (x,c) (PySem.mem_of_lookup e)).1,fun z=>by
  have:=(subs (x,c) (PySem.mem_of_lookup e)).2
  rw [z] at this
  cases this⟩,fun x e=>by
  have key:∀ k,(relabel scope X.env).names.lookup x=some k->(k=.cell∨k=.free)->∃ c,cl.lookup x=some c:=fun k e hk=>by
   have:=List.all_eq_true.mp hass (x,k) (PySem.mem_of_lookup e)
   rcases hk with rfl | rfl
   ·exact Option.isSome_iff_exists.mp (by simpa using this)
   ·exact Option.isSome_iff_exists.mp (by simpa using this)
  rcases e with e | e
  ·exact key _ e (.inl rfl)
  ·exact key _ e (.inr rfl),fun j i m=>caps (j,i) m⟩
def capSt (n:Nat) (cap:List (Nat×Nat)) (σ:St):St:=(List.range n).map fun j=>((cap.find? fun p=>p.1 == j).bind fun p=>σ[p.2]?).bind id
theorem capSt_get {n:Nat} {cap:List (Nat×Nat)} {σ:St} {j:Nat} {v:V} (h:(capSt n cap σ)[j]?=some (some v)):∃ i,(j,i)∈cap∧σ[i]?=some (some v):=by
 unfold capSt at h
 rw [List.getElem?_map] at h
 cases e:(List.range n)[j]? with
 | none=>rw [e] at h; cases h
 | some k =>
  rw [e] at h
  have hk:k=j:=by
   obtain ⟨hl,q⟩:=List.getElem?_eq_some_iff.mp e
   rw [List.getElem_range] at q
   exact q.symm
  subst hk
  simp only [Option.map_some,Option.some.injEq] at h
  cases f:cap.find? fun p=>p.1 == k with
  | none=>rw [f] at h; cases h
  | some p =>
   rw [f] at h
   have h1:=List.mem_of_find?_eq_some f
   have h2:p.1=k:=by
    have:=List.find?_some f
    exact eq_of_beq this
   refine ⟨p.2,?_,?_⟩
   ·rw [←h2]; exact h1
   ·simp only [Option.bind_some] at h
    cases g:σ[p.2]? with
    | none=>rw [g] at h; cases h
    | some o=>rw [g] at h; simpa using h
section
variable {X:Cx} {pins:List (Addr×Obj)} {σ:St} {H:Hp} {s:Shared} {scope:Scope} {cl:List (Str×Addr)} {Nc:List Str} {cap:List (Nat×Nat)} {fp:List Addr}
theorem inv_comp (I:Inv X pins σ H s) (hcalm:X.calm=true) (S:CompScope X scope cl Nc cap) (hfp:∀ b∈fp,FpOk X pins H b) (hob:∀ b∈fp,∃ o,s.heap.get? b=some o) {C:Addr} {h1:Heap} {m:Str->Option Value} {tk:Nat} (hC:s.heap.objs.size≤C)
  (hn:h1.Ns C m) (keep:∀ b o,s.heap.get? b=some o->h1.get? b=some o):Inv (cxComp X scope cl C Nc fp pins s H) [] (capSt Nc.length cap σ) H { s with heap:=h1,toks:=tk }:=by
 have neC:∀ b o,s.heap.get? b=some o->b≠C:=fun b o e=>Nat.ne_of_lt (Nat.lt_of_lt_of_le (Heap.lt_size e) hC)
 refine ⟨⟨I.ok.mod,S.kind,I.ok.glob,I.ok.blt,hC,fun x y c e1 e2=>?_,fun x hx=>S.has x hx,fun x c e1 e2=>?_,fun _=>I.ok.hd hcalm,I.ok.frames,.inl rfl,fun b hb=>⟨?_,fun x c e=>?_⟩,I.bs,Nat.le_trans I.ok.bsz I.sz,fun b o e hb=>?_,fun b hb z=>?_,I.stack,I.stkFree⟩,
  rfl,I.bare,Un.kept keep,⟨m,hn,fun j x v e1 e2 e3=>?_⟩,fun x c e=>?_,I.hok.fresh hC,fun x c e=>?_,fun p hp=>?_,I.hok.kept keep,?_⟩
 ·exact I.ok.inj x y c (S.sub x c e1).1 (S.sub y c e2).1
 ·exact absurd (beq_iff_eq.mp e1) (S.sub x c e2).2
 ·obtain ⟨o,e⟩:=hob b hb
  exact neC b o e
 ·exact (hfp b hb).2.2.2.2.1 x c (S.sub x c e).1
 ·rcases (hfp b hb).2.2.2.1 with z | z
  ·exact I.ok.noex b o e z
  ·exact absurd (Nat.lt_of_lt_of_le (Heap.lt_size e) (Nat.le_trans I.ok.bsz z)) (Nat.lt_irrefl _)
 ·rcases List.mem_cons.mp (I.stkSub b z) with z | z
  ·exact (hfp b hb).2.1 z
  ·exact (hfp b hb).2.2.1 z
 ·obtain ⟨i,hm,hv⟩:=capSt_get e2
  obtain ⟨x',c,q1,q2,q3,q4,q5⟩:=S.caps j i hm
  have e1':Nc[j]?=some x:=e1
  rw [q1] at e1'
  cases e1'
  obtain ⟨mo,_,hl⟩:=I.loc
  obtain ⟨u,r,l⟩:=hl i x v q2 hv (.inr (.inl q4))
  refine ⟨u,r,?_⟩
  rcases l with ⟨k,_⟩ | ⟨_,c',e',z⟩
  ·have k':X.env.scope.names.lookup x=some .local:=k
   rw [q4] at k'
   cases k'
  ·have:c'=c:=Option.some.inj (e'.symm.trans (S.sub x c q3).1)
   subst this
   obtain ⟨o,ho,hd⟩:=z
   exact .inr ⟨.inl q5,c',q3,⟨o,keep _ _ ho,hd⟩⟩
 ·obtain ⟨v,o,ho,hd⟩:=I.cell x c (S.sub x c e).1
  exact ⟨v,o,keep _ _ ho,hd⟩
 ·exact I.freeC x c (S.sub x c e).1
 ·have hp':p∈X.pn++pins:=by
   have z:p∈(X.pn++pins)++[]:=hp
   rw [List.append_nil] at z
   exact z
  obtain ⟨e,n,ne,nf,d⟩:=I.pin p hp'
  refine ⟨keep _ _ e,n,neC _ _ e,fun z=>?_,d⟩
  rcases List.mem_cons.mp (I.stkSub p.1 z) with z | z
  ·exact ne z
  ·exact nf z
 ·show (capSt Nc.length cap σ).length=Nc.length
  unfold capSt
  rw [List.length_map,List.length_range]
theorem comp_back (I:Inv X pins σ H s) (hfp:∀ b∈fp,FpOk X pins H b) {C:Addr} {σc:St} {H':Hp} {s':Shared} {h':Heap} (J:Inv (cxComp X scope cl C Nc fp pins s H) [] σc H' s') (hs:Heap.SameBut C s'.heap h'):Inv X pins σ H' { s' with heap:=h' }:=by
 have hC:s.heap.objs.size≤C:=J.ok.above
 have neC:∀ b o,s.heap.get? b=some o->b≠C:=fun b o e=>Nat.ne_of_lt (Nat.lt_of_lt_of_le (Heap.lt_size e) hC)
 have u:=J.base
 refine I.call' (s':={ s' with heap:=h' }) (ch:=fp) J.os ⟨fun b o e n hb hx=>?_,fun b o e n hb hx=>?_,u.free,fun b o e hx=>?_,u.tups,u.frzs,u.tbls⟩ (fun b o e=>?_) J.bare fun b hb=>⟨(hfp b hb).2.2.2.1,(hfp b hb).2.1,(hfp b hb).2.2.2.2.1,(hfp b hb).2.2.2.2.2⟩
 ·exact (hs.2 b (neC b o e)).trans (u.keep b o e n hb hx)
 ·obtain ⟨sl,q⟩:=u.slot b o e n hb hx
  exact ⟨sl,(hs.2 b (neC b o e)).trans q⟩
 ·obtain ⟨o',q⟩:=u.there b o e hx
  exact ⟨o',(hs.2 b (neC b o e)).trans q⟩
 ·refine (J.hok b o e).stay (fun c v hc q=>(hs.2 c ?_).trans q) (fun _ q=>q) fun _ _ q=>q
  intro z
  subst z
  have fr:H' c=none:=J.free
  rcases hc with hc | hc
  ·rw [hc] at fr; rw [fr] at e; cases e
  ·rw [fr] at hc; cases hc
end
def tComp (n:Nat) (cap:List (Nat×Nat)) (wi:TI) (g:TG) (te:TE):TE:=fun σ H Q=>wi σ H fun J H1=>∀ acc,H1 acc=none →
 ∃ W:Nat->Nat->List V->St->Hp->Prop,(∃ m,W 0 m [] (capSt n cap σ) (upd H1 acc (.lst [])))∧∀ i m ys σc H2,W i m ys σc H2 →
  (J.stop i H2∧Q (.ref acc) H2)∨(J.go i H2∧∀ x H3,J.yld i H2 x H3->g x σc H3 fun σ4 H4=>te σ4 H4 fun v H5=>H5 acc=some (.lst ys)∧ys.length<sizeLine∧∃ m',m' < m∧W (i+1) m' (ys++[v]) σ4 (upd H5 acc (.lst (ys++[v]))))
def tCompF (n:Nat) (cap:List (Nat×Nat)) (wi:TI) (g:TG) (tt:TT) (te:TE):TE:=fun σ H Q=>wi σ H fun J H1=>∀ acc,H1 acc=none →
 ∃ W:Nat->Nat->List V->St->Hp->Prop,(∃ m,W 0 m [] (capSt n cap σ) (upd H1 acc (.lst [])))∧∀ i m ys σc H2,W i m ys σc H2 →
  (J.stop i H2∧Q (.ref acc) H2)∨(J.go i H2∧∀ x H3,J.yld i H2 x H3->g x σc H3 fun σ4 H4=>tt σ4 H4 fun ok H5=>if ok=true then (te σ4 H5 fun v H6=>H6 acc=some (.lst ys)∧ys.length<sizeLine∧∃ m',m' < m∧W (i+1) m' (ys++[v]) σ4 (upd H6 acc (.lst (ys++[v])))) else ∃ m',m' < m∧W (i+1) m' ys σ4 H5)
def PTs (X:Cx) (ifs:List PySem.Expr) (tt:TT):Prop:=∀ (pins:List (Addr×Obj)) (s:Shared) (σ:St) (H:Hp) (Q:Bool->Hp->Prop),Inv X pins σ H s->tt σ H Q →
 wpAny (model X.prog X.w) X.A (forIn ifs true fun c r=>if r=true then do let ok ←isTrue c X.env (eval c X.env); pure (ForInStep.yield ok) else pure (ForInStep.yield r)) (fun ok s'=>∃ H',Inv X pins σ H' s'∧Q ok H') X.xe s
theorem pts_one {X:Cx} {c:PySem.Expr} {tt:TT} (h:PT X c tt):PTs X [c] tt:=fun pins s σ H Q I q=>wpAny_tests_one (h pins s σ H Q I q)
theorem pts_nil {X:Cx}:PTs X [] (fun _ H Q=>Q true H):=fun _ _ _ H _ I q=>wpAny_tests_nil ⟨H,I,q⟩
section
variable {prog:Program} {w:World} {A:Around} {s:Shared}
theorem compLoop_any {elt iter tg:PySem.Expr} {ifs:List PySem.Expr} {scope:Scope} {pos:Pos} {it acc:Value} {env:Env} {R:Result->Shared->Prop} (I:Nat->Shared->Prop)
  (turn:∀ n s,I n s->wpAny (model prog w) A (pyNext it) (fun r s₁=>match r with
   | none=>R (.ok .next) s₁
   | some v=>wpAny (model prog w) A (letOwnedTupleGo tg it v) (fun _ s₁'=>wpAny (model prog w) A (assign tg env v) (fun _ s₂ =>
     wpAny (model prog w) A (forIn ifs true fun c r=>if r=true then do let ok ←isTrue c env (eval c env); pure (ForInStep.yield ok) else pure (ForInStep.yield r)) (fun ok s₃=>if ok=true then
      wpAny (model prog w) A (eval elt env) (fun x s₄ =>
       wpAny (model prog w) A (call (.builtin "list.append") [acc,x]) (fun _ s₅=>∃ m,m<n∧I m s₅) (fun _ _=>False) s₄) (fun _ _=>False) s₃
      else ∃ m,m<n∧I m s₃) (fun _ _=>False) s₂)
     (fun _ _=>False) s₁') (fun _ _=>False) s₁) (notedBy (model prog w) A env fun e s'=>R (.error e) s') s)
  (n:Nat) (h:I n s):codeAny (model prog w) A (.compLoop (.ListComp elt [⟨tg,iter,ifs,0⟩] scope pos) 0 it acc env) R s:=by
 refine codeAny_loop rfl I (fun n s hI=>?_) n h
 show wpAny _ A ((compTurn (.ListComp elt [⟨tg,iter,ifs,0⟩] scope pos) 0 it acc env).onRaise (fun x=>do noteFrame x env; theTreesLotGoes x)) _ _ s
 refine wpAny_noted ?_
 rw [compTurn_list]
 refine wpAny_bind (wpAny_standAt (wpAny_bind (wpAny_mono (turn n s hI) (fun r s₁ h₁=>?_) fun _ _ h'=>h')))
 cases r with
 | none=>exact wpAny_pure h₁
 | some v =>
  refine wpAny_bind (wpAny_mono h₁ (fun _ s₁' h₁'=>?_) fun _ _ h'=>False.elim h')
  refine wpAny_bind (wpAny_mono h₁' (fun _ s₂ h₂=>wpAny_bind (wpAny_mono h₂ (fun ok s₃ h₃=>?_) fun _ _ h'=>False.elim h')) fun _ _ h'=>False.elim h')
  cases ok with
  | false=>exact wpAny_pure ⟨rfl,h₃⟩
  | true =>
   exact wpAny_bind (wpAny_bind (wpAny_mono h₃ (fun x s₄ h₄=>wpAny_bind (wpAny_mono h₄ (fun _ s₅ h₅=>wpAny_pure (wpAny_pure ⟨rfl,h₅⟩)) fun _ _ h'=>False.elim h')) fun _ _ h'=>False.elim h'))
end
section
variable {X:Cx} {elt iter tg:PySem.Expr} {ifs:List PySem.Expr} {pos:Pos} {scope:Scope} {cl:List (Str×Addr)} {Nc:List Str} {cap:List (Nat×Nat)} {wi:TI} {g:TG} {tt:TT} {te:TE}
theorem comp_core {pins:List (Addr×Obj)} {s:Shared} {σ:St} {H:Hp} {Q:V->Hp->Prop} {pos':Pos} {use:Option (Value->Sem Unit)} {P:Value->Shared->Prop} (hc:X.calm=true) (hi:PI X tg iter wi) (S:CompScope X scope cl Nc cap)
  (hg:∀ C fp pins s H,PG (cxComp X scope cl C Nc fp pins s H) tg g) (ht:∀ C fp pins s H,PTs (cxComp X scope cl C Nc fp pins s H) ifs tt) (he:∀ C fp pins s H,PE (cxComp X scope cl C Nc fp pins s H) elt te)
  (hs:∀ y,foldedSetIterable iter X.env y=pure y) (I:Inv X pins σ H s) (h:tCompF Nc.length cap wi g tt te σ H Q)
  (fin:∀ (acc C:Addr) (H5:Hp) (s6:Shared) (m6:Str->Option Value),Inv X pins σ H5 s6->FpOk X pins H5 C->s6.heap.Ns C m6->Q (.ref acc) H5->compPost (model X.prog X.w) X.A X.xe use P (.ref acc) C (.ok .next) s6) :
  wpAny (model X.prog X.w) X.A (comprehension (.ListComp elt [⟨tg,iter,ifs,0⟩] scope pos) scope X.env pos' (newList []) false (eval iter X.env) use) P X.xe s:=by
 refine wpAny_comprehension_free (use:=use) (cl:=cl) rfl hs S.clos S.kind S.names ?_
 refine thn (hi pins s σ H _ I h) fun v s1 h1=>thn h1 fun itv s2 h2=>?_
 obtain ⟨it,fp,tn,J,H2,e,I2,T,st2,f2,rd⟩:=h2
 subst e
 refine wpAny_newObj_type ?_
 have hacc:H2 s2.heap.objs.size=none:=I2.hok.fresh (Nat.le_refl _)
 obtain ⟨W,⟨m0,w0⟩,turn⟩:=rd s2.heap.objs.size hacc
 have I3:Inv X pins σ (upd H2 s2.heap.objs.size (.lst [])) { s2 with heap:=s2.heap.push { cls:=.type "list",dict:=none,data:=.seq ([]:List Value).toArray } } :=
  I2.laid (t':=s2.toks) (fun b u e=>Heap.get?_push_of_some _ e) (Nat.le_refl _) ⟨Nat.zero_le _,[],0,.nil,Heap.get?_push_size _ rfl⟩
 have st3:tn 0 (s2.heap.push { cls:=.type "list",dict:=none,data:=.seq ([]:List Value).toArray }):=T.keep _ _ _ st2 fun b _ o e=>Heap.get?_push_of_some _ e
 have f3:∀ b∈fp,FpOk X pins (upd H2 s2.heap.objs.size (.lst [])) b:=fun b hb=>by
  obtain ⟨o,e,_⟩:=T.obj _ _ st2 b hb
  refine ⟨?_,(f2 b hb).2⟩
  rw [upd_ne (Nat.ne_of_lt (Heap.lt_size e))]
  exact (f2 b hb).1
 generalize hh3:s2.heap.push { cls:=.type "list",dict:=none,data:=.seq ([]:List Value).toArray }=h3 at I3 st3 ⊢
 generalize hH3:upd H2 s2.heap.objs.size (.lst [])=H3 at I3 f3 w0
 generalize s2.heap.objs.size=acc at *
 refine wpAny_newFunctionEnv S.nocell (by intro y hy; simp at hy) (fun h4 hns hsb=>?_) S.kind
 dsimp only at hns hsb ⊢
 have keep:∀ b o,h3.get? b=some o->h4.get? b=some o:=fun b o e=>hsb.extBut b o (Nat.ne_of_lt (Heap.lt_size e)) (Heap.get?_push_of_some _ e)
 have f0:∀ b∈fp,∃ o,h3.get? b=some o:=fun b hb=>by
  obtain ⟨o,e,_⟩:=T.obj _ _ st3 b hb
  exact ⟨o,e⟩
 have I4:=inv_comp (tk:=s2.toks+([]:List (Str×Value)).length) I3 hc S f3 f0 (C:=h3.objs.size) (Nat.le_refl _) hns keep
 have st4:tn 0 h4:=T.keep _ _ _ st3 fun b _ o e=>keep b o e
 have stat:∀ {H':Hp},(∀ b∈fp,H' b=none)->∀ b∈fp,FpOk (cxComp X scope cl h3.objs.size Nc fp pins { s2 with heap:=h3 } H3) [] H' b:=fun hn b hb=>by
  obtain ⟨o,e⟩:=f0 b hb
  refine ⟨hn b hb,Nat.ne_of_lt (Heap.lt_size e),I4.ok.exfs b hb,.inl hb,fun x c q=>(f3 b hb).2.2.2.2.1 x c (S.sub x c q).1,fun p hp=>?_⟩
  have z:p∈(X.pn++pins)++[]:=hp
  rw [List.append_nil] at z
  exact (f3 b hb).2.2.2.2.2 p z
 have loop:codeAny (model X.prog X.w) X.A (.compLoop (.ListComp elt [⟨tg,iter,ifs,0⟩] scope pos) 0 (.ref it) (.ref acc) (compEnvC scope cl h3.objs.size X.env)) (compPost (model X.prog X.w) X.A X.xe use P (.ref acc) h3.objs.size)
   { s2 with heap:=h4,toks:=s2.toks+([]:List (Str×Value)).length }:=by
  refine compLoop_any (fun n s'=>∃ i ys σ' H',Inv (cxComp X scope cl h3.objs.size Nc fp pins { s2 with heap:=h3 } H3) [] σ' H' s'∧tn i s'.heap∧(∀ b∈fp,H' b=none)∧W i n ys σ' H') ?_ m0 ⟨0,[],_,H3,I4,st4,fun b hb=>(f3 b hb).1,w0⟩
  rintro n s5 ⟨i,ys,σ5,H5,I5,st5,fr5,w5⟩
  rcases turn i n ys σ5 H5 w5 with ⟨stop,qn⟩ | ⟨go,step⟩
  ·refine thn (T.done (cxComp X scope cl h3.objs.size Nc fp pins { s2 with heap:=h3 } H3) rfl rfl rfl rfl i [] s5 σ5 H5 _ I5 (stat fr5) st5 stop) fun r s6 ⟨hr,I6⟩=>?_
   subst hr
   obtain ⟨m6,hn6,_⟩:=id I6.loc
   exact fin acc _ H5 s6 m6 (comp_back (h':=s6.heap) I3 f3 I6 ⟨rfl,fun _ _=>rfl⟩) (I3.fpOk (Nat.le_refl _) I6.free) hn6 qn
  ·refine wpAny_mono (T.item (cxComp X scope cl h3.objs.size Nc fp pins { s2 with heap:=h3 } H3) rfl rfl rfl rfl i [] s5 σ5 H5 (fun _ _=>False) I5 (stat fr5) st5 go) (fun r s6 ⟨u,hr,h6⟩=>?_) fun _ _ z=>False.elim z
   subst hr
   refine thn h6 fun _ s7 ⟨y,H7,I7,r7,y7,st7,fr7⟩=>?_
   have I7':=I7.pinned (stat fr7) (T.obj _ _ st7)
   have kp:∀ {σ8:St} {H8:Hp} {s8:Shared},Inv (cxComp X scope cl h3.objs.size Nc fp pins { s2 with heap:=h3 } H3) ([]++pinsAt fp s7.heap) σ8 H8 s8->tn (i+1) s8.heap∧∀ b∈fp,H8 b=none:=fun {σ8 H8 s8} I8 =>
    ⟨T.keep _ _ _ st7 fun b hb o e=>(I8.pin (b,o) (List.mem_append_right _ (List.mem_append_right _ (mem_pinsAt hb e)))).1,fun b hb=>by
     obtain ⟨o,e,d⟩:=T.obj _ _ st7 b hb
     exact (I8.pin (b,o) (List.mem_append_right _ (List.mem_append_right _ (mem_pinsAt hb e)))).2.1⟩
   refine thn (hg _ _ _ _ _ _ s7 σ5 H7 y u _ I7' r7 (step y H7 y7)) fun _ s8 ⟨σ8,H8,I8,q8⟩=>?_
   refine thn (ht _ _ _ _ _ _ s8 σ8 H8 _ I8 q8) fun ok s9 ⟨H9,I9,q9⟩=>?_
   cases ok with
   | false =>
    rw [if_neg Bool.false_ne_true] at q9 ⊢
    obtain ⟨m',hm,w'⟩:=q9
    obtain ⟨st9,fr9⟩:=kp I9
    exact ⟨m',hm,i+1,ys,σ8,H9,I9.unpinned,st9,fr9,w'⟩
   | true =>
    rw [if_pos rfl] at q9 ⊢
    refine thn (he _ _ _ _ _ _ s9 σ8 H9 _ I9 q9) fun w10 s10 ⟨v10,H10,I10,r10,e10,l10,m',hm,q10⟩=>?_
    refine thn (mt_append _ s10 σ8 H10 (.ref acc) [v10] (.ref acc) [w10] (fun _ H11=>W (i+1) m' (ys++[v10]) σ8 H11) I10 rfl (.cons r10 .nil) ⟨acc,ys,v10,rfl,rfl,e10,l10,q10⟩) fun _ s11 ⟨_,H11,I11,_,q11⟩=>?_
    obtain ⟨st11,fr11⟩:=kp I11
    exact ⟨m',hm,i+1,ys++[v10],σ8,H11,I11.unpinned,st11,fr11,q11⟩
 exact codeAny_compStart_list loop (T.self _ 0 _ _ _ st4 loop)
theorem pe_compG (hc:X.calm=true) (hi:PI X tg iter wi) (S:CompScope X scope cl Nc cap)
  (hg:∀ C fp pins s H,PG (cxComp X scope cl C Nc fp pins s H) tg g) (ht:∀ C fp pins s H,PTs (cxComp X scope cl C Nc fp pins s H) ifs tt) (he:∀ C fp pins s H,PE (cxComp X scope cl C Nc fp pins s H) elt te)
  (hs:∀ y,foldedSetIterable iter X.env y=pure y:=by intro _; rfl):PE X (.ListComp elt [⟨tg,iter,ifs,0⟩] scope pos) (tCompF Nc.length cap wi g tt te):=by
 intro pins s σ H Q I h
 rw [eval_ListComp]
 exact comp_core (use:=none) hc hi S hg ht he hs I h fun acc C H5 s6 m6 back fpC hn qn=>⟨m6,hn,fun h7 hs7=>⟨.ref acc,H5,back.turned (t':=s6.toks) (fun b o hb q=>(hs7.2 b hb).trans q) fpC.1 fpC.2.1 fpC.2.2.2.1 fpC.2.2.2.2.1 fpC.2.2.2.2.2,rfl,qn⟩⟩
theorem tCompF_nil {n:Nat}:tCompF n cap wi g (fun _ H Q=>Q true H) te=tComp n cap wi g te:=by
 unfold tCompF tComp
 simp only [if_true]
theorem pe_comp (hc:X.calm=true) (hi:PI X tg iter wi) (S:CompScope X scope cl Nc cap)
  (hg:∀ C fp pins s H,PG (cxComp X scope cl C Nc fp pins s H) tg g) (he:∀ C fp pins s H,PE (cxComp X scope cl C Nc fp pins s H) elt te)
  (hs:∀ y,foldedSetIterable iter X.env y=pure y:=by intro _; rfl):PE X (.ListComp elt [⟨tg,iter,[],0⟩] scope pos) (tComp Nc.length cap wi g te) :=
 tCompF_nil ▸ pe_compG (ifs:=[]) (pos:=pos) hc hi S hg (fun _ _ _ _ _=>pts_nil) he hs
theorem pe_compF {ct:PySem.Expr} (hc:X.calm=true) (hi:PI X tg iter wi) (S:CompScope X scope cl Nc cap)
  (hg:∀ C fp pins s H,PG (cxComp X scope cl C Nc fp pins s H) tg g) (ht:∀ C fp pins s H,PT (cxComp X scope cl C Nc fp pins s H) ct tt) (he:∀ C fp pins s H,PE (cxComp X scope cl C Nc fp pins s H) elt te)
  (hs:∀ y,foldedSetIterable iter X.env y=pure y:=by intro _; rfl):PE X (.ListComp elt [⟨tg,iter,[ct],0⟩] scope pos) (tCompF Nc.length cap wi g tt te) :=
 pe_compG hc hi S hg (fun C fp pins s H=>pts_one (ht C fp pins s H)) he hs
theorem ps_setCompG {i:Nat} {y:Str} {py spos:Pos} (hN:X.N.Nodup) (hiN:X.N[i]?=some y) (hy:Loc X.env.scope y)
  (hc:X.calm=true) (hi:PI X tg iter wi) (S:CompScope X scope cl Nc cap)
  (hg:∀ C fp pins s H,PG (cxComp X scope cl C Nc fp pins s H) tg g) (ht:∀ C fp pins s H,PTs (cxComp X scope cl C Nc fp pins s H) ifs tt) (he:∀ C fp pins s H,PE (cxComp X scope cl C Nc fp pins s H) elt te)
  (hsw:swapsWith (.ListComp elt [⟨tg,iter,ifs,0⟩] scope pos) (some (.Name y py)) spos.line X.env=pure true:=by rfl) (hs:∀ z,foldedSetIterable iter X.env z=pure z:=by intro _; rfl)
  (hf:X.fn y=true∨X.env.scope.names.lookup y=some .local:=by first | exact .inl rfl | exact .inr rfl | assumption) :
  PS X (.Assign [.Name y py] (.ListComp elt [⟨tg,iter,ifs,0⟩] scope pos) spos) (tAsg (tCompF Nc.length cap wi g tt te) (gName i)):=by
 intro pins s σ H D I h
 rw [exec_Assign_Name_used _ _ _ _ hsw]
 refine wpAny_bind (wpAny_standAt (wpAny_bind ?_))
 show wpAny _ X.A (do let _ ←comprehension (.ListComp elt [⟨tg,iter,ifs,0⟩] scope pos) scope X.env _ (newList []) false (eval iter X.env) (some (assign (.Name y py) X.env))) _ _ s
 refine wpAny_bind (wpAny_mono (comp_core (use:=some (assign (.Name y py) X.env)) (P:=fun _ s'=>SP X pins D .next s') hc hi S hg ht he hs I h fun acc C H5 s6 m6 back fpC hn6 qn=>?_) (fun _ s' hq=>wpAny_pure (wpAny_pure hq)) fun _ _ e=>e)
 show wpAny (model X.prog X.w) X.A (assign (.Name y py) X.env (.ref acc)) _ X.xe s6
 refine wpAny_assign_Name (store_ok2 (v:=.ref acc) back hN hiN hy rfl (fun s7 I7 ⟨a7,sb7,e7⟩=>?_) hf)
 have nC:C≠a7:=by
  rcases e7 with e7 | e7
  ·rw [e7]; exact fpC.2.1
  ·exact Ne.symm (fpC.2.2.2.2.1 _ _ e7)
 refine ⟨m6,hn6.sameBut sb7 nC,fun h8 hs8=>⟨_,H5,?_,qn⟩⟩
 exact I7.turned (t':=s7.toks) (fun b o hb q=>(hs8.2 b hb).trans q) fpC.1 fpC.2.1 fpC.2.2.2.1 fpC.2.2.2.2.1 fpC.2.2.2.2.2
theorem ps_setCompF {ct:PySem.Expr} {i:Nat} {y:Str} {py spos:Pos} (hN:X.N.Nodup) (hiN:X.N[i]?=some y) (hy:Loc X.env.scope y)
  (hc:X.calm=true) (hi:PI X tg iter wi) (S:CompScope X scope cl Nc cap)
  (hg:∀ C fp pins s H,PG (cxComp X scope cl C Nc fp pins s H) tg g) (ht:∀ C fp pins s H,PT (cxComp X scope cl C Nc fp pins s H) ct tt) (he:∀ C fp pins s H,PE (cxComp X scope cl C Nc fp pins s H) elt te)
  (hsw:swapsWith (.ListComp elt [⟨tg,iter,[ct],0⟩] scope pos) (some (.Name y py)) spos.line X.env=pure true:=by rfl) (hs:∀ z,foldedSetIterable iter X.env z=pure z:=by intro _; rfl)
  (hf:X.fn y=true∨X.env.scope.names.lookup y=some .local:=by first | exact .inl rfl | exact .inr rfl | assumption) :
  PS X (.Assign [.Name y py] (.ListComp elt [⟨tg,iter,[ct],0⟩] scope pos) spos) (tAsg (tCompF Nc.length cap wi g tt te) (gName i)) :=
 ps_setCompG hN hiN hy hc hi S hg (fun C fp pins s H=>pts_one (ht C fp pins s H)) he hsw hs hf
theorem ps_setComp {i:Nat} {y:Str} {py spos:Pos} (hN:X.N.Nodup) (hiN:X.N[i]?=some y) (hy:Loc X.env.scope y)
  (hc:X.calm=true) (hi:PI X tg iter wi) (S:CompScope X scope cl Nc cap)
  (hg:∀ C fp pins s H,PG (cxComp X scope cl C Nc fp pins s H) tg g) (he:∀ C fp pins s H,PE (cxComp X scope cl C Nc fp pins s H) elt te)
  (hsw:swapsWith (.ListComp elt [⟨tg,iter,[],0⟩] scope pos) (some (.Name y py)) spos.line X.env=pure true:=by rfl) (hs:∀ z,foldedSetIterable iter X.env z=pure z:=by intro _; rfl)
  (hf:X.fn y=true∨X.env.scope.names.lookup y=some .local:=by first | exact .inl rfl | exact .inr rfl | assumption) :
  PS X (.Assign [.Name y py] (.ListComp elt [⟨tg,iter,[],0⟩] scope pos) spos) (tAsg (tComp Nc.length cap wi g te) (gName i)) :=
 tCompF_nil ▸ ps_setCompG (ifs:=[]) hN hiN hy hc hi S hg (fun _ _ _ _ _=>pts_nil) he hsw hs hf
end
end L2
namespace L2
open PySem PySem.Spec PyProof.Rows
section
variable {X:Cx}
def Big (i:Int):Prop:=i.natAbs<2 ^ 8000
theorem big_log {i:Int} (h:Big i):i.natAbs.log2<8000:=by
 by_cases z:i.natAbs=0
 ·rw [z]; decide
 ·exact (Nat.log2_lt z).mpr h
theorem big_bits {i:Int} (h:Big i):Builtin.Int.intBits i≤8001:=by
 have:=big_log h
 unfold Builtin.Int.intBits
 split <;> omega
def CMulB (i j:Int):Prop:=Big i∧Big j
theorem op_mulB:OpR X (binaryOp .Mult) (rI CMulB fun i j=>.int (i*j)):=opI fun _ _ _ _ _ _ _ hc q=>mul_int q (IntMulOk.of_bits (Nat.le_trans (big_bits hc.1) (by decide)) (Nat.le_trans (big_bits hc.2) (by decide)))
def CDivB (_ j:Int):Prop:=j≠0∧Big j
theorem op_fdivB:OpR X (binaryOp .FloorDiv) (rI CDivB fun i j=>.int (i.fdiv j)):=opI fun _ _ _ _ _ _ _ hc q=>floordiv_int hc.1 q (.inl (PyProof.noPylong_of_log2 (by have:=big_log hc.2; omega)))
def Its (lo step:Int) (n:Nat):It:=⟨fun i _=>i<n,fun i H x H'=>H'=H∧x=.int (lo+i*step),fun i _=>n≤i⟩
theorem turn_step {P:Program} {w:World} {K:PySem.W.Frag} {tg:PySem.Expr} (it:Addr) (lo step:Int) (n:Nat):Turn P w K tg (Its lo step n) [it] it (fun i h=>IsRangeIter h it (lo+(i:Nat)*step) ((n:Int)-(i:Nat)) step) where
 mem:=by simp
 obj:=fun i h st b hb=>by
  obtain rfl:b=it:=by simpa using hb
  exact ⟨_,st,fun v z=>by
   have z':Data.fields _=Data.cell v:=z
   cases z'⟩
 keep:=fun i h h' st k=>k it (by simp) _ st
 item:=by
  intro X hP hw hK hc i pins s σ H E I hf st hg
  subst hP hw hK
  obtain ⟨f0,f1,f2,f3,f4,f5⟩:=hf it (by simp)
  have W:=Walks.range (prog:=X.prog) (w:=X.w) (I.ok.hd hc) it lo step n
  refine W.item i s _ _ hg st fun v h' tk hv st' kk=>?_
  obtain ⟨t,rfl⟩:=hv
  have I1:Inv X pins σ H { s with heap:=h',toks:=tk }:=I.turned (fun b o hb e=>kk b o (by simpa using hb) e) f0 f1 f3 f4 f5
  exact ⟨_,rfl,go_of (s:={ s with heap:=h',toks:=tk }) (n:="range_iterator") st' rfl rfl (by decide) ⟨.int (lo+i*step),H,I1,⟨t,rfl⟩,⟨rfl,rfl⟩,st',fun b hb=>(hf b hb).1⟩⟩
 done:=by
  intro X hP hw hK hc i pins s σ H E I hf st hg
  subst hP hw hK
  obtain ⟨f0,f1,f2,f3,f4,f5⟩:=hf it (by simp)
  exact wpAny_pyNext_range_end (I.ok.hd hc) st (by have:n≤i:=hg; omega) fun h' eb=>⟨rfl,I.turned (t':=s.toks) (fun b o hb e=>eb b o hb e) f0 f1 f3 f4 f5⟩
 self:=fun _ _ _ _ _ st h=>wpAny_pyIter_rangeiter st h
theorem for_step {lo step:Int} {n:Nat} {g:TG} {tb:TS} {D:Ends} {σ:St} {H:Hp} (Pv:Nat->St->Hp->Prop) (h0:Pv 0 σ H)
  (hs:∀ i σ H,i<n->Pv i σ H->g (.int (lo+i*step)) σ H fun σ2 H2=>tb { D with nx:=Pv (i+1),ct:=Pv (i+1),bk:=D.nx } σ2 H2) (hd:∀ σ H,Pv n σ H->D.nx σ H) :
  ∃ W:Nat->Nat->St->Hp->Prop,(∃ m,W 0 m σ H)∧∀ i m σ H,W i m σ H →
   ((Its lo step n).stop i H∧D.nx σ H)∨((Its lo step n).go i H∧∃ N:St->Hp->Prop,(∀ σ' H',N σ' H'->∃ m',m' < m∧W (i+1) m' σ' H')∧∀ x H',(Its lo step n).yld i H x H'->g x σ H' fun σ2 H2=>tb { D with nx:=N,ct:=N,bk:=D.nx } σ2 H2):=by
 refine ⟨fun i m σ H=>m=n-i∧i≤n∧Pv i σ H,⟨n,by simp,Nat.zero_le _,h0⟩,?_⟩
 rintro i m σ H ⟨rfl,hi,p⟩
 rcases Nat.lt_or_ge i n with hlt | hge
 ·refine .inr ⟨hlt,Pv (i+1),fun σ' H' p'=>⟨n-(i+1),by omega,rfl,hlt,p'⟩,fun x H' y=>?_⟩
  obtain ⟨e,y⟩:=y
  subst e y
  exact hs i σ _ hlt p
 ·obtain rfl:i=n:=by omega
  exact .inl ⟨Nat.le_refl _,hd σ H p⟩
end
end L2
namespace L2
open PySem PySem.Spec PyProof.Rows
theorem bt_tuple:bootBuiltins "tuple" = some (.type "tuple"):=by decide +kernel
theorem bt_len:bootBuiltins "len" = some (.builtin "len"):=by decide +kernel
theorem bt_abs:bootBuiltins "abs" = some (.builtin "abs"):=by decide +kernel
theorem bt_min:bootBuiltins "min" = some (.builtin "min"):=by decide +kernel
section
variable {X:Cx}
end
end L2
namespace L2
open PySem PySem.Spec PyProof.Rows PySem.W
abbrev excD (C t:Addr) (od:Option Addr):Obj:={ cls:=.ref C,dict:=od,data:=.fields #[.ref t,.none,.none,.none,.bool false,.none] }
section
variable {M:Model} {A:Around} {E:Value->Shared->Prop} {env:Env} {nm qn:Str} {C N:Addr} {bs tl:List Value} {hdct:Bool} {sn:List Str} {sub:List Value} {ab:Bool} {col:Option Bool} {dd:Option Addr} {k0 k1 k2 k3 k5:Option Value} {newId:String}
abbrev ClsE (nm qn:Str) (C N:Addr) (bs tl:List Value) (hdct:Bool) (sn:List Str) (sub:List Value) (ab:Bool) (col:Option Bool) (dd:Option Addr) (k0 k1 k2 k3 k5:Option Value) (newId:String):Obj:=excClassObj nm qn C N bs tl hdct sn sub ab col dd k0 k1 k2 k3 k5 newId
theorem raise_stmtD {s:Shared} {x:Sem Value} {Q:Flow->Shared->Prop} (hb:tl.contains (.type "BaseException")=true) (hh:A.handled=none)
  (h:wpAny M A x (fun v s1=>∃ e t od,v=.ref e∧s1.heap.get? C=some (ClsE nm qn C N bs tl hdct sn sub ab col dd k0 k1 k2 k3 k5 newId)∧s1.heap.get? e=some (excD C t od)∧E (.ref e) s1) E s) :
  wpAny M A (raiseStmt env (some x) none) Q E s:=by
 have hcB:(Value.ref C :: tl).contains (.type "BaseException")=true:=by rw [List.contains_cons,hb]; exact Bool.or_true _
 unfold raiseStmt
 refine wpAny_bind (wpAny_mono h (fun v s1 hv=>?_) fun _ _ z=>z)
 obtain ⟨e,t,od,rfl,hC,he,hE⟩:=hv
 obtain ⟨hp,g,d,tk,os⟩:=s1
 repeat (first | with_reducible refine wpAny_loadPart_at he ?_ | with_reducible refine wpAny_loadPart_at hC ?_ | (with_reducible refine wpAny_isSubtype_exc hC ?_; rw [hcB]) | wp_step)
 exact wpAny_raiseNew_none hh hE
end
section
variable {prog:Program} {w:World} {A:Around} {E:Value->Shared->Prop} {s:Shared} {env:Env} {nm qn:Str} {C N:Addr} {bs tl bmB:List Value} {hdct:Bool} {sn:List Str} {sub:List Value} {ab:Bool} {col:Option Bool} {dd:Option Addr} {k0 k1 k2 k3 k5:Option Value} {B newId initId:String}
theorem type_callI (F:ExcBaseFacts B newId initId bmB) (T:OwnTail s.heap bmB tl) {mN:Str->Option Value} {rest:List Value} {fI:Addr} {oI:Obj} {Q:Fin->Shared->Prop}
  (hC:s.heap.get? C=some (ClsE nm qn C N bs tl hdct sn sub ab col dd k0 k1 k2 k3 k5 newId)) (hn:s.heap.Ns N mN) (hi:mN "__init__" = some (.ref fI)) (hfI:s.heap.get? fI=some oI) (hfc:oI.cls=.type "function")
  (hq:∀ h' e t,Heap.MadeExcOf s.heap h' e (.ref C) rest->h'.get? e=some (excD C t none) →
   wpAny (model prog w) A (call (.ref fI) (.ref e :: rest)) (fun r s'=>r=.none∧Q (.done (.ret (.ref e))) s') E { s with heap:=h' }) (hrest:rest.length≤sizeLine) :
  wpAny (model prog w) A (Builtin.«type.__call__» ⟨.ref C :: rest,[]⟩) Q E s:=by
 obtain ⟨h,g,d,t,os⟩:=s
 dsimp only at T hC hn hfI hq
 repeat (first | with_reducible refine wpAny_loadPart_at hC ?_ | with_reducible refine wpAny_madeBy_exc hC ?_ | wp_step)
 refine codeAny_call_builtin_code (Code.quiet_builtin _ F.quiet) (wpAny_check_new_subT F T hC (codeAny_exc_new_subT F T hC ?_ hrest))
 obtain ⟨h2,eh2⟩:∃ h2,h2=(h.push { cls:=.type "tuple",data:=.seq rest.toArray }).push (excD C h.objs.size none):=⟨_,rfl⟩
 have kp:∀ b o,h.get? b=some o->h2.get? b=some o:=fun b o e=>by rw [eh2]; exact Heap.get?_push_of_some _ (Heap.get?_push_of_some _ e)
 have hget:h2.get? (h.objs.size+1)=some (excD C h.objs.size none):=by rw [eh2]; heap_get
 have htup:h2.get? h.objs.size=some { cls:=.type "tuple",data:=.seq rest.toArray }:=by rw [eh2]; exact Heap.get?_push_of_some _ (Heap.get?_push_at rfl rfl)
 show wpAny _ _ _ _ _ ⟨(h.push { cls:=.type "tuple",data:=.seq rest.toArray }).push (excD C h.objs.size none),g,d,t,os⟩
 rw [←eh2]
 clear eh2
 have hC2:=kp _ _ hC
 have hn2:=hn.keeps kp
 have hcC:(Value.ref C :: tl).contains (.ref C)=true:=by simp
 unfold isInstance
 repeat (first | with_reducible refine wpAny_loadPart_at hget ?_ | (with_reducible refine wpAny_isSubtype_exc hC2 ?_; rw [hcC]) | wp_step)
 show wpAny _ _ (typeLookup (.ref C) _) _ _ _
 refine wpAny_typeLookup_tail hC2 hn2 (T.keeps kp) F.mroIs F.init.lookup ?_
 rw [hi]
 refine wpAny_holding (wpAny_bind ?_)
 unfold bindSpecial
 refine wpAny_bind (wpAny_typeOf (T:="function") ⟨_,kp _ _ hfI,hfc⟩ ?_)
 rw [if_pos (by decide)]
 refine wpAny_pure (wpAny_bind (wpAny_mono (hq h2 (h.objs.size+1) h.objs.size ⟨kp,Heap.get?_none_of_le (Nat.le_succ _),h.objs.size,hget,Heap.get?_none_of_le (Nat.le_refl _),htup⟩ hget) (fun r s' hr=>?_) fun _ _ x=>x))
 obtain ⟨rfl,hQ⟩:=hr
 wp_walk
 exact hQ
theorem call_excI (F:ExcBaseFacts B newId initId bmB) (T:OwnTail s.heap bmB tl) {mN:Str->Option Value} {rest:List Value} {fI:Addr} {oI:Obj} {Q:Value->Shared->Prop}
  (hC:s.heap.get? C=some (ClsE nm qn C N bs tl hdct sn sub ab col dd k0 k1 k2 k3 k5 newId)) (hn:s.heap.Ns N mN) (hi:mN "__init__" = some (.ref fI)) (hfI:s.heap.get? fI=some oI) (hfc:oI.cls=.type "function")
  (hq:∀ h' e t,Heap.MadeExcOf s.heap h' e (.ref C) rest->h'.get? e=some (excD C t none) →
   wpAny (model prog w) (A.under (.builtin "type.__call__" ⟨.ref C :: rest,[]⟩)) (call (.ref fI) (.ref e :: rest)) (fun r s'=>r=.none∧Q (.ref e) s') E { s with heap:=h' }) (hrest:rest.length≤sizeLine) :
  wpAny (model prog w) A (call (.ref C) rest) Q E s:=by
 obtain ⟨h,g,d,t,os⟩:=s
 dsimp only at T hC hn hfI hq
 have f1:=tc_lookup
 have f2:=tc_bind (.ref C)
 have hT:(⟨h,g,d,t,os⟩:Shared).TypeIs (.ref C) "type":=⟨_,hC,rfl⟩
 refine wpAny_call (codeAny_of_tree ?_)
 show wpAny _ _ (callAny (.ref C) _) _ _ _
 repeat (any_goals (first | assumption | with_reducible refine wpAny_loadPart_at hC ?_ | wp_step))
 refine ⟨rfl,codeAny_call_builtin_at (Code.quiet_builtin _ (by decide +kernel)) entry_typeCall (wpAny_check_type_call_sub hC (type_callI F T hC hn hi hfI hfc (fun h' e t' hm ht=>?_) hrest))⟩
 exact hq h' e t' hm ht
theorem raise_callI (F:ExcBaseFacts B newId initId bmB) {mN:Str->Option Value} {x:Str} {np cpos pos:Pos} {args:List PySem.Expr} {fI:Addr} {oI:Obj} {Q:Flow->Shared->Prop} (hb:tl.contains (.type "BaseException")=true) (hh:A.handled=none)
  (hpl:(backTo cpos (starEach args env)).any (·.1)=false) (hi:mN "__init__" = some (.ref fI)) (hfc:oI.cls=.type "function")
  (h:wpAny (model prog w) A (eval (.Name x np) env) (fun f s1=>f=.ref C∧wpAny (model prog w) A (evalArgs (.ref C) true (backTo cpos (starEach args env)) [])
   (fun a s2=>a.kw=[]∧a.pos.length≤sizeLine∧s2.heap.get? C=some (ClsE nm qn C N bs tl hdct sn sub ab col dd k0 k1 k2 k3 k5 newId)∧s2.heap.Ns N mN∧OwnTail s2.heap bmB tl∧s2.heap.get? fI=some oI ∧
    ∀ h' e t,Heap.MadeExcOf s2.heap h' e (.ref C) a.pos->h'.get? e=some (excD C t none) →
     wpAny (model prog w) (A.under (.builtin "type.__call__" ⟨.ref C :: a.pos,[]⟩)) (call (.ref fI) (.ref e :: a.pos)) (fun r s'=>r=.none∧(∃ od,s'.heap.get? e=some (excD C t od))∧s'.heap.get? C=some (ClsE nm qn C N bs tl hdct sn sub ab col dd k0 k1 k2 k3 k5 newId)∧E (.ref e) s') E { s2 with heap:=h' }) E s1) E s) :
  wpAny (model prog w) A (exec (.Raise (some (.Call (.Name x np) args [] cpos)) none pos) env) Q E s:=by
 rw [arm_exec_Raise]
 refine wpAny_bind (wpAny_standAt (raise_stmtD (C:=C) (nm:=nm) (qn:=qn) (N:=N) (bs:=bs) (tl:=tl) (hdct:=hdct) (sn:=sn) (sub:=sub) (ab:=ab) (col:=col) (dd:=dd) (k0:=k0) (k1:=k1) (k2:=k2) (k3:=k3) (k5:=k5) (newId:=newId) hb hh ?_))
 refine wpAny_bind (wpAny_mono (wpAny_Call_ofName (wpAny_mono h (fun f s1 h1=>?_) fun _ _ x=>x)) (fun v s3 h3=>wpAny_bind (wpAny_standAt (wpAny_pure h3))) fun _ _ x=>x)
 obtain ⟨rfl,h1⟩:=h1
 unfold callWith
 refine wpAny_bind (wpAny_holding (wpAny_mono h1 (fun a s2 h2=>wpAny_bind (wpAny_standAt ?_)) fun _ _ x=>x))
 obtain ⟨apos,akw⟩:=a
 obtain ⟨hkw,hlen,hC,hn,T,hfI,h2⟩:=h2
 obtain rfl:akw=[]:=hkw
 simp only [hpl]
 obtain ⟨hp,g,d,tk,os⟩:=s2
 refine wpAny_bind (wpAny_keeperOf_exc hC ?_)
 refine wpAny_bind (call_excI (s:=⟨hp,g,d,tk,os⟩) F T hC hn hi hfI hfc (fun h' e t hm ht=>wpAny_mono (h2 h' e t hm ht) (fun r s' hr=>⟨hr.1,wpAny_bind (wpAny_holding (wpAny_point (wpAny_pure ?_)))⟩) fun _ _ z=>z) hlen)
 obtain ⟨_,⟨od,h4⟩,h5,h6⟩:=hr
 exact ⟨e,t,od,rfl,h5,h4,h6⟩
end
end L2
namespace L2
open PySem PySem.Spec PyProof.Rows PySem.W
def exMro:List Value->Bool
 | [.type a,.type b,.type c,.type d]=>a == "ValueError" && b == "Exception" && c == "BaseException" && d == "object"
 | .ref _ :: r=>exMro r
 | _=>false
def exIn (K:Frag) (C:Addr):Bool:=(clsIn K C).any fun cd=>cd.hasDict && exMro cd.mro
theorem exMro_spec:∀ {l:List Value},exMro l=true->(∀ self,refuseLoop self "__setattr__" l=pure ())∧l.contains (.type "object")=true∧l.isEmpty=false
 | [.type a,.type b,.type c,.type d],e=>by
  have e':(a == "ValueError" && b == "Exception" && c == "BaseException" && d == "object")=true:=e
  simp only [Bool.and_eq_true,beq_iff_eq] at e'
  obtain ⟨⟨⟨rfl,rfl⟩,rfl⟩,rfl⟩:=e'
  exact ⟨PySem.F.store_ValueError.passes,by decide,rfl⟩
 | .ref c :: r,e=>by
  have e':exMro r=true:=by
   unfold exMro at e
   exact e
  obtain ⟨h1,h2,_⟩:=exMro_spec (l:=r) e'
  exact ⟨fun self=>by rw [refuseLoop_ref]; exact h1 self,by rw [List.contains_cons,h2,Bool.or_true],rfl⟩
section
variable {prog:Program} {w:World} {A:Around} {E:Value->Shared->Prop} {s:Shared} {K:Frag} {x C:Addr} {ox:Obj} {name:Str} {v:Value}
theorem xset {Q:Unit->Shared->Prop} (X:K.In s.heap) (hx:s.heap.get? x=some ox) (hcl:ox.cls=.ref C) (hdn:ox.dict=none) (hno:notCls ox=true)
  (hs:findIn K (.ref C) "__setattr__" = some (some (.builtin "object.__setattr__"))) (hm:exIn K C=true) (hn:findIn K (.ref C) name=some none)
  (h:∀ h' d tk,s.heap.get? d=none->h'.get? x=some { ox with dict:=some d }->h'.Ns1 d (fun y=>if y=name then some v else none)->(∀ b o,b≠x->s.heap.get? b=some o->h'.get? b=some o)->Q () { s with heap:=h',toks:=tk }) :
  wpAny (model prog w) A (setAttr (.ref x) name v) Q E s:=by
 have I:InstAt s.heap x ox C none:=⟨hx,hcl,hno,by rw [hdn]; trivial⟩
 obtain ⟨cd,hc,hcd⟩:=any_some hm
 rw [Bool.and_eq_true] at hcd
 obtain ⟨hhd,hmro⟩:=hcd
 obtain ⟨m1,m2,m3⟩:=exMro_spec hmro
 have SF:=PySem.F.store_object
 refine set_plain X I hs ?_
 obtain ⟨hp,g,d,tk,os⟩:=s
 dsimp only at X hx I h ⊢
 have sub:Looks (model prog w) hp (isInstance (.ref x) (.type "object")) true:=I.type.andThen (looks_mroIn X (by unfold mroIn; rw [hc,Option.bind_some,if_neg (by rw [m3]; decide),m2]))
 refine codeAny_call_builtin SF.slot.plain SF.entry (@check_slot (model prog w) _ _ ⟨hp,g,d,tk+1,os⟩ "object.__setattr__" "object" "__setattr__" (.ref x) [.str name tk,v] [] _ SF.kind SF.split sub (SF.args (.ref x) (.str name tk) v) ?_)
 have hmo:Looks (model prog w) hp (mroOf (.ref C)) cd.mro:=(looks_clsIn X hc).andThen .now
 rw [osa_eq,refuse_eq]
 refine wpAny_bind (wpAny_bind (I.type.at (wpAny_bind (hmo.at ?_))))
 rw [m1]
 refine wpAny_pure (wpAny_bind (I.type.at (wpAny_bind ((looks_findIn X hn).at (wpAny_bind (Looks.now.at ?_))))))
 show wpAny _ _ (Builtin.ObjectAttr.storeInOwnDict (.ref x) (.ref C) (.str name tk) name v false) _ _ _
 obtain ⟨oc,od,oda,osl⟩:=ox
 dsimp only at hcl hdn
 subst hcl
 subst hdn
 refine wpAny_bind (wpAny_pure (wpAny_bind (wpAny_bind (wpAny_loadPart hx (wpAny_bind ((looks_clsIn X hc).at ?_))))))
 rw [hhd]
 have hx1:(hp.push { cls:=.type "dict",data:=.dict #[] }).get? x=some ⟨.ref C,none,oda,osl⟩:=Heap.get?_push_of_some _ hx
 have hxs:x≠hp.objs.size:=Nat.ne_of_lt (Heap.lt_size hx)
 have hfr:=(Heap.get?_some_iff.mp hx).2
 have hx2:((hp.push { cls:=.type "dict",data:=.dict #[] }).update x fun o=>{ o with dict:=some hp.objs.size }).get? x=some ⟨.ref C,some hp.objs.size,oda,osl⟩:=Heap.get?_update_self _ hx1 (by cases oda <;> first | rfl | exact hfr)
 have hgd:((hp.push { cls:=.type "dict",data:=.dict #[] }).update x fun o=>{ o with dict:=some hp.objs.size }).get? hp.objs.size=some { cls:=.type "dict",data:=.dict #[] }:=(Heap.get?_update_ne _ _ _ _ hxs.symm).trans (Heap.get?_push_at rfl rfl)
 have hko:∀ b o,b≠x->hp.get? b=some o->((hp.push { cls:=.type "dict",data:=.dict #[] }).update x fun o=>{ o with dict:=some hp.objs.size }).get? b=some o:=fun b o n e=>(Heap.get?_update_ne _ _ _ _ n).trans (Heap.get?_push_of_some _ e)
 have fin:wpAny (model prog w) A.in1 (Builtin.ObjectAttr.storeInDict hp.objs.size (.str name tk) name v) (fun fin s'=>match fin with
   | .done f=>(match (Except.ok f:Result) with | .ok (.ret _)=>Q () s' | .ok _=>False | .error e=>E e s')
   | .again c'=>c'.quiet=true∧codeAny (model prog w) A c' (fun r s'=>match r with | .ok (.ret _)=>Q () s' | .ok _=>False | .error e=>E e s') s') (fun e s'=>E e s')
   ⟨(hp.push { cls:=.type "dict",data:=.dict #[] }).update x fun o=>{ o with dict:=some hp.objs.size },g,d,tk+1,os⟩:=by
  have hnd:((hp.push { cls:=.type "dict",data:=.dict #[] }).update x fun o=>{ o with dict:=some hp.objs.size }).Ns hp.objs.size (fun _=>none):=⟨_,#[],_,hgd,rfl,fun e he=>absurd he (by simp),fun _=>rfl⟩
  unfold Builtin.ObjectAttr.storeInDict Builtin.ObjectAttr.newKeyGuard
  refine wpAny_bind (wpAny_pure (wpAny_bind (wpAny_nsSet1 (Heap.Ns1.of_empty hnd) fun h' hn' hs=>?_)))
  obtain ⟨oD,esD,epD,hoD,hdD,hcD⟩:=hn'.count (Within.cons name v Within.nil)
  refine wpAny_bind (wpAny_lookBehind hoD (by rw [hdD]; exact pastItsLine_dict (Nat.le_trans hcD (by rw [List.length_cons,List.length_nil,sizeLine_eq]; omega))) ?_)
  refine wpAny_pure ?_
  exact h h' hp.objs.size _ (Heap.get?_none_of_le (Nat.le_refl _)) ((hs.2 x hxs).trans hx2) hn' fun b o n e=>(hs.2 b (Nat.ne_of_lt (Heap.lt_size e))).trans (hko b o n e)
 cases oda with
 | cls c=>cases hno
 | _ =>
  refine wpAny_bind (wpAny_alloc' ?_)
  refine wpAny_bind (wpAny_update' hx1 ?_)
  exact wpAny_pure fin
end
end L2
namespace L2
open PySem PySem.Spec PyProof.Rows
def tTry0 (K:PySem.W.Frag) (C:Addr) (tb:TXS) (th:Addr->TS):TS:=fun D σ H=>tb D σ H fun cls _ H'=>PySem.W.exmOne K cls (.ref C)=some true∧∀ a,H' a=none->th a D σ (upd H' a (excO a cls))
theorem ps_try0 {X:Cx} {body:List Stmt} {y:Str} {C:Addr} {b0:Stmt} {suite:List Stmt} {tb:TXS} {th:Addr->TS} {np hpos pos:Pos} (hg:Gl X y) (hm:X.mg y=some (.ref C))
  (hst:X.stack=X.env :: X.outer) (hfr:X.env.frame=some X.env.locals)
  (hb:PXS X body tb) (hs:∀ a,PSs (marked X a).nox (b0 :: suite) (th a)) (hdb:(y == ("__debug__":Str))=false:=by decide) :
  PS X (.Try body [.ExceptHandler (some (.Name y np)) none (b0 :: suite) hpos] [] [] pos) (tTry0 X.K C tb th):=by
 intro pins s σ H D I h
 refine wpAny_Try_except (wpAny_mono (hb pins s σ H D _ _ I h ?_) (fun f s1 q=>?_) fun _ _ z=>z)
 rotate_left
 ·cases f with
  | next=>exact wpAny_execs_nil q
  | ret v=>exact q
  | brk=>exact q
  | cont=>exact q
 intro a cls H' s' ⟨B,t,fl,nH,inv⟩ ⟨hq,rd⟩
 rw [hst] at fl inv
 refine wpAny_looks_onW (hst ▸ I.ok.frames) hfr fl fun h4 held4 up4=>?_
 refine wpAny_landsW held4 fun h5 fl5 up5=>?_
 have up45:=up4.trans up5
 have I5:=(inv h5 fl5 up45).1
 refine wpAny_handleBy_cons (codeAny_handlers_test ?_) (by intro z; cases z)
 refine ld_glob (inv_marked I5 a) hg hm ?_ hdb
 obtain ⟨ob,hob,hoc⟩:=fl5.there
 have LT:PySem.W.Looks (model X.prog X.w) h5 (typeOf (.ref a)) cls:=hoc ▸ (PySem.W.Looks.ld hob).andThen .now
 refine (PySem.W.exm_one (I5.kIn) LT hq).at (codeAny_handlers_suite ?_)
 refine lands_againW fl5 fun h6 fl6 up6=>?_
 have I6:=(inv h6 fl6 (up45.trans up6)).2
 refine wpAny_mono (hs a pins _ _ _ _ (Inv.wish (inv_marked I6 a) (fun _ _=>False)) (rd a nH)) (fun f s8 q8=>?_) fun _ _ z=>False.elim z
 cases f with
 | next =>
  obtain ⟨σ8,H8,I8,d8⟩:=q8
  exact ⟨_,H8,inv_back I.ok (Inv.unwish I8),d8⟩
 | brk =>
  obtain ⟨σ8,H8,I8,d8⟩:=q8
  exact ⟨_,H8,inv_back I.ok (Inv.unwish I8),d8⟩
 | cont =>
  obtain ⟨σ8,H8,I8,d8⟩:=q8
  exact ⟨_,H8,inv_back I.ok (Inv.unwish I8),d8⟩
 | ret u =>
  obtain ⟨v,σ8,H8,I8,rv,d8⟩:=q8
  exact ⟨v,_,H8,inv_back I.ok (Inv.unwish I8),rv,d8⟩
end L2
namespace L2
open PySem PySem.Spec PyProof.Rows
section
variable {X:Cx}
end
end L2
namespace L2
open PySem PySem.Spec PyProof.Rows
section
variable {prog:Program} {w:World} {A:Around} {E:Value->Shared->Prop} {s:Shared}
theorem nextT_item {c t:Addr} {k:Nat} {vs:Array Value} {y:Value} {Q:Value->Shared->Prop} (hc:s.heap.IsTupleIter c t k) (ht:s.heap.IsTuple t vs) (hy:vs[k]?=some y)
  (hQ:∀ h',h'.IsTupleIter c t (k+1)->Heap.SameBut c s.heap h'->Q y { s with heap:=h' }):wpAny (model prog w) A (Builtin.SmallTypes.nextOf (.ref c)) Q E s:=by
 obtain ⟨ob,e1,e2,e3⟩:=id hc
 obtain ⟨ot,f1,_,nt,f2⟩:=ht
 unfold Builtin.SmallTypes.nextOf
 refine wpAny_bind (wpAny_callSpecial?_slot (name:=Str.ofString "__next__") hc.typeIs PySem.F.slot_tuple_iterator_next (wpAny_call_entry PySem.F.slot_tuple_iterator_next hc.typeIs PySem.F.entry_tuple_iterator_next ?_ (PySem.F.args_tuple_iterator_next_1 _)))
 show wpAny _ _ (field (.ref c) 0 >>= _) _ _ s
 refine wpAny_bind (wpAny_field e1 e3 (x:=.ref t) rfl ?_)
 show wpAny _ _ (if (Value.ref t == Value.none)=true then _ else _) _ _ _
 rw [if_neg (show ¬ ((Value.ref t == Value.none)=true) by exact Bool.false_ne_true)]
 show wpAny _ _ (field (.ref c) 1 >>= _) _ _ s
 refine wpAny_bind (wpAny_field e1 e3 (x:=.int k 0) rfl ?_)
 show wpAny _ _ (seqItems? (.ref t) >>= _) _ _ _
 refine wpAny_bind (wpAny_seqItems f1 f2 ?_)
 simp only [Int.toNat_natCast,hy]
 refine wpAny_bind (wpAny_setField e1 e3 (by simp) (wpAny_pure ⟨y,rfl,wpAny_pure (hQ _ ?_ (Heap.SameBut.update ..))⟩))
 exact ⟨_,Heap.get?_update_self _ e1 (Obj.isFreed_of_fields (Obj.data_mapFields e3 _)),(Obj.cls_mapFields ..).trans e2,by rw [Obj.data_mapFields e3]; simp [rawInt]⟩
theorem nextT_end {c t:Addr} {k:Nat} {vs:Array Value} {Q:Value->Shared->Prop} (hh:A.handled=none) (hc:s.heap.IsTupleIter c t k) (ht:s.heap.IsTuple t vs) (hy:vs[k]?=none)
  (hE:∀ h' x,Heap.ExtBut c s.heap h'->(∃ o,h'.get? x=some o∧o.cls=.type "StopIteration")->E (.ref x) { s with heap:=h' }):wpAny (model prog w) A (Builtin.SmallTypes.nextOf (.ref c)) Q E s:=by
 obtain ⟨ob,e1,e2,e3⟩:=id hc
 obtain ⟨ot,f1,_,nt,f2⟩:=ht
 unfold Builtin.SmallTypes.nextOf
 refine wpAny_bind (wpAny_callSpecial?_slot (name:=Str.ofString "__next__") hc.typeIs PySem.F.slot_tuple_iterator_next (wpAny_call_entry PySem.F.slot_tuple_iterator_next hc.typeIs PySem.F.entry_tuple_iterator_next ?_ (PySem.F.args_tuple_iterator_next_1 _)))
 show wpAny _ _ (field (.ref c) 0 >>= _) _ _ s
 refine wpAny_bind (wpAny_field e1 e3 (x:=.ref t) rfl ?_)
 show wpAny _ _ (if (Value.ref t == Value.none)=true then _ else _) _ _ _
 rw [if_neg (show ¬ ((Value.ref t == Value.none)=true) by exact Bool.false_ne_true)]
 show wpAny _ _ (field (.ref c) 1 >>= _) _ _ s
 refine wpAny_bind (wpAny_field e1 e3 (x:=.int k 0) rfl ?_)
 show wpAny _ _ (seqItems? (.ref t) >>= _) _ _ _
 refine wpAny_bind (wpAny_seqItems f1 f2 ?_)
 simp only [Int.toNat_natCast,hy]
 refine wpAny_bind (wpAny_rule (wpAny_bind (wpAny_setField e1 e3 (by simp) ?_)))
 show wpAny _ _ (newExc (.type "StopIteration") [] >>= _) _ _ (_:Shared)
 refine wpAny_bind ?_
 simp only [newExc,newTuple]
 refine wpAny_bind (wpAny_newObj_type ?_ (by size_fits)); refine wpAny_bind (m:=firstArgMember _ _) (wpAny_of_eq (a:=Value.none) (by first | rfl | (simp only [firstArgMember]; rfl)) ?_)
 refine wpAny_newObj_type ?_ (by size_fits); simp only [raiseNew]
 refine wpAny_bind (wpAny_handled ?_); first | rw [show A.in1.handled=none from hh] | rw [hh]
 refine wpAny_bind (wpAny_pure (wpAny_throw (hE _ _ (((Heap.SameBut.update ..).extBut.push _).push _) ⟨_,Heap.get?_push_size _ rfl,rfl⟩)))
end
section
variable {X:Cx}
def rInsert:V->List V->Hp->VK->Prop:=fun x vs H Q=>∃ l xs k y,x=.ref l∧vs=[.int k,y]∧H l=some (.lst xs)∧0≤k∧k≤xs.length∧xs.length<1000000∧Q .non (upd H l (.lst (xs.take k.toNat++y :: xs.drop k.toNat)))
theorem mt_insert:MtM X "list.insert" rInsert:=by
 intro pins s σ H x vs v us Q I rx rv h
 obtain ⟨l,xs,k,y,rfl,rfl,hH,k0,k1,hz,q⟩:=h
 cases rx
 obtain ⟨u1,u2,rfl,r1,r2⟩:=vals2 rv
 obtain ⟨t,rfl⟩:=r1
 obtain ⟨z,its,n,r,hl,e⟩:=I.lstM hH
 have hzs:its.length≤sizeLine:=by rw [←hl]; exact z
 have hfit:¬ (!Builtin.List.listFitsIndex k)=true:=by
  unfold Builtin.List.listFitsIndex
  simp only [Bool.not_eq_true,Bool.not_eq_false',Bool.and_eq_true,decide_eq_true_eq]
  omega
 refine call_meets PySem.F.slot_list_insert ⟨_,e,rfl⟩ PySem.F.entry_list_insert (PySem.F.args_list_insert_3 _ _ _) (AutoSeq1.list_insert_list_int_val_1 l its.toArray n k t u2 hfit (by rw [List.size_toArray]; exact hzs)) ⟨e,?_⟩
 refine ⟨.non,_,I.lset (its':=its.take k.toNat++u2 :: its.drop k.toNat) hH e ?_ ((r.take _).append (.cons r2 (r.drop _))) ?_,rfl,q⟩
 ·have hk:¬ k<0:=by omega
  have hm:min k.toNat its.toArray.size=k.toNat:=by rw [List.size_toArray]; omega
  simp only [if_neg hk,hm]
  apply Array.toList_inj.mp
  simp
  exact List.take_of_length_le (by simp)
 ·rw [List.length_append,List.length_cons,List.length_take,List.length_drop]
  rw [sizeLine_eq] at *
  omega
theorem call_minT (hc:X.calm=true):CallR X (.builtin "min") (fun xs H Q=>∃ (p:Addr) (ns:List Int),xs=[.ref p]∧H p=some (.tup (ns.map V.int))∧0<ns.length∧∀ m,m∈ns->(∀ a∈ns,m≤a)->Q (.int m) H):=by
 intro pins s σ H xs us Q I r h
 obtain ⟨p,ns,rfl,hp,hne,q⟩:=h
 obtain ⟨u,rfl,r1⟩:=vals1 r
 cases r1
 obtain ⟨its,rv,pa,_⟩:=I.tuple (SqT.of (K:=X.K) hp)
 have hlen:its.length=ns.length:=by rw [←rv.length,List.length_map]
 have hlt:p<s.heap.objs.size:=by
  obtain ⟨o,ho,_⟩:=id pa
  exact Heap.lt_size ho
 have num:∀ i v,its.toArray[i]?=some v->∃ t,v=.int (ns.getD i 0) t∧i<ns.length:=fun i v hv=>by
  rw [List.getElem?_toArray] at hv
  have hi:i<its.length:=(List.getElem?_eq_some_iff.mp hv).1
  have hi2:i<ns.length:=by omega
  have hx:(ns.map V.int)[i]?=some (.int ns[i]):=by rw [List.getElem?_map,List.getElem?_eq_getElem hi2]; rfl
  obtain ⟨u,hu,ru⟩:=rv.get hx
  rw [hu] at hv
  obtain rfl:u=v:=Option.some.inj hv
  obtain ⟨t,rfl⟩:=ru
  exact ⟨t,by rw [List.getD_eq_getElem?_getD,List.getElem?_eq_getElem hi2]; rfl,hi2⟩
 refine call_min_walk (wpAny_pyIter_tuple pa ?_)
 refine ⟨s.heap.objs.size,_,_,_,_,_,fun i j=>decide (ns.getD i 0<ns.getD j 0),rfl,Walks.tuple (show X.A.in1.handled=none from I.ok.hd hc) _ p (Nat.ne_of_lt hlt) its.toArray,⟨⟨_,Heap.get?_push_size _ rfl,rfl,rfl⟩,pa.push _⟩,fun b hb=>?_,by rw [List.size_toArray]; omega,fun i j vi vj s' Q' E' hi hj hQ'=>?_,fun v h' tk hv k=>?_⟩
 ·simp only [List.mem_cons,List.not_mem_nil,or_false] at hb
  rw [Heap.size_push]
  rcases hb with rfl | rfl
  ·exact Nat.lt_succ_self _
  ·exact Nat.lt_succ_of_lt hlt
 ·obtain ⟨t1,rfl,_⟩:=num i vi hi
  obtain ⟨t2,rfl,_⟩:=num j vj hj
  exact lt_int hQ'
 ·obtain ⟨t,rfl,hb⟩:=num _ v hv
  obtain ⟨h1,h2⟩:=argBest_lt (fun i=>ns.getD i 0) (its.toArray.size-1)
  refine ⟨.int _,H,I.kept fun b o eb=>?_,⟨t,rfl⟩,q _ (getD_mem hb) fun a ha=>?_⟩
  ·exact k b o (fun z=>by
    have:b=s.heap.objs.size:=by simpa using z
    exact absurd (Heap.lt_size eb) (by rw [this]; exact Nat.lt_irrefl _)) (Heap.get?_push_of_some _ eb)
  ·obtain ⟨j,hj,rfl⟩:=mem_getD ha
   exact h2 j (by rw [List.size_toArray]; omega)
end
end L2
namespace L2
open PySem PySem.Spec PyProof.Rows
section
variable {X:Cx}
end
end L2
namespace L2
open PySem PySem.Spec PyProof.Rows
theorem name_goH {i:Nat} {v:V} {σ:L2.St} {H:Hp} {k:L2.St->Hp->Prop} (h:k (σ.set i (some v)) H):gName i v σ H k:=h
theorem seq_hide {t u:L2.TS} {D:Ends} {σ:L2.St} {H:Hp} (h:∀ U:L2.St->Hp->Prop,u D=U->t { D with nx:=U } σ H):tSeq t u D σ H:=h _ rfl
theorem nx_hide {t:L2.TS} {N c b:L2.St->Hp->Prop} {r:VK} {σ:L2.St} {H:Hp} (h:∀ U:L2.St->Hp->Prop,N=U->t { nx:=U,rt:=r,ct:=c,bk:=b } σ H):t { nx:=N,rt:=r,ct:=c,bk:=b } σ H:=h _ rfl
section
variable {a:Addr} {xs:List V} {g:TG} {tb:TS} {D:Ends} {σ:St} {H:Hp}
end
end L2
namespace L2
open PySem PySem.Spec PyProof.Rows
theorem pe_bmK {X:Cx} (K:PySem.W.Frag) {o e:PySem.Expr} {es:List PySem.Expr} {to:TE} {t:TA} {name:Str} {apos cpos:Pos} {T id:String} {r:V->List V->Hp->VK->Prop} (pa:PlainAttrs T) (slot:Slot T name id) (hty:typeOf (.builtin id)=pure (.type "method_descriptor")) (hm:MtR X id r) (ho:PE X o to) (ha:PA X (e :: es) t)
  (hbase:attributeBase o name X.env (eval o X.env)=eval o X.env:=by rfl)
  (hfew:((backTo cpos (starEach (e :: es) X.env)).all (fun x=>!x.1) && (backToKw cpos (keywordEach [] X.env)).all (fun x=>x.1.isSome) && decide ((e :: es).length+([]:List Keyword).length+(if ([]:List Keyword).isEmpty then 0 else 1)<30))=true:=by rfl)
  (hline:(apos.endLine == cpos.line)=true:=by rfl) (hs:starEach (e :: es) X.env=(false,eval e X.env) :: starEach es X.env:=by rfl) (hplain:(backTo cpos (starEach es X.env)).any (·.1)=false:=by rfl) (hK:X.K=K:=by rfl) :
  PE X (.Call (.Attribute o name apos) (e :: es) [] cpos) (tBM K T r to t):=by
 subst hK
 exact pe_bm pa slot hty hm ho ha hbase hfew hline hs hplain
end L2
namespace L2
open PySem PySem.Spec PyProof.Rows
section
variable {X:Cx}
theorem vals_ints':∀ {ns:List Int} {us:List Value},Vals (ns.map V.int) us->IntsAre us ns
 | [],_,.nil=>.nil
 | n :: r,_,.cons (b:=u) h t=>by
  obtain ⟨k,rfl⟩:=h
  exact .cons n k (vals_ints' t)
theorem shaped_tup (ns:List Int):SeqAt.shaped (.tuple (ns.map PyData.int))=true:=by
 simp [SeqAt.shaped,PyData.canLay0,PyData.depth,PySem.W.ke_canLayAll0,PySem.W.ke_depthAll]
theorem same_tup (ns ms:List Int):PySem.Spec.same (.tuple (ns.map PyData.int)) (.tuple (ms.map PyData.int))=decide (ns=ms):=by
 simp only [PySem.Spec.same]
 exact PySem.W.ke_sameAll ns ms
theorem op_eq_tup (hu:X.A.units+64<cLine):OpR X (compareOp .Eq) (fun x y H Q=>∃ (p q:Addr) (ns ms:List Int),x=.ref p∧y=.ref q∧H p=some (.tup (ns.map V.int))∧H q=some (.tup (ms.map V.int))∧Q (.bl (decide (ns=ms))) H):=by
 intro pins s σ H x y v u Q I rx ry h
 obtain ⟨p,q,ns,ms,rfl,rfl,hp,hq,k⟩:=h
 cases rx
 cases ry
 obtain ⟨its,r1,t1,_⟩:=I.tuple (SqT.of (K:=X.K) hp)
 obtain ⟨jts,r2,t2,_⟩:=I.tuple (SqT.of (K:=X.K) hq)
 refine eq_dataH_same (reads_tuple_ints t1 (vals_ints' r1)) (reads_tuple_ints t2 (vals_ints' r2)) (shaped_tup ns) (shaped_tup ms) hu (SeqAt.noMix_of_shape (.tuples .int) rfl _ _ (tuples_map_has fun _=>rfl) (tuples_map_has fun _=>rfl)) ?_
 rw [same_tup]
 exact ⟨.bl _,H,I,rfl,k⟩
end
end L2
namespace L2
open PySem PySem.Spec PyProof.Rows
def ItK (t:Bool) (h:Heap) (c a:Addr) (k:Nat):Prop:=if t then h.IsTupleIter c a k else h.IsListIter c a k
def SqK (t:Bool) (h:Heap) (a:Addr) (vs:Array Value):Prop:=if t then h.IsTuple a vs else h.IsList a vs
theorem ItK.ext {t:Bool} {h h':Heap} {c b a:Addr} {k:Nat} (x:ItK t h c a k) (hs:Heap.ExtBut b h h') (n:c≠b):ItK t h' c a k:=by
 cases t
 ·exact Heap.IsListIter.extBut x hs n
 ·exact Heap.IsTupleIter.extBut x hs n
theorem ItK.at {t:Bool} {h h':Heap} {c a:Addr} {k:Nat} (x:ItK t h c a k) (e:∀ o,h.get? c=some o->h'.get? c=some o):ItK t h' c a k:=by
 cases t
 ·exact Heap.IsListIter.at x e
 ·exact Heap.IsTupleIter.at x e
theorem ItK.obj {t:Bool} {h:Heap} {c a:Addr} {k:Nat} (x:ItK t h c a k):∃ o,h.get? c=some o∧∀ v,o.data≠.cell v:=by
 cases t
 ·obtain ⟨o,e,_,d⟩:=x
  exact ⟨o,e,fun v z=>by rw [d] at z; cases z⟩
 ·obtain ⟨o,e,_,d⟩:=x
  exact ⟨o,e,fun v z=>by rw [d] at z; cases z⟩
theorem SqK.ext {t:Bool} {h h':Heap} {b a:Addr} {vs:Array Value} (x:SqK t h a vs) (hs:Heap.ExtBut b h h') (n:a≠b):SqK t h' a vs:=by
 cases t
 ·exact Heap.IsList.extBut x hs n
 ·exact Heap.IsTuple.extBut x hs n
section
variable {prog:Program} {w:World} {A:Around} {E:Value->Shared->Prop} {s:Shared}
theorem nextK_item {t:Bool} {c a:Addr} {k:Nat} {vs:Array Value} {y:Value} {Q:Value->Shared->Prop} (hc:ItK t s.heap c a k) (ht:SqK t s.heap a vs) (hy:vs[k]?=some y)
  (hQ:∀ h',ItK t h' c a (k+1)->Heap.SameBut c s.heap h'->Q y { s with heap:=h' }):wpAny (model prog w) A (Builtin.SmallTypes.nextOf (.ref c)) Q E s:=by
 cases t
 ·exact wpAny_nextOf_list_item hc ht hy hQ
 ·exact nextT_item hc ht hy hQ
theorem nextK_end {t:Bool} {c a:Addr} {k:Nat} {vs:Array Value} {Q:Value->Shared->Prop} (hh:A.handled=none) (hc:ItK t s.heap c a k) (ht:SqK t s.heap a vs) (hy:vs[k]?=none)
  (hE:∀ h' x,Heap.ExtBut c s.heap h'->(∃ o,h'.get? x=some o∧o.cls=.type "StopIteration")->E (.ref x) { s with heap:=h' }):wpAny (model prog w) A (Builtin.SmallTypes.nextOf (.ref c)) Q E s:=by
 cases t
 ·exact wpAny_nextOf_list_end hh hc ht hy hE
 ·exact nextT_end hh hc ht hy hE
theorem zipK_item {t1 t2:Bool} {z TI TO i1 i2 l1 l2:Addr} {k1 k2:Nat} {xs ys:Array Value} {x y a b:Value} {Q:Value->Shared->Prop} (ap:ZipApart z TI TO i1 i2 l1 l2)
  (qz:IsZip s.heap z TI TO .none) (qI:IsPair s.heap TI (.ref i1) (.ref i2)) (qO:IsPair s.heap TO a b)
  (q1:ItK t1 s.heap i1 l1 k1) (q2:ItK t2 s.heap i2 l2 k2) (m1:SqK t1 s.heap l1 xs) (m2:SqK t2 s.heap l2 ys) (hx:xs[k1]?=some x) (hy:ys[k2]?=some y)
  (hQ:∀ g,IsZip g z TI TO (rawInt s.heap.objs.size)->IsPair g TO x y->ItK t1 g i1 l1 (k1+1)->ItK t2 g i2 l2 (k2+1)->IsPair g s.heap.objs.size x y->g.objs.size=s.heap.objs.size+1 →
   (∀ c o,c≠z->c≠TO->c≠i1->c≠i2->s.heap.get? c=some o->g.get? c=some o)->Q (.ref s.heap.objs.size) { s with heap:=g }) :
  wpAny (model prog w) A (Builtin.«zip.__next__» ⟨[.ref z],[]⟩) (fun fin s'=>∃ v,fin=.done (.ret v)∧Q v s') E s:=by
 show wpAny _ A (field (.ref z) 2 >>= _) _ _ _
 refine wpAny_bind (wpAny_field qz rfl (x:=.bool false) rfl ?_); show wpAny _ A (field (.ref z) 3 >>= _) _ _ _
 refine wpAny_bind (wpAny_field qz rfl (x:=.ref TI) rfl (wpAny_bind (wpAny_seqItems qI rfl ?_)))
 show wpAny _ A (Builtin.SmallTypes.ownedTupleIsFree (.ref z) >>= _) _ _ _
 refine wpAny_bind ?_; unfold Builtin.SmallTypes.ownedTupleIsFree
 refine wpAny_bind (wpAny_field qz rfl (x:=.none) rfl (wpAny_pure ?_)); simp only [if_true]
 refine wpAny_bind (wpAny_rule (wpAny_bind (wpAny_field qz rfl (x:=.ref TO) rfl (wpAny_bind (wpAny_setField_rec qz (by simp) fun g1 z1 s1=>?_)))))
 replace z1:IsZip g1 z TI TO .ellipsis:=z1
 refine wpAny_bind ?_; simp only [List.zipIdx_cons,List.zipIdx_nil,List.forIn_cons,List.forIn_nil]
 refine wpAny_bind (wpAny_bind (wpAny_onRaise ?_)); show wpAny _ A (Builtin.SmallTypes.nextOf (.ref i1) >>= _) _ _ _
 refine wpAny_bind (nextK_item (q1.ext s1.extBut ap.i1z) (m1.ext s1.extBut ap.l1z) hx fun g2 n1 s2=>wpAny_pure ?_)
 have O2:IsPair g2 TO a b:=s2.extBut _ _ ap.TOi1 (s1.extBut _ _ ap.TOz qO)
 refine wpAny_bind (wpAny_seqItems O2 rfl (wpAny_bind (wpAny_updateSeq_pair O2 fun g3 O3 s3=>?_)))
 replace O3:IsPair g3 TO x b:=O3
 refine wpAny_bind (wpAny_letGo (wpAny_pure (wpAny_bind (wpAny_bind (wpAny_onRaise ?_))))); show wpAny _ A (Builtin.SmallTypes.nextOf (.ref i2) >>= _) _ _ _
 refine wpAny_bind (nextK_item (((q2.ext s1.extBut ap.i2z).ext s2.extBut ap.i12.symm).ext s3.extBut ap.TOi2.symm) (((m2.ext s1.extBut ap.l2z).ext s2.extBut ap.l2i1).ext s3.extBut ap.l2TO) hy fun g4 n2 s4=>wpAny_pure ?_)
 have O4:IsPair g4 TO x b:=s4.extBut _ _ ap.TOi2 O3
 refine wpAny_bind (wpAny_seqItems O4 rfl (wpAny_bind (wpAny_updateSeq_pair O4 fun g5 O5 s5=>?_)))
 replace O5:IsPair g5 TO x y:=O5
 refine wpAny_bind (wpAny_letGo (wpAny_pure (wpAny_pure (wpAny_bind (wpAny_seqItems O5 rfl (wpAny_bind (wpAny_newTuple ?_)))))))
 have sz5:g5.objs.size=s.heap.objs.size:=by rw [s5.1,s4.1,s3.1,s2.1,s1.1]
 have z5:IsZip g5 z TI TO .ellipsis:=s5.extBut _ _ ap.TOz.symm (s4.extBut _ _ ap.i2z.symm (s3.extBut _ _ ap.TOz.symm (s2.extBut _ _ ap.i1z.symm z1)))
 have kp:∀ c o,c≠z->c≠TO->c≠i1->c≠i2->s.heap.get? c=some o->g5.get? c=some o:=fun c o c1 c2 c3 c4 e =>
  s5.extBut _ _ c2 (s4.extBut _ _ c4 (s3.extBut _ _ c2 (s2.extBut _ _ c3 (s1.extBut _ _ c1 e))))
 have N1:ItK t1 g5 i1 l1 (k1+1):=((n1.ext s3.extBut ap.TOi1.symm).ext s4.extBut ap.i12).ext s5.extBut ap.TOi1.symm
 have N2:ItK t2 g5 i2 l2 (k2+1):=n2.ext s5.extBut ap.TOi2.symm
 have ltz:z<g5.objs.size:=Heap.lt_size z5
 show wpAny _ A (Builtin.SmallTypes.ownedTupleHandOut (.ref z) (.ref g5.objs.size) >>= _) _ _ _
 refine wpAny_bind ?_; unfold Builtin.SmallTypes.ownedTupleHandOut
 have z6:IsZip (g5.push { cls:=.type "tuple",data:=.seq #[x,y] }) z TI TO .ellipsis:=Heap.get?_push_of_some _ z5
 refine wpAny_bind (wpAny_setField_rec z6 (by simp) fun g7 z7 s7=>?_)
 replace z7:IsZip g7 z TI TO (rawInt g5.objs.size):=z7
 refine wpAny_setField_rec z7 (by simp) fun g8 z8 s8=>?_
 replace z8:IsZip g8 z TI TO (rawInt g5.objs.size):=z8
 have up:∀ c o,c≠z->g5.get? c=some o->g8.get? c=some o:=fun c o c1 e=>s8.extBut _ _ c1 (s7.extBut _ _ c1 (Heap.get?_push_of_some _ e))
 have T8:IsPair g8 g5.objs.size x y:=s8.extBut _ _ (Nat.ne_of_gt ltz) (s7.extBut _ _ (Nat.ne_of_gt ltz) (Heap.get?_push_size _ rfl))
 have sz8:g8.objs.size=g5.objs.size+1:=by rw [s8.1,s7.1,Heap.size_push]
 rw [sz5] at z8 T8 sz8
 refine wpAny_pure ⟨_,rfl,?_⟩
 show Q (.ref g5.objs.size) _
 rw [sz5]
 exact hQ g8 z8 (up _ _ ap.TOz O5) (N1.at fun o e=>up _ o ap.i1z e) (N2.at fun o e=>up _ o ap.i2z e) T8 sz8 fun c o c1 c2 c3 c4 e=>up c o c1 (kp c o c1 c2 c3 c4 e)
theorem zipK_end {t1 t2:Bool} {z TI TO i1 i2 l1 l2:Addr} {k1 k2:Nat} {xs ys:Array Value} {a b:Value} {Q:Fin->Shared->Prop} (hh:A.handled=none) (ap:ZipApart z TI TO i1 i2 l1 l2)
  (qz:IsZip s.heap z TI TO .none) (qI:IsPair s.heap TI (.ref i1) (.ref i2)) (qO:IsPair s.heap TO a b)
  (q1:ItK t1 s.heap i1 l1 k1) (q2:ItK t2 s.heap i2 l2 k2) (m1:SqK t1 s.heap l1 xs) (m2:SqK t2 s.heap l2 ys) (hend:xs[k1]?=none∨ys[k2]?=none)
  (hE:∀ g e,(∀ c o,c≠z->c≠TO->c≠i1->c≠i2->s.heap.get? c=some o->g.get? c=some o)->(∃ o,g.get? e=some o∧o.cls=.type "StopIteration")->E (.ref e) { s with heap:=g }) :
  wpAny (model prog w) A (Builtin.«zip.__next__» ⟨[.ref z],[]⟩) Q E s:=by
 show wpAny _ A (field (.ref z) 2 >>= _) _ _ _
 refine wpAny_bind (wpAny_field qz rfl (x:=.bool false) rfl ?_); show wpAny _ A (field (.ref z) 3 >>= _) _ _ _
 refine wpAny_bind (wpAny_field qz rfl (x:=.ref TI) rfl (wpAny_bind (wpAny_seqItems qI rfl ?_)))
 show wpAny _ A (Builtin.SmallTypes.ownedTupleIsFree (.ref z) >>= _) _ _ _
 refine wpAny_bind ?_; unfold Builtin.SmallTypes.ownedTupleIsFree
 refine wpAny_bind (wpAny_field qz rfl (x:=.none) rfl (wpAny_pure ?_)); simp only [if_true]
 refine wpAny_bind (wpAny_rule (wpAny_bind (wpAny_field qz rfl (x:=.ref TO) rfl (wpAny_bind (wpAny_setField_rec qz (by simp) fun g1 z1 s1=>?_)))))
 replace z1:IsZip g1 z TI TO .ellipsis:=z1
 refine wpAny_bind ?_; simp only [List.zipIdx_cons,List.zipIdx_nil,List.forIn_cons,List.forIn_nil]
 refine wpAny_bind (wpAny_bind (wpAny_onRaise ?_)); show wpAny _ A (Builtin.SmallTypes.nextOf (.ref i1) >>= _) _ _ _
 cases hx:xs[k1]? with
 | none =>
  refine wpAny_bind (nextK_end hh (q1.ext s1.extBut ap.i1z) (m1.ext s1.extBut ap.l1z) hx fun g2 e s2 he=>?_)
  obtain ⟨oe,w1,w2⟩:=he
  have z2:IsZip g2 z TI TO .ellipsis:=s2 _ _ ap.i1z.symm z1
  have ez:e≠z:=fun x=>by subst x; rw [z2] at w1; cases w1; simp at w2
  exact wpAny_setField_rec z2 (by simp) fun g3 _ s3=>hE g3 e (fun c o c1 _ c3 _ x=>s3.extBut _ _ c1 (s2 _ _ c3 (s1.extBut _ _ c1 x))) ⟨oe,s3.extBut _ _ ez w1,w2⟩
 | some x =>
  have hy:ys[k2]?=none:=by rcases hend with h | h; rw [hx] at h; cases h; exact h
  refine wpAny_bind (nextK_item (q1.ext s1.extBut ap.i1z) (m1.ext s1.extBut ap.l1z) hx fun g2 n1 s2=>wpAny_pure ?_)
  have O2:IsPair g2 TO a b:=s2.extBut _ _ ap.TOi1 (s1.extBut _ _ ap.TOz qO)
  refine wpAny_bind (wpAny_seqItems O2 rfl (wpAny_bind (wpAny_updateSeq_pair O2 fun g3 O3 s3=>?_)))
  refine wpAny_bind (wpAny_letGo (wpAny_pure (wpAny_bind (wpAny_bind (wpAny_onRaise ?_))))); show wpAny _ A (Builtin.SmallTypes.nextOf (.ref i2) >>= _) _ _ _
  refine wpAny_bind (nextK_end hh (((q2.ext s1.extBut ap.i2z).ext s2.extBut ap.i12.symm).ext s3.extBut ap.TOi2.symm) (((m2.ext s1.extBut ap.l2z).ext s2.extBut ap.l2i1).ext s3.extBut ap.l2TO) hy fun g4 e s4 he=>?_)
  obtain ⟨oe,w1,w2⟩:=he
  have z4:IsZip g4 z TI TO .ellipsis:=s4 _ _ ap.i2z.symm (s3.extBut _ _ ap.TOz.symm (s2.extBut _ _ ap.i1z.symm z1))
  have ez:e≠z:=fun x=>by subst x; rw [z4] at w1; cases w1; simp at w2
  exact wpAny_setField_rec z4 (by simp) fun g5 _ s5=>hE g5 e (fun c o c1 c2 c3 c4 x=>s5.extBut _ _ c1 (s4 _ _ c4 (s3.extBut _ _ c2 (s2.extBut _ _ c3 (s1.extBut _ _ c1 x))))) ⟨oe,s5.extBut _ _ ez w1,w2⟩
theorem pyNextK_item {t1 t2:Bool} {z TI TO i1 i2 l1 l2:Addr} {k1 k2:Nat} {xs ys:Array Value} {x y a b:Value} {Q:Option Value->Shared->Prop} (ap:ZipApart z TI TO i1 i2 l1 l2)
  (qz:IsZip s.heap z TI TO .none) (qI:IsPair s.heap TI (.ref i1) (.ref i2)) (qO:IsPair s.heap TO a b)
  (q1:ItK t1 s.heap i1 l1 k1) (q2:ItK t2 s.heap i2 l2 k2) (m1:SqK t1 s.heap l1 xs) (m2:SqK t2 s.heap l2 ys) (hx:xs[k1]?=some x) (hy:ys[k2]?=some y)
  (hQ:∀ g,IsZip g z TI TO (rawInt s.heap.objs.size)->IsPair g TO x y->ItK t1 g i1 l1 (k1+1)->ItK t2 g i2 l2 (k2+1)->IsPair g s.heap.objs.size x y->g.objs.size=s.heap.objs.size+1 →
   (∀ c o,c≠z->c≠TO->c≠i1->c≠i2->s.heap.get? c=some o->g.get? c=some o)->Q (some (.ref s.heap.objs.size)) { s with heap:=g }) :
  wpAny (model prog w) A (pyNext (.ref z)) Q E s:=by
 have ty:s.TypeIs (.ref z) "zip":=⟨_,qz,rfl⟩
 unfold pyNext
 exact wpAny_bind (wpAny_attempt (wpAny_callSpecial?_slot (name:=Str.ofString "__next__") ty PySem.F.slot_zip_next (wpAny_call_entry PySem.F.slot_zip_next ty PySem.F.entry_zip_next
   (zipK_item ap qz qI qO q1 q2 m1 m2 hx hy fun g a1 a2 a3 a4 a5 a6 a7=>wpAny_pure (hQ g a1 a2 a3 a4 a5 a6 a7)) (PySem.F.args_zip_next_1 _))))
theorem pyNextK_end {t1 t2:Bool} {z TI TO i1 i2 l1 l2:Addr} {k1 k2:Nat} {xs ys:Array Value} {a b:Value} {Q:Option Value->Shared->Prop} (hh:A.handled=none) (ap:ZipApart z TI TO i1 i2 l1 l2)
  (qz:IsZip s.heap z TI TO .none) (qI:IsPair s.heap TI (.ref i1) (.ref i2)) (qO:IsPair s.heap TO a b)
  (q1:ItK t1 s.heap i1 l1 k1) (q2:ItK t2 s.heap i2 l2 k2) (m1:SqK t1 s.heap l1 xs) (m2:SqK t2 s.heap l2 ys) (hend:xs[k1]?=none∨ys[k2]?=none)
  (hQ:∀ g,(∀ c o,c≠z->c≠TO->c≠i1->c≠i2->s.heap.get? c=some o->g.get? c=some o)->Q none { s with heap:=g }):wpAny (model prog w) A (pyNext (.ref z)) Q E s:=by
 have ty:s.TypeIs (.ref z) "zip":=⟨_,qz,rfl⟩
 unfold pyNext
 refine wpAny_bind (wpAny_attempt (wpAny_callSpecial?_slot (name:=Str.ofString "__next__") ty PySem.F.slot_zip_next (wpAny_call_entry PySem.F.slot_zip_next ty PySem.F.entry_zip_next (zipK_end hh ap qz qI qO q1 q2 m1 m2 hend fun g e hk he=>?_) (PySem.F.args_zip_next_1 _))))
 obtain ⟨o,w1,w2⟩:=he
 exact wpAny_bind (wpAny_isInstance (T:="StopIteration") (b:=true) ⟨o,w1,w2⟩ isSubtype_stop (wpAny_pure (hQ _ hk)))
def itO (t:Bool) (l:Addr):Obj:=if t then { cls:=.type "tuple_iterator",data:=.fields #[.ref l,.int 0 0] } else { cls:=.type "list_iterator",data:=.fields #[.ref l,.int 0 0] }
abbrev zk2 (t1 t2:Bool) (h:Heap) (l1 l2:Addr):Heap:=(h.push (itO t1 l1)).push (itO t2 l2)
abbrev zk4 (t1 t2:Bool) (h:Heap) (l1 l2:Addr):Heap:=((zk2 t1 t2 h l1 l2).push { cls:=.type "tuple",data:=.seq #[.ref h.objs.size,.ref (h.push (itO t1 l1)).objs.size] }).push { cls:=.type "tuple",data:=.seq #[.none,.none] }
abbrev zk5 (t1 t2:Bool) (h:Heap) (l1 l2:Addr):Heap:=(zk4 t1 t2 h l1 l2).push { cls:=.type "zip",data:=.fields #[.none,.bool false,.bool false,.ref (zk2 t1 t2 h l1 l2).objs.size,.ref ((zk2 t1 t2 h l1 l2).push { cls:=.type "tuple",data:=.seq #[.ref h.objs.size,.ref (h.push (itO t1 l1)).objs.size] }).objs.size] }
set_option maxHeartbeats 4000000 in
theorem meets_zipK (t1 t2:Bool) (l1 l2:Addr) (xs ys:Array Value) :
  Meets (Builtin.«zip.__new__» ⟨[.type "zip",.ref l1,.ref l2],[]⟩) (fun _ R s=>SqK t1 s.heap l1 xs∧SqK t2 s.heap l2 ys∧R (.ok (.ret (.ref (zk4 t1 t2 s.heap l1 l2).objs.size))) { s with heap:=zk5 t1 t2 s.heap l1 l2 }) :=
 .of_wp fun prog w A R s h=>by
  obtain ⟨hp,g,d,tk,os⟩:=s; obtain ⟨m1,m2,h⟩:=h
  have hsub:=sub_zip
  cases t1 <;> cases t2
  ·have a1:Heap.IsList (Shared.heap ⟨hp,g,d,tk,os⟩) l1 xs:=m1
   have a2:Heap.IsList (Shared.heap ⟨hp.push { cls:=.type "list_iterator",data:=.fields #[.ref l1,.int 0 0] },g,d,tk,os⟩) l2 ys:=Heap.IsList.push m2 _
   wp_walk using wpAny_pyIter_list a1,wpAny_pyIter_list a2
   exact ⟨_,rfl,h⟩
  ·have a1:Heap.IsList (Shared.heap ⟨hp,g,d,tk,os⟩) l1 xs:=m1
   have a2:Heap.IsTuple (Shared.heap ⟨hp.push { cls:=.type "list_iterator",data:=.fields #[.ref l1,.int 0 0] },g,d,tk,os⟩) l2 ys:=Heap.IsTuple.push m2 _
   wp_walk using wpAny_pyIter_list a1,wpAny_pyIter_tuple a2
   exact ⟨_,rfl,h⟩
  ·have a1:Heap.IsTuple (Shared.heap ⟨hp,g,d,tk,os⟩) l1 xs:=m1
   have a2:Heap.IsList (Shared.heap ⟨hp.push { cls:=.type "tuple_iterator",data:=.fields #[.ref l1,.int 0 0] },g,d,tk,os⟩) l2 ys:=Heap.IsList.push m2 _
   wp_walk using wpAny_pyIter_tuple a1,wpAny_pyIter_list a2
   exact ⟨_,rfl,h⟩
  ·have a1:Heap.IsTuple (Shared.heap ⟨hp,g,d,tk,os⟩) l1 xs:=m1
   have a2:Heap.IsTuple (Shared.heap ⟨hp.push { cls:=.type "tuple_iterator",data:=.fields #[.ref l1,.int 0 0] },g,d,tk,os⟩) l2 ys:=Heap.IsTuple.push m2 _
   wp_walk using wpAny_pyIter_tuple a1,wpAny_pyIter_tuple a2
   exact ⟨_,rfl,h⟩
theorem call_zipK {t1 t2:Bool} {l1 l2:Addr} {xs ys:Array Value} {Q:Value->Shared->Prop} (m1:SqK t1 s.heap l1 xs) (m2:SqK t2 s.heap l2 ys)
  (h:∀ g,IsZip g (s.heap.objs.size+4) (s.heap.objs.size+2) (s.heap.objs.size+3) .none->IsPair g (s.heap.objs.size+2) (.ref s.heap.objs.size) (.ref (s.heap.objs.size+1)) →
   IsPair g (s.heap.objs.size+3) .none .none->ItK t1 g s.heap.objs.size l1 0->ItK t2 g (s.heap.objs.size+1) l2 0->g.objs.size=s.heap.objs.size+5 →
   (∀ c o,s.heap.get? c=some o->g.get? c=some o)->Q (.ref (s.heap.objs.size+4)) { s with heap:=g }) :
  wpAny (model prog w) A (call (.type "zip") [.ref l1,.ref l2]) Q E s:=by
 refine callType_new PySem.F.called_zip (by decide) (PySem.F.typeCall_zip_2 _ _) (PySem.F.newCall_zip_2 _ _) (fun obj=>PySem.F.args_object_init_3 obj _ _) PySem.F.entry_zip_new (meets_zipK t1 t2 l1 l2 xs ys) ⟨m1,m2,?_⟩
 have y1:(s.heap.push (itO t1 l1)).objs.size=s.heap.objs.size+1:=Heap.size_push ..
 have y2:(zk2 t1 t2 s.heap l1 l2).objs.size=s.heap.objs.size+2:=by rw [Heap.size_push,y1]
 have y3:((zk2 t1 t2 s.heap l1 l2).push { cls:=.type "tuple",data:=.seq #[.ref s.heap.objs.size,.ref (s.heap.push (itO t1 l1)).objs.size] }).objs.size=s.heap.objs.size+3:=by rw [Heap.size_push,y2]
 have y4:(zk4 t1 t2 s.heap l1 l2).objs.size=s.heap.objs.size+4:=by rw [Heap.size_push,y3]
 have y5:(zk5 t1 t2 s.heap l1 l2).objs.size=s.heap.objs.size+5:=by rw [Heap.size_push,y4]
 have f1:∀ (t:Bool) (l:Addr),(itO t l).isFreed=false:=fun t l=>by cases t <;> rfl
 have e5:(zk5 t1 t2 s.heap l1 l2).get? (zk4 t1 t2 s.heap l1 l2).objs.size=some _:=Heap.get?_push_size _ rfl
 have e4:(zk5 t1 t2 s.heap l1 l2).get? ((zk2 t1 t2 s.heap l1 l2).push { cls:=.type "tuple",data:=.seq #[.ref s.heap.objs.size,.ref (s.heap.push (itO t1 l1)).objs.size] }).objs.size=some _:=Heap.get?_push_of_some _ (Heap.get?_push_size _ rfl)
 have e3:(zk5 t1 t2 s.heap l1 l2).get? (zk2 t1 t2 s.heap l1 l2).objs.size=some _:=Heap.get?_push_of_some _ (Heap.get?_push_of_some _ (Heap.get?_push_size _ rfl))
 have e2:(zk5 t1 t2 s.heap l1 l2).get? (s.heap.push (itO t1 l1)).objs.size=some (itO t2 l2):=Heap.get?_push_of_some _ (Heap.get?_push_of_some _ (Heap.get?_push_of_some _ (Heap.get?_push_size _ (f1 _ _))))
 have e1:(zk5 t1 t2 s.heap l1 l2).get? s.heap.objs.size=some (itO t1 l1):=Heap.get?_push_of_some _ (Heap.get?_push_of_some _ (Heap.get?_push_of_some _ (Heap.get?_push_of_some _ (Heap.get?_push_size _ (f1 _ _)))))
 have iK:∀ (t:Bool) (g:Heap) (c l:Addr),g.get? c=some (itO t l)->ItK t g c l 0:=fun t g c l e=>by cases t <;> exact ⟨_,e,rfl,rfl⟩
 show _∧_
 rw [y2,y3,y4] at e5
 rw [y1,y2] at e3
 rw [y3] at e4
 rw [y1] at e2
 rw [y4]
 exact ⟨⟨_,e5,rfl⟩,h _ e5 e3 e4 (iK _ _ _ _ e1) (iK _ _ _ _ e2) y5 fun c o q=>Heap.get?_push_of_some _ (Heap.get?_push_of_some _ (Heap.get?_push_of_some _ (Heap.get?_push_of_some _ (Heap.get?_push_of_some _ q))))⟩
end
end L2
namespace L2
open PySem PySem.Spec PyProof.Rows
section
variable {X:Cx}
def SqS (t:Bool) (K:PySem.W.Frag) (H:Hp) (a:Addr) (xs:List V):Prop:=if t then SqT K H a xs else SqL K H a xs
theorem SqK.lt {t:Bool} {h:Heap} {a:Addr} {vs:Array Value} (x:SqK t h a vs):a<h.objs.size:=by
 cases t
 ·obtain ⟨o,e,_⟩:=x
  exact Heap.lt_size e
 ·obtain ⟨o,e,_⟩:=x
  exact Heap.lt_size e
theorem Inv.sqs {pins:List (Addr×Obj)} {σ:St} {H:Hp} {s:Shared} {t:Bool} {a:Addr} {xs:List V} (I:Inv X pins σ H s) (h:SqS t X.K H a xs):∃ its:List Value,Vals xs its∧SqK t s.heap a its.toArray∧xs.length≤sizeLine:=by
 cases t
 ·obtain ⟨its,rv,p,z⟩:=I.list h
  exact ⟨its,rv,p.isList,z⟩
 ·obtain ⟨its,rv,p,z⟩:=I.tuple h
  exact ⟨its,rv,p,z⟩
theorem Inv.sqs_inj {pins:List (Addr×Obj)} {σ:St} {H:Hp} {s:Shared} {t:Bool} {a:Addr} {xs ys:List V} (I:Inv X pins σ H s) (h:SqS t X.K H a xs) (g:SqS t X.K H a ys):xs=ys:=by
 cases t
 ·exact I.list_inj h g
 ·exact I.tuple_inj h g
theorem SqS.l {K:PySem.W.Frag} {H:Hp} {a:Addr} {xs:List V} (h:H a=some (.lst xs)):SqS false K H a xs:=SqL.of h
theorem SqS.t {K:PySem.W.Frag} {H:Hp} {a:Addr} {xs:List V} (h:H a=some (.tup xs)):SqS true K H a xs:=SqT.of h
def Itk (K : PySem.W.Frag) (t1 t2 : Bool) (a b : Addr) : It :=
  ⟨fun i H => ∃ xs ys x y, SqS t1 K H a xs ∧ SqS t2 K H b ys ∧ xs[i]? = some x ∧ ys[i]? = some y,
   fun i H v H' => ∃ p x y, v = .ref p ∧ H p = none ∧ H' = upd H p (.tup [x, y]) ∧ (∀ xs, SqS t1 K H a xs → xs[i]? = some x) ∧ ∀ ys, SqS t2 K H b ys → ys[i]? = some y,
   fun i H => ∃ xs ys, SqS t1 K H a xs ∧ SqS t2 K H b ys ∧ (xs.length ≤ i ∨ ys.length ≤ i)⟩
theorem turn_zipK {t1 t2:Bool} {P:Program} {w:World} {K:PySem.W.Frag} {es:List PySem.Expr} {kk:Nat} {pos:Pos} {a b z TI TO i1 i2:Addr} (D:ZipApart z TI TO i1 i2 a b) :
  Turn P w K (.Tuple es kk pos) (Itk K t1 t2 a b) [z,TI,TO,i1,i2] z (fun i h=>IsZip h z TI TO .none∧IsPair h TI (.ref i1) (.ref i2)∧(∃ u v,IsPair h TO u v)∧ItK t1 h i1 a i∧ItK t2 h i2 b i) where
 mem:=by simp
 obj:=fun i h st c hc=>by
  obtain ⟨h1,h2,⟨u,v,h3⟩,h4,h5⟩:=st
  simp only [List.mem_cons,List.not_mem_nil,or_false] at hc
  rcases hc with rfl | rfl | rfl | rfl | rfl
  ·exact ⟨_,h1,fun v z=>by have z':Data.fields _=Data.cell v:=z; cases z'⟩
  ·exact ⟨_,h2,fun v z=>by have z':Data.seq _ _=Data.cell v:=z; cases z'⟩
  ·exact ⟨_,h3,fun v z=>by have z':Data.seq _ _=Data.cell v:=z; cases z'⟩
  ·exact h4.obj
  ·exact h5.obj
 keep:=fun i h h' st k=>by
  obtain ⟨h1,h2,⟨u,v,h3⟩,h4,h5⟩:=st
  exact ⟨k z (by simp) _ h1,k TI (by simp) _ h2,⟨u,v,k TO (by simp) _ h3⟩,h4.at fun o e=>k i1 (by simp) o e,h5.at fun o e=>k i2 (by simp) o e⟩
 item:=by
  intro X hP hw hK hc i pins s σ H E I hf st hg
  subst hP hw hK
  obtain ⟨xs,ys,x,y,qa,qb,hx,hy⟩:=hg
  obtain ⟨its,rv,pa,_⟩:=I.sqs qa
  obtain ⟨jts,rw',pb,_⟩:=I.sqs qb
  obtain ⟨ux,hux,rx⟩:=rv.get hx
  obtain ⟨uy,huy,ry⟩:=rw'.get hy
  obtain ⟨h1,h2,⟨u,v,h3⟩,h4,h5⟩:=st
  refine pyNextK_item D h1 h2 h3 h4 h5 pa pb (x:=ux) (y:=uy) (by simpa using hux) (by simpa using huy) fun h' a1 a2 a3 a4 a5 a6 k=>?_
  refine ⟨_,rfl,wpAny_letOwnedTupleGo_zip a1 fun h'' b1 sb=>?_⟩
  have hsz:s.heap.objs.size≠z:=Nat.ne_of_gt (Heap.lt_size h1)
  have nfp:∀ c∈[z,TI,TO,i1,i2],s.heap.objs.size≠c:=fun c hc=>by
   have:∃ o,s.heap.get? c=some o:=by
    obtain ⟨o4,g4,_⟩:=h4.obj
    obtain ⟨o5,g5,_⟩:=h5.obj
    simp only [List.mem_cons,List.not_mem_nil,or_false] at hc
    rcases hc with rfl | rfl | rfl | rfl | rfl
    ·exact ⟨_,h1⟩
    ·exact ⟨_,h2⟩
    ·exact ⟨_,h3⟩
    ·exact ⟨_,g4⟩
    ·exact ⟨_,g5⟩
   obtain ⟨o,e⟩:=this
   exact Nat.ne_of_gt (Heap.lt_size e)
  have hn:H s.heap.objs.size=none:=I.hok.fresh (Nat.le_refl _)
  have kk':∀ c o,c∉[z,TI,TO,i1,i2]->s.heap.get? c=some o->h''.get? c=some o:=fun c o hc e =>
   (sb.2 c fun q=>hc (by simp [q])).trans (k c o (fun q=>hc (by simp [q])) (fun q=>hc (by simp [q])) (fun q=>hc (by simp [q])) (fun q=>hc (by simp [q])) e)
  have tO:h''.get? s.heap.objs.size=some { cls:=.type "tuple",data:=.seq #[ux,uy] }:=(sb.2 _ hsz).trans a5
  have nt:∀ c u,H c=some u->c∉[z,TI,TO,i1,i2]:=fun c u e hc=>by
   have:=(hf c hc).1
   rw [e] at this
   cases this
  have tupOk:ObjOk X.prog X.w (upd H s.heap.objs.size (.tup [x,y])) h'' s.heap.objs.size (.tup [x,y]) :=
   ⟨by show 2≤sizeLine; decide,[ux,uy],.cons rx (.cons ry .nil),⟨_,tO,rfl,_,rfl⟩,_,tO,rfl⟩
  have I1:Inv X pins σ (upd H s.heap.objs.size (.tup [x,y])) { s with heap:=h'' }:=by
   refine I.step (g':=s.gens) (d':=s.drawn) (t':=s.toks) (ch:=[z,TI,TO,i1,i2]) (fun c hc=>⟨(hf c hc).2.2.2.1,(hf c hc).2.1,(hf c hc).2.2.2.2.1,(hf c hc).2.2.2.2.2⟩) (fun c o _ _ hc e _=>kk' c o hc e) (fun c o _ _ hc e _=>⟨o.slots,kk' c o hc e⟩)
    (fun c o _ e n=>by rw [upd_ne (Nat.ne_of_lt (Heap.lt_size e))]; exact n) (fun c o hc e=>⟨o,kk' c o hc e⟩) (fun c vs e=>by rw [upd_ne (ne_of_none e hn)]; exact e) (fun c o vs e=>by rw [upd_ne (ne_of_none e hn)]; exact e)
    (fun c ps e=>⟨#[],by rw [upd_ne (ne_of_none e hn),e]; simp⟩) (fun m hm=>?_) (fun c o e=>?_) I.bare
   ·obtain ⟨o,es',ep,ho,r⟩:=hm
    exact ⟨o,es',ep,kk' _ o (fun q=>(hf _ q).2.1 rfl) ho,r⟩
   ·by_cases hcs:c=s.heap.objs.size
    ·subst hcs
     rw [upd_same] at e
     cases e
     exact tupOk
    ·rw [upd_ne hcs] at e
     refine (I.hok c o e).stay (fun d v hd q=>kk' d v ?_ q) (fun d q=>by rw [upd_ne (ne_of_none q hn)]; exact q) fun d vs q=>by rw [upd_ne (ne_of_none q hn)]; exact q
     rcases hd with hd | hd
     ·rw [hd]; exact nt c o e
     ·exact nt d _ hd
  have g4:ItK t1 h'' i1 a (i+1):=a3.at fun o e=>(sb.2 _ D.i1z).trans e
  have g5:ItK t2 h'' i2 b (i+1):=a4.at fun o e=>(sb.2 _ D.i2z).trans e
  have g2:IsPair h'' TI (.ref i1) (.ref i2):=(sb.2 _ D.TIz).trans (k _ _ D.TIz D.TITO D.TIi1 D.TIi2 h2)
  have g3:IsPair h'' TO ux uy:=(sb.2 _ D.TOz).trans a2
  exact ⟨.ref s.heap.objs.size,_,I1,rfl,⟨_,x,y,rfl,hn,rfl,fun xs' q=>by rw [I.sqs_inj q qa]; exact hx,fun ys' q=>by rw [I.sqs_inj q qb]; exact hy⟩,⟨b1,g2,⟨_,_,g3⟩,g4,g5⟩,fun c hc=>by rw [upd_ne (Ne.symm (nfp c hc))]; exact (hf c hc).1⟩
 done:=by
  intro X hP hw hK hc i pins s σ H E I hf st hg
  subst hP hw hK
  obtain ⟨xs,ys,qa,qb,hl⟩:=hg
  obtain ⟨its,rv,pa,_⟩:=I.sqs qa
  obtain ⟨jts,rw',pb,_⟩:=I.sqs qb
  obtain ⟨h1,h2,⟨u,v,h3⟩,h4,h5⟩:=st
  have l1:=rv.length
  have l2:=rw'.length
  have hend:its.toArray[i]?=none∨jts.toArray[i]?=none:=by
   rcases hl with hl | hl
   ·exact .inl (by simp; omega)
   ·exact .inr (by simp; omega)
  refine pyNextK_end (I.ok.hd hc) D h1 h2 h3 h4 h5 pa pb hend fun h' k=>⟨rfl,?_⟩
  have kk':∀ c o,c∉[z,TI,TO,i1,i2]->s.heap.get? c=some o->h'.get? c=some o:=fun c o hc e =>
   k c o (fun q=>hc (by simp [q])) (fun q=>hc (by simp [q])) (fun q=>hc (by simp [q])) (fun q=>hc (by simp [q])) e
  have nt:∀ c u,H c=some u->c∉[z,TI,TO,i1,i2]:=fun c u e hc=>by
   have:=(hf c hc).1
   rw [e] at this
   cases this
  refine I.step (g':=s.gens) (d':=s.drawn) (t':=s.toks) (ch:=[z,TI,TO,i1,i2]) (fun c hc=>⟨(hf c hc).2.2.2.1,(hf c hc).2.1,(hf c hc).2.2.2.2.1,(hf c hc).2.2.2.2.2⟩) (fun c o _ _ hc e _=>kk' c o hc e) (fun c o _ _ hc e _=>⟨o.slots,kk' c o hc e⟩)
   (fun _ _ _ _ n=>n) (fun c o hc e=>⟨o,kk' c o hc e⟩) (fun _ _ e=>e) (fun _ _ _ e=>e) (fun c ps e=>⟨#[],by rw [e]; simp⟩) (fun m hm=>?_) (fun c o e=>?_) I.bare
  ·obtain ⟨o,es',ep,ho,r⟩:=hm
   exact ⟨o,es',ep,kk' _ o (fun q=>(hf _ q).2.1 rfl) ho,r⟩
  ·refine (I.hok c o e).stay (fun d v hd q=>kk' d v ?_ q) (fun _ q=>q) fun _ _ q=>q
   rcases hd with hd | hd
   ·rw [hd]; exact nt c o e
   ·exact nt d _ hd
 self:=fun _ _ _ _ _ st h=>wpAny_pyIter_zip st.1 h
def iZipK (K:PySem.W.Frag) (t1 t2:Bool) (ta:TA):TI:=fun σ H R=>ta σ H fun vs H1=>∃ a b,vs=[.ref a,.ref b]∧(∃ xs,SqS t1 K H1 a xs)∧(∃ ys,SqS t2 K H1 b ys)∧R (Itk K t1 t2 a b) H1
theorem pi_zipK {t1 t2:Bool} {es:List PySem.Expr} {kk:Nat} {tpos:Pos} {a b:PySem.Expr} {ta:TA} {p pos:Pos} (hg:Gl X "zip") (hm:X.mg "zip" = none) (ha:PA X [a,b] ta) (hs:starEach [a,b] X.env=(false,eval a X.env) :: starEach [b] X.env:=by rfl) (hs2:(backTo pos (starEach [b] X.env)).any (·.1)=false:=by rfl) :
  PI X (.Tuple es kk tpos) (.Call (.Name "zip" p) [a,b] [] pos) (iZipK X.K t1 t2 ta):=by
 intro pins s σ H R I h
 refine Call_ (ld_blt I hg hm PyProof.Rows.boot_zip (PyProof.Rows.callWith_type1 (thn (ha pos pins s σ H _ I h) fun us s1 ⟨vs,H1,I1,r1,q1⟩=>?_) hs hs2))
 obtain ⟨la,lb,e,⟨xs,qa⟩,⟨ys,qb⟩,q⟩:=q1
 subst e
 obtain ⟨u1,u2,rfl,ra,rb⟩:=vals2 r1
 cases ra
 cases rb
 obtain ⟨its,rv,pa,_⟩:=I1.sqs qa
 obtain ⟨jts,rw',pb,_⟩:=I1.sqs qb
 have lta:la<s1.heap.objs.size:=by
  exact pa.lt
 have ltb:lb<s1.heap.objs.size:=by
  exact pb.lt
 refine call_zipK pa pb fun h' z1 z2 z3 z4 z5 zs zk=>?_
 refine wpAny_pyIter_zip z1 ?_
 have I2:Inv X pins σ H1 { s1 with heap:=h' }:=I1.kept (t':=s1.toks) zk
 have D:ZipApart (s1.heap.objs.size+4) (s1.heap.objs.size+2) (s1.heap.objs.size+3) s1.heap.objs.size (s1.heap.objs.size+1) la lb:=by
  have la':@LT.lt Nat _ la s1.heap.objs.size:=lta
  have lb':@LT.lt Nat _ lb s1.heap.objs.size:=ltb
  constructor <;> (show @Ne Nat _ _; omega)
 refine ⟨s1.heap.objs.size+4,_,_,_,H1,rfl,I2,turn_zipK D,⟨z1,z2,⟨_,_,z3⟩,z4,z5⟩,fun c hc=>?_,q⟩
 have hge:s1.heap.objs.size≤c:=by
  simp only [List.mem_cons,List.not_mem_nil,or_false] at hc
  rcases hc with rfl | rfl | rfl | rfl | rfl <;> omega
 have f:=I1.fpOk (H':=H1) hge (I1.hok.fresh hge)
 exact f
theorem for_zipK {t1 t2:Bool} {K:PySem.W.Frag} {a b:Addr} {xs ys:List V} {g:TG} {tb:TS} {D:Ends} {σ:St} {H:Hp} (n:Nat) (hn:n=min xs.length ys.length) (Pv:Nat->St->Hp->Prop) (h0:Pv 0 σ H) (hl:∀ i σ H,i≤n->Pv i σ H->SqS t1 K H a xs∧SqS t2 K H b ys)
  (hs:∀ i x y σ H p,xs[i]?=some x->ys[i]?=some y->Pv i σ H->H p=none->g (.ref p) σ (upd H p (.tup [x,y])) fun σ2 H2=>tb { D with nx:=Pv (i+1),ct:=Pv (i+1),bk:=D.nx } σ2 H2) (hd:∀ σ H,Pv n σ H->D.nx σ H) :
  ∃ W:Nat->Nat->St->Hp->Prop,(∃ m,W 0 m σ H)∧∀ i m σ H,W i m σ H →
   ((Itk K t1 t2 a b).stop i H∧D.nx σ H)∨((Itk K t1 t2 a b).go i H∧∃ N:St->Hp->Prop,(∀ σ' H',N σ' H'->∃ m',m' < m∧W (i+1) m' σ' H')∧∀ x H',(Itk K t1 t2 a b).yld i H x H'->g x σ H' fun σ2 H2=>tb { D with nx:=N,ct:=N,bk:=D.nx } σ2 H2):=by
 refine ⟨fun i m σ H=>m=n-i∧i≤n∧Pv i σ H,⟨n,by simp,Nat.zero_le _,h0⟩,?_⟩
 rintro i m σ H ⟨rfl,hi,p⟩
 obtain ⟨qa,qb⟩:=hl i σ H hi p
 rcases Nat.lt_or_ge i n with hlt | hge
 ·have h1:i<xs.length:=by omega
  have h2:i<ys.length:=by omega
  refine .inr ⟨⟨xs,ys,xs[i],ys[i],qa,qb,by simp [h1],by simp [h2]⟩,Pv (i+1),fun σ' H' p'=>⟨n-(i+1),by omega,rfl,hlt,p'⟩,fun v H' yl=>?_⟩
  obtain ⟨pa,x,y,rfl,hp,rfl,hx,hy⟩:=yl
  exact hs i x y σ H pa (hx xs qa) (hy ys qb) p hp
 ·obtain rfl:i=n:=by omega
  exact .inl ⟨⟨xs,ys,qa,qb,by omega⟩,hd σ H p⟩
end
end L2
namespace L2
open PySem PySem.Spec PyProof.Rows
section
variable {X:Cx}
theorem bt_sum:bootBuiltins "sum" = some (.builtin "sum"):=by decide +kernel
theorem call_sumI (hc:X.calm=true):CallR X (.builtin "sum") (fun xs H Q=>∃ (p:Addr) (ns:List Int),xs=[.ref p]∧H p=some (.lst (ns.map V.int))∧Q (.int ns.sum) H):=by
 intro pins s σ H xs us Q I r h
 obtain ⟨p,ns,rfl,hp,q⟩:=h
 obtain ⟨u,rfl,r1⟩:=r.one
 cases r1
 obtain ⟨its,rv,pl,hz⟩:=I.list (SqL.of (K:=X.K) hp)
 have hi:IntsAre its ns:=vals_ints' rv
 obtain ⟨ys,hx⟩:=hi.allInts.items
 have hl':s.heap.IsList p (intItems ys):=hx ▸ pl.isList
 refine sum_intListG (I.ok.hd hc) hl' fun h' tk t' hk=>?_
 have e1:ns=ys.toList.map (·.1):=by
  rw [←nums_intItems,←hx]
  exact (show numsOf its.toArray.toList=ns from hi.numsOf).symm
 have e2:preSum (numAt ys) ys.size=ns.sum:=by rw [preSum_eq,List.take_of_length_le (by simp),e1]
 rw [e2]
 exact ⟨.int ns.sum,H,I.kept hk,⟨t',rfl⟩,q⟩
def iRngD (ta:TA):TI:=fun σ H R=>ta σ H fun vs H1=>∃ n:Nat,vs=[.int ((n:Int)-1),.int (-1),.int (-1)]∧n≤1000∧R (Its ((n:Int)-1) (-1) n) H1
theorem rsizeD (n:Nat):Builtin.Range.rangeSize ((n:Int)-1) (-1) (-1)=n:=by
 unfold Builtin.Range.rangeSize
 simp only [show ¬ ((-1:Int) > 0) by decide,if_false]
 rw [show -(-1:Int)=1 by decide,Int.ediv_one]
 split <;> omega
theorem smallD {n:Nat} (h:n≤1000):Builtin.Range.small ((n:Int)-1) (-1) (-1)=true:=by
 unfold Builtin.Range.small
 rw [rsizeD]
 simp only [Builtin.Range.rangeFitsLong,Bool.and_eq_true,Bool.or_eq_true,decide_eq_true_eq,beq_iff_eq]
 refine ⟨⟨⟨⟨⟨?_,?_⟩,⟨?_,?_⟩⟩,⟨?_,?_⟩⟩,⟨?_,?_⟩⟩,.inr ?_⟩ <;> first | omega | decide
theorem pi_rangeD {tg:PySem.Expr} {a b c:PySem.Expr} {ta:TA} {p pos:Pos} (hg:Gl X "range") (hm:X.mg "range" = none) (ha:PA X [a,b,c] ta)
  (hs:starEach [a,b,c] X.env=(false,eval a X.env) :: starEach [b,c] X.env:=by rfl) (hs2:(backTo pos (starEach [b,c] X.env)).any (·.1)=false:=by rfl):PI X tg (.Call (.Name "range" p) [a,b,c] [] pos) (iRngD ta):=by
 intro pins s σ H R I h
 refine Call_ (ld_blt I hg hm boot_range (PyProof.Rows.callWith_type1 (thn (ha pos pins s σ H _ I h) fun us s1 ⟨vs,H1,I1,r1,q1⟩=>?_) hs hs2))
 obtain ⟨n,e,hn,q⟩:=q1
 subst e
 cases r1 with
 | cons r rr =>
  cases rr with
  | cons r' rr =>
   cases rr with
   | cons r'' rr =>
    cases rr
    obtain ⟨t,rfl⟩:=r
    obtain ⟨t',rfl⟩:=r'
    obtain ⟨t'',rfl⟩:=r''
    refine call_range_3 (by omega) ?_ (.inl (PyProof.noPylong_small (by omega)))
    refine wpAny_pyIter_range (IsRange.new ..) (smallD hn) ?_
    have I2:Inv X pins σ H1 { s1 with heap:=s1.heap.push { cls:=.type "range",data:=.fields #[.int ((n:Int)-1) t,.int (-1) t',.int (-1) t''] } }:=I1.kept (t':=s1.toks) fun b o e=>Heap.get?_push_of_some _ e
    refine ⟨_,[(s1.heap.push { cls:=.type "range",data:=.fields #[.int ((n:Int)-1) t,.int (-1) t',.int (-1) t''] }).objs.size],_,_,H1,rfl,I2.kept (t':=s1.toks) fun b o e=>Heap.get?_push_of_some _ e,turn_step _ ((n:Int)-1) (-1) n,?_,fun b hb=>?_,q⟩
    ·have e1:((n:Int)-1)+((0:Nat):Int)*(-1)=(n:Int)-1:=by simp
     have e2:((n:Nat):Int)-((0:Nat):Int)=Builtin.Range.rangeSize ((n:Int)-1) (-1) (-1):=by rw [rsizeD]; simp
     show IsRangeIter _ _ (((n:Int)-1)+((0:Nat):Int)*(-1)) (((n:Nat):Int)-((0:Nat):Int)) (-1)
     rw [e1,e2]
     exact Heap.get?_push_size _ rfl
    ·have e:b=(s1.heap.push { cls:=.type "range",data:=.fields #[.int ((n:Int)-1) t,.int (-1) t',.int (-1) t''] }).objs.size:=by simpa using hb
     subst e
     exact I2.fpOk (Nat.le_refl _) (I2.hok.fresh (Nat.le_refl _))
end
end L2
namespace L2
open PySem PySem.Spec PyProof.Rows PySem.W
section
variable {prog:Program} {w:World} {A:Around} {E:Value->Shared->Prop} {K:Frag} {h:Heap} {g:Array GenState} {d:Drawn} {t:Nat} {os:OsState} {a C:Addr} {o:Obj}
end
section
variable {X:Cx}
end
end L2
namespace My
open PySem L2
def del (H:Hp) (a:Addr):Hp:=fun b=>if b=a then none else H b
theorem del_self (H:Hp) (a:Addr):del H a a=none:=if_pos rfl
theorem del_ne {H:Hp} {a b:Addr} (h:b≠a):del H a b=H b:=if_neg h
theorem del_sub (H:Hp) (a:Addr):Same (del H a) H:=fun b o e=>by
 by_cases h:b=a
 ·subst h; rw [del_self] at e; cases e
 ·rw [del_ne h] at e; exact e
theorem del_mono {H H':Hp} (a:Addr) (s:Same H H'):Same (del H a) (del H' a):=fun b o e=>by
 by_cases h:b=a
 ·subst h; rw [del_self] at e; cases e
 ·rw [del_ne h] at e ⊢; exact s _ _ e
theorem del_up (H:Hp) (a:Addr) (o:HO):Same (del H a) (upd H a o):=fun b u e=>by
 by_cases h:b=a
 ·subst h; rw [del_self] at e; cases e
 ·rw [del_ne h] at e; rw [upd_ne h]; exact e
theorem del_upd (H:Hp) (a:Addr) (o:HO):del (upd H a o) a=del H a:=by
 funext b
 by_cases h:b=a
 ·subst h; rw [del_self,del_self]
 ·rw [del_ne h,del_ne h,upd_ne h]
theorem del_new {H:Hp} {a:Addr} (h:H a=none):del H a=H:=by
 funext b
 by_cases z:b=a
 ·subst z; rw [del_self,h]
 ·exact del_ne z
theorem del_at {H:Hp} {a b:Addr} {o:HO} (e:H b=some o) (h:b≠a):del H a b=some o:=by rw [del_ne h]; exact e
section
variable {α:Type} {R:Hp->Addr->α->Prop}
def At (R:Hp->Addr->α->Prop) (H:Hp) (bs:List Addr) (xs:List α):Prop:=bs.length=xs.length∧∀ (i:Nat) (b:Addr) (x:α),bs[i]?=some b->xs[i]?=some x->R H b x
def Mo (R:Hp->Addr->α->Prop):Prop:=∀ {H H':Hp} {b:Addr} {x:α},Same H H'->R H b x->R H' b x
theorem At.nil {H:Hp}:At R H [] []:=⟨rfl,fun i b x e=>by simp at e⟩
theorem At.keep {H H':Hp} {bs:List Addr} {xs:List α} (h:At R H bs xs) (m:Mo R) (s:Same H H'):At R H' bs xs:=⟨h.1,fun i b x e1 e2=>m s (h.2 i b x e1 e2)⟩
theorem At.snoc {H:Hp} {bs:List Addr} {xs:List α} {b:Addr} {x:α} (h:At R H bs xs) (r:R H b x):At R H (bs++[b]) (xs++[x]):=by
 refine ⟨by simp [h.1],fun i c y e1 e2=>?_⟩
 have hl:=h.1
 rcases Nat.lt_or_ge i bs.length with z | z
 ·rw [List.getElem?_append_left z] at e1
  rw [List.getElem?_append_left (by omega)] at e2
  exact h.2 i c y e1 e2
 ·rw [List.getElem?_append_right z] at e1
  rw [List.getElem?_append_right (by omega)] at e2
  rw [hl] at e1
  cases hi:i-xs.length with
  | zero=>rw [hi] at e1 e2; cases e1; cases e2; exact r
  | succ k=>rw [hi] at e1; simp at e1
theorem At.app {H:Hp} {bs cs:List Addr} {xs ys:List α} (h:At R H bs xs) (g:At R H cs ys):At R H (bs++cs) (xs++ys):=by
 refine ⟨by simp [h.1,g.1],fun i c y e1 e2=>?_⟩
 have hl:=h.1
 rcases Nat.lt_or_ge i bs.length with z | z
 ·rw [List.getElem?_append_left z] at e1
  rw [List.getElem?_append_left (by omega)] at e2
  exact h.2 i c y e1 e2
 ·rw [List.getElem?_append_right z] at e1
  rw [List.getElem?_append_right (by omega)] at e2
  rw [hl] at e1
  exact g.2 _ c y e1 e2
theorem At.take {H:Hp} {bs:List Addr} {xs:List α} (h:At R H bs xs) (k:Nat):At R H (bs.take k) (xs.take k):=by
 refine ⟨by simp [h.1],fun i c y e1 e2=>?_⟩
 rw [List.getElem?_take] at e1 e2
 split at e1
 ·rename_i hk; rw [if_pos hk] at e2; exact h.2 i c y e1 e2
 ·cases e1
theorem At.drop {H:Hp} {bs:List Addr} {xs:List α} (h:At R H bs xs) (k:Nat):At R H (bs.drop k) (xs.drop k):=by
 refine ⟨by simp [h.1],fun i c y e1 e2=>?_⟩
 rw [List.getElem?_drop] at e1 e2
 exact h.2 _ c y e1 e2
theorem At.set {H:Hp} {bs:List Addr} {xs:List α} {b:Addr} {x:α} (h:At R H bs xs) (k:Nat) (r:R H b x):At R H (bs.set k b) (xs.set k x):=by
 refine ⟨by simp [h.1],fun i c y e1 e2=>?_⟩
 rw [List.getElem?_set] at e1 e2
 by_cases hk:k=i
 ·subst hk
  have hl:=h.1
  by_cases hb:k<bs.length
  ·rw [if_pos rfl,if_pos hb] at e1
   rw [if_pos rfl,if_pos (by omega)] at e2
   cases e1; cases e2; exact r
  ·rw [if_pos rfl,if_neg hb] at e1; cases e1
 ·rw [if_neg hk] at e1 e2
  exact h.2 _ c y e1 e2
theorem At.get {H:Hp} {bs:List Addr} {xs:List α} {i:Nat} {x:α} (h:At R H bs xs) (e:xs[i]?=some x):∃ b,bs[i]?=some b∧R H b x:=by
 have hi:i<bs.length:=by rw [h.1]; exact (List.getElem?_eq_some_iff.mp e).1
 exact ⟨bs[i],List.getElem?_eq_getElem hi,h.2 i _ x (List.getElem?_eq_getElem hi) e⟩
theorem At.ref {H:Hp} {bs:List Addr} {xs:List α} {i:Nat} {v:V} (h:At R H bs xs) (e:(bs.map V.ref)[i]?=some v):∃ b x,v=.ref b∧bs[i]?=some b∧xs[i]?=some x∧R H b x:=by
 rw [List.getElem?_map] at e
 cases q:bs[i]? with
 | none=>rw [q] at e; cases e
 | some b =>
  rw [q] at e
  have hi:i<xs.length:=by rw [←h.1]; exact (List.getElem?_eq_some_iff.mp q).1
  exact ⟨b,xs[i],(Option.some.inj e).symm,rfl,List.getElem?_eq_getElem hi,h.2 i b _ q (List.getElem?_eq_getElem hi)⟩
theorem ref_at {bs:List Addr} {i:Nat} {b:Addr} (h:bs[i]?=some b):(bs.map V.ref)[i]?=some (.ref b):=by rw [List.getElem?_map,h]; rfl
def TupR (R:Hp->Addr->α->Prop) (H:Hp) (b:Addr) (xs:List α):Prop:=∃ bs:List Addr,H b=some (.tup (bs.map V.ref))∧At R H bs xs
def LstR (R:Hp->Addr->α->Prop) (H:Hp) (b:Addr) (xs:List α):Prop:=∃ bs:List Addr,H b=some (.lst (bs.map V.ref))∧At R H bs xs
theorem mo_tup (m:Mo R):Mo (TupR R):=fun s ⟨bs,e,h⟩=>⟨bs,s _ _ e,h.keep m s⟩
theorem mo_lst (m:Mo R):Mo (LstR R):=fun s ⟨bs,e,h⟩=>⟨bs,s _ _ e,h.keep m s⟩
end
def FrR (H:Hp) (b:Addr) (q:Rat):Prop:=H b=some (.tup [.int q.num,.int q.den])
def IntsL (H:Hp) (b:Addr) (ns:List Int):Prop:=H b=some (.lst (ns.map V.int))
theorem mo_fr:Mo FrR:=fun s h=>s _ _ h
theorem mo_ints:Mo IntsL:=fun s h=>s _ _ h
theorem FrR.del {H:Hp} {a b:Addr} {q:Rat} {ys:List V} (h:FrR H b q) (e:H a=some (.lst ys)):FrR (del H a) b q:=del_at h fun z=>by rw [z] at h; unfold FrR at h; rw [e] at h; cases h
theorem at_del {H:Hp} {a:Addr} {ys:List V} (e:H a=some (.lst ys)) {bs:List Addr} {qs:List Rat} (h:At FrR H bs qs):At FrR (del H a) bs qs:=⟨h.1,fun i b x e1 e2=>(h.2 i b x e1 e2).del e⟩
structure Run (J:It) (H1:Hp) (n:Nat) (f:Nat->Hp->V->Hp->Prop):Prop where
 go:∀ i H2,i<n->Same H1 H2->J.go i H2
 yl:∀ i H2 x H3,i<n->Same H1 H2->J.yld i H2 x H3->f i H2 x H3
 st:∀ H2,Same H1 H2->J.stop n H2
section
variable {K:PySem.W.Frag}
theorem run_tup {H:Hp} {a:Addr} {xs:List V} (h:H a=some (.tup xs)):Run (Itt K a) H xs.length (fun i H2 x H3=>H3=H2∧xs[i]?=some x) :=
 ⟨fun i H2 hi s=>⟨xs,xs[i],SqT.of (s _ _ h),List.getElem?_eq_getElem hi⟩,fun i H2 x H3 _ s y=>⟨y.1,y.2 _ (SqT.of (s _ _ h))⟩,fun H2 s=>⟨xs,SqT.of (s _ _ h),Nat.le_refl _⟩⟩
theorem run_list {H:Hp} {a:Addr} {xs:List V} (h:H a=some (.lst xs)):Run (Itl K a) H xs.length (fun i H2 x H3=>H3=H2∧xs[i]?=some x) :=
 ⟨fun i H2 hi s=>⟨xs,xs[i],SqL.of (s _ _ h),List.getElem?_eq_getElem hi⟩,fun i H2 x H3 _ s y=>⟨y.1,y.2 _ (SqL.of (s _ _ h))⟩,fun H2 s=>⟨xs,SqL.of (s _ _ h),Nat.le_refl _⟩⟩
theorem run_range {H:Hp} {lo:Int} {n:Nat}:Run (Itr lo n) H n (fun i H2 x H3=>H3=H2∧x=.int (lo+i)):=⟨fun _ _ hi _=>hi,fun _ _ _ _ _ _ y=>y,fun _ _=>Nat.le_refl _⟩
theorem run_zip {H:Hp} {a b:Addr} {t1 t2:Bool} {xs ys:List V} (h1:∀ H2,Same H H2->SqS t1 K H2 a xs) (h2:∀ H2,Same H H2->SqS t2 K H2 b ys) (hl:xs.length=ys.length) :
  Run (Itk K t1 t2 a b) H xs.length (fun i H2 x H3=>∃ p u v,x=.ref p∧H2 p=none∧H3=upd H2 p (.tup [u,v])∧xs[i]?=some u∧ys[i]?=some v) :=
 ⟨fun i H2 hi s=>⟨xs,ys,xs[i],ys[i],h1 _ s,h2 _ s,List.getElem?_eq_getElem hi,List.getElem?_eq_getElem (by omega)⟩,fun i H2 x H3 _ s y=>by
  obtain ⟨p,u,v,e1,e2,e3,e4,e5⟩:=y
  exact ⟨p,u,v,e1,e2,e3,e4 _ (h1 _ s),e5 _ (h2 _ s)⟩,fun H2 s=>⟨xs,ys,h1 _ s,h2 _ s,.inl (Nat.le_refl _)⟩⟩
theorem comp_run {J:It} {n:Nat} {H1:Hp} {f:Nat->Hp->V->Hp->Prop} {acc:Addr} {σ0:St} {g:TG} {te:TE} {G:Hp->Prop} (r:Run J H1 n f) (hn:n≤1000) (hacc:H1 acc=none) (Iv:Nat->List V->St->Hp->Prop) (h0:Iv 0 [] σ0 H1)
  (hs:∀ (i:Nat) (ys:List V) (σ:St) (H2:Hp) (x:V) (H3:Hp),i<n->Same H1 H2->H2 acc=some (.lst ys)->Iv i ys σ (del H2 acc)->f i H2 x H3->∀ C:St->VK,(∀ (σ4:St) (v:V) (H5:Hp),Same H2 H5->Iv (i+1) (ys++[v]) σ4 (del H5 acc)->C σ4 v H5) →
   g x σ H3 fun σ4 H4=>te σ4 H4 (C σ4))
  (fin:∀ (ys:List V) (σ:St) (H2:Hp),Same H1 H2->H2 acc=some (.lst ys)->ys.length=n->Iv n ys σ (del H2 acc)->G H2) :
  ∃ W:Nat->Nat->List V->St->Hp->Prop,(∃ m,W 0 m [] σ0 (upd H1 acc (.lst [])))∧∀ i m ys σc H2,W i m ys σc H2 →
   (J.stop i H2∧G H2)∨(J.go i H2∧∀ x H3,J.yld i H2 x H3->g x σc H3 fun σ4 H4=>te σ4 H4 fun v H5=>H5 acc=some (.lst ys)∧ys.length<sizeLine∧∃ m',m' < m∧W (i+1) m' (ys++[v]) σ4 (upd H5 acc (.lst (ys++[v])))):=by
 refine ⟨fun i m ys σ H2=>m=n-i∧i≤n∧Same H1 H2∧H2 acc=some (.lst ys)∧ys.length=i∧Iv i ys σ (del H2 acc),⟨n,rfl,Nat.zero_le _,?_,upd_same,rfl,?_⟩,?_⟩
 ·intro b o e; rw [upd_ne (ne_of_none e hacc)]; exact e
 ·rw [del_upd,del_new hacc]; exact h0
 ·rintro i m ys σc H2 ⟨rfl,hi,sm,ha,hl,iv⟩
  rcases Nat.lt_or_ge i n with hlt | hge
  ·refine .inr ⟨r.go i H2 hlt sm,fun x H3 yl=>?_⟩
   refine hs i ys σc H2 x H3 hlt sm ha iv (r.yl i H2 x H3 hlt sm yl) (fun σ4 v H5=>H5 acc=some (.lst ys)∧ys.length<sizeLine∧∃ m',m' < n-i∧(m'=n-(i+1)∧i+1≤n∧Same H1 (upd H5 acc (.lst (ys++[v])))∧(upd H5 acc (.lst (ys++[v]))) acc=some (.lst (ys++[v]))∧(ys++[v]).length=i+1∧Iv (i+1) (ys++[v]) σ4 (del (upd H5 acc (.lst (ys++[v]))) acc))) ?_
   intro σ4 v H5 s5 iv5
   refine ⟨s5 _ _ ha,by rw [sizeLine_eq]; omega,n-(i+1),by omega,rfl,hlt,?_,upd_same,by simp [hl],?_⟩
   ·intro b o e; rw [upd_ne (ne_of_none e hacc)]; exact s5 _ _ (sm _ _ e)
   ·rw [del_upd]; exact iv5
  ·obtain rfl:i=n:=by omega
   exact .inl ⟨r.st H2 sm,fin ys σc H2 sm ha hl iv⟩
end
end My
namespace L2
open PySem PySem.Spec PyProof.Rows PySem.W
section
variable {X:Cx} {pins:List (Addr×Obj)} {σ:St} {H:Hp} {s:Shared} {h':Heap}
theorem Inv.put {a:Addr} {o:HO} {t':Nat} (I:Inv X pins σ H s) (k:∀ b u,s.heap.get? b=some u->h'.get? b=some u) (hn:s.heap.get? a=none) (new:ObjOk X.prog X.w (upd H a o) h' a o):Inv X pins σ (upd H a o) { s with heap:=h',toks:=t' }:=by
 have na:H a=none:=free_of_none I.hok hn
 have ne:∀ {b:Addr} {u:Obj},s.heap.get? b=some u->b≠a:=fun e z=>by rw [z,hn] at e; cases e
 refine I.un ⟨fun b u q _ _ _=>k b u q,fun b u q _ _ _=>⟨u.slots,k b u q⟩,fun b u q n _=>by rw [upd_ne (ne q)]; exact n,fun b u q _=>⟨u,k b u q⟩,fun b xs q=>by rw [upd_ne (ne_of_none q na)]; exact q,fun b u xs q=>by rw [upd_ne (ne_of_none q na)]; exact q,fun b ps q=>⟨#[],by rw [upd_ne (ne_of_none q na),q]; simp⟩⟩ fun b u e=>?_
 by_cases hb:b=a
 ·subst hb; rw [upd_same] at e; cases e; exact new
 ·rw [upd_ne hb] at e
  exact (I.hok b u e).stay (fun c v _ q=>k c v q) (fun c q=>by rw [upd_ne (ne_of_none q na)]; exact q) fun c xs q=>by rw [upd_ne (ne_of_none q na)]; exact q
theorem Inv.put2 {a d:Addr} {φ:Heap->Prop} {o1 o2:HO} {t':Nat} (I:Inv X pins σ H s) (ha:H a=some (.ext φ)) (k:∀ b u,b≠a->s.heap.get? b=some u->h'.get? b=some u) (hex:∃ u,h'.get? a=some u) (hn:s.heap.get? d=none)
  (new1:ObjOk X.prog X.w (upd (upd H a o1) d o2) h' a o1) (new2:ObjOk X.prog X.w (upd (upd H a o1) d o2) h' d o2):Inv X pins σ (upd (upd H a o1) d o2) { s with heap:=h',toks:=t' }:=by
 have nd:H d=none:=free_of_none I.hok hn
 have ad:a≠d:=ne_of_none ha nd
 have ne:∀ {b:Addr} {u:Obj},s.heap.get? b=some u->b≠d:=fun e z=>by rw [z,hn] at e; cases e
 have nh:∀ {b:Addr},H b=none->b≠a:=fun e z=>by rw [z,ha] at e; cases e
 have old:∀ {b:Addr} {o:HO},b≠a->H b=some o->upd (upd H a o1) d o2 b=some o:=fun n e=>by rw [upd_ne (ne_of_none e nd),upd_ne n]; exact e
 have na:∀ {b:Addr} {o:HO},H b=some o->(∀ ψ,o≠.ext ψ)->b≠a:=fun e n z=>by rw [z,ha] at e; exact n φ (Option.some.inj e).symm
 refine I.un ⟨fun b u q n _ _=>k b u (nh n) q,fun b u q n _ _=>⟨u.slots,k b u (nh n) q⟩,fun b u q n _=>by rw [upd_ne (ne q),upd_ne (nh n)]; exact n,fun b u q _=>?_,fun b xs q=>old (na q fun _ z=>by cases z) q,fun b u xs q=>old (na q fun _ z=>by cases z) q,fun b ps q=>⟨#[],by rw [old (na q fun _ z=>by cases z) q]; simp⟩⟩ fun b u e=>?_
 ·by_cases z:b=a
  ·rw [z]; exact hex
  ·exact ⟨u,k b u z q⟩
 ·by_cases z1:b=d
  ·subst z1; rw [upd_same] at e; cases e; exact new2
  rw [upd_ne z1] at e
  by_cases z2:b=a
  ·subst z2; rw [upd_same] at e; cases e; exact new1
  rw [upd_ne z2] at e
  refine (I.hok b u e).stay (fun c v hc q=>k c v ?_ q) (fun c q=>old (na q fun _ z=>by cases z) q) fun c xs q=>old (na q fun _ z=>by cases z) q
  rcases hc with rfl | hc
  ·exact z2
  ·exact na hc fun _ z=>by cases z
end
def excN (a C t:Addr):HO:=.ext fun h=>h.get? a=some (excD C t none)
def excF (a C t d:Addr):HO:=.ext fun h=>h.get? a=some (excD C t (some d))
section
variable {P:Program} {w:World} {H:Hp} {h:Heap} {a C t d:Addr}
theorem excN_ok (e:h.get? a=some (excD C t none)):ObjOk P w H h a (excN a C t):=⟨e,⟨_,e⟩,fun _ _ p k=>k _ p⟩
theorem excF_ok (e:h.get? a=some (excD C t (some d))):ObjOk P w H h a (excF a C t d):=⟨e,⟨_,e⟩,fun _ _ p k=>k _ p⟩
theorem excN_get (ok:HOk P w H h) (e:H a=some (excN a C t)):h.get? a=some (excD C t none):=(show ObjOk P w H h a (excN a C t) from ok _ _ e).1
theorem excF_get (ok:HOk P w H h) (e:H a=some (excF a C t d)):h.get? a=some (excD C t (some d)):=(show ObjOk P w H h a (excF a C t d) from ok _ _ e).1
theorem xd_ok {f:Str} {y:V} {u:Value} (r:RelV y u) (n:h.Ns1 d (fun z=>if z=f then some u else none)):ObjOk P w H h d (.xd [(f,y)]):=by
 refine ⟨_,n,fun g=>?_⟩
 by_cases z:g=f
 ·subst z
  simp only [List.lookup_cons,beq_self_eq_true,if_true]
  exact r
 ·have zb:(g == f)=false:=by simp [z]
  simp only [List.lookup_cons,zb,List.lookup_nil,if_neg z]
  first | exact trivial | rfl
end
def XStore (K:Frag) (C:Addr) (f:Str):Prop:=findIn K (.ref C) "__setattr__" = some (some (.builtin "object.__setattr__"))∧exIn K C=true∧findIn K (.ref C) f=some none
def sFldX (K:Frag) (ta tv:TE) (f:Str):TS:=fun D σ H=>tv σ H fun y H1=>ta σ H1 fun x H2=>∃ a C t,x=.ref a∧H2 a=some (excN a C t)∧XStore K C f∧∀ d,H2 d=none->D.nx σ (upd (upd H2 a (excF a C t d)) d (.xd [(f,y)]))
theorem ps_fldX {X:Cx} {o value:PySem.Expr} {f:Str} {pos pos':Pos} {ta tv:TE} (ha:PE X o ta) (hv:PE X value tv) (hs:swapsWith value (some (.Attribute o f pos')) pos.line X.env=pure false):PS X (.Assign [.Attribute o f pos'] value pos) (sFldX X.K ta tv f):=by
 intro pins s σ H D I h
 refine plainObj_wpAny_Assign_Attribute (thn (hv pins s σ H _ I h) fun u s1 ⟨y,H1,I1,ry,q⟩=>thn (ha pins s1 σ H1 _ I1 q) fun ov s2 ⟨x,H2,I2,rx,a,C,t,ex,ea,⟨x1,x2,x3⟩,q2⟩=>?_) hs
 subst ex
 obtain rfl:ov=Value.ref a:=rx
 have ga:=excN_get I2.hok ea
 refine xset I2.kIn ga rfl rfl rfl x1 x2 x3 fun h' d tk hd hx hn hk=>⟨σ,_,?_,q2 d (free_of_none I2.hok hd)⟩
 exact I2.put2 (t':=tk) ea hk ⟨_,hx⟩ hd (excF_ok hx) (xd_ok ry hn)
end L2
namespace L2
open PySem PySem.Spec PyProof.Rows PySem.W
section
variable {P:Program} {w:World} {K:PySem.W.Frag} {mg:Str->Option Value} {base:Heap} {N:List Str} {qual:Str} {scope:Scope} {f:Addr} {cd:Value} {A:Around} {outer:List Env} {s₀:Shared} {H₀:Hp} {E:XK}
def RaiseOutI (X:Cx) (E:XK):Prop:=∀ (pins:List (Addr×Obj)) (σ:St) (H:Hp) (s:Shared) (e C t d:Addr),Inv X pins σ H s->H e=some (excF e C t d)->X.s₀.heap.get? e=none->E (.ref C) none (My.del H e)->X.xe (.ref e) s
theorem raise_outI:RaiseOutI (cxOf (CXr P w) P w K mg base N qual scope f cd A outer s₀ H₀ E) E:=by
 intro pins σ H s e C t d I hH n0 hE
 have ge:=excF_get I.hok hH
 have nex:∀ b:Addr,b∉([]:List Addr):=fun b z=>by simp at z
 have n0':s₀.heap.get? e=none:=n0
 have ne0:∀ {b:Addr} {o:Obj},s₀.heap.get? b=some o->b≠e:=fun q z=>by rw [z,n0'] at q; cases q
 have nfr:∀ b o,H b=some o->b∉frs (envOfC qual scope s₀.heap.objs.size f cd :: outer):=fun b o q z=>by
  have:=I.stkFree b z
  rw [q] at this
  cases this
 have noL:∀ b o,s₀.heap.get? b=some o->b∉frs outer->b∉frs (envOfC qual scope s₀.heap.objs.size f cd :: outer):=fun b o q hb z=>by
  rcases List.mem_cons.mp (I.stkSub b z) with z | z
  ·exact absurd (Heap.lt_size q) (by rw [z]; exact Nat.lt_irrefl _)
  ·exact hb z
 obtain ⟨Bh,eB⟩:∃ Bh,Bh=PySem.W.hideAll s.heap (e :: frs (envOfC qual scope s₀.heap.objs.size f cd :: outer)):=⟨_,rfl⟩
 have gB:∀ b o,s.heap.get? b=some o->b≠e->b∉frs (envOfC qual scope s₀.heap.objs.size f cd :: outer)->Bh.get? b=some o:=fun b o q n1 n2=>by
  rw [eB]
  exact PySem.W.hideAll_get _ q fun z=>(List.mem_cons.mp z).elim n1 n2
 have eN:Bh.get? e=none:=by rw [eB]; exact PySem.W.hideAll_none _ (.head _)
 have stB:Bh.StaysIn s.heap:=fun b o q=>by rw [eB] at q; exact PySem.W.of_hideAll _ q
 have flB:s.heap.FunFrames Bh (envOfC qual scope s₀.heap.objs.size f cd :: outer):=by
  rw [eB]
  exact PySem.W.funFrames_hide I.stack fun env he b hb=>List.mem_cons_of_mem _ (List.mem_filterMap.mpr ⟨env,he,hb⟩)
 clear eB
 have nx:∀ {b:Addr} {o:HO},H b=some o->(∀ ψ,o≠.ext ψ)->b≠e:=fun q n z=>by rw [z,hH] at q; exact n _ (Option.some.inj q).symm
 have hokB:HOk P w (My.del H e) Bh:=fun b o q=>by
  have nb:b≠e:=fun z=>by rw [z,My.del_self] at q; cases q
  rw [My.del_ne nb] at q
  refine (I.hok b o q).stay (fun c v hc z=>gB c v z ?_ ?_) (fun c z=>My.del_at z (nx z fun _ y=>by cases y)) fun c xs z=>My.del_at z (nx z fun _ y=>by cases y)
  ·rcases hc with hc | hc
   ·rw [hc]; exact nb
   ·exact nx hc fun _ y=>by cases y
  ·rcases hc with hc | hc
   ·rw [hc]; exact nfr b o q
   ·exact nfr c _ hc
 have kB:∀ b o,s₀.heap.get? b=some o->H₀ b=none->b∉frs outer->Bh.get? b=some o:=fun b o q n hb=>gB b o (I.base.keep b o q n hb (nex b)) (ne0 q) (noL b o q hb)
 have tB:∀ b o,s₀.heap.get? b=some o->b∉frs outer->∃ o',Bh.get? b=some o':=fun b o q hb=>by
  obtain ⟨o1,q1⟩:=I.base.there b o q (nex b)
  exact ⟨o1,gB b o1 q1 (ne0 q) (noL b o q hb)⟩
 refine wpAny_leaving_firstW (a0:=.ref t) I.ok.frames flB rfl ge stB eN rfl rfl rfl fun h'' hL=>?_
 obtain ⟨j1,⟨_,_,j2⟩,j3,j4⟩:=hL
 have fl:Heap.FlyingW Bh outer e (.ref C) (.ref t) h'':=⟨j1,eN,j2,j3⟩
 refine ⟨e,t,.ref C,Bh,My.del H e,rfl,I.os,I.bare,?_,kB,tB,hokB,fl,n0',My.del_self _ _,hE⟩
 have slot':∀ b o,s₀.heap.get? b=some o->H₀ b=none->b∈frs outer->∃ sl,h''.get? b=some { o with slots:=sl }:=fun b o q n hb=>by
  obtain ⟨sl,q1⟩:=I.base.slot b o q n hb (nex b)
  obtain ⟨_,o2,q3,nf⟩:=I.funs.mem hb
  rw [q1] at q3
  cases q3
  obtain ⟨sl2,q4⟩:=j4 b _ q1 nf
  exact ⟨sl2,q4⟩
 refine ⟨fun b o q n hb _=>fl.1 b o (kB b o q n hb),fun b o q n hb _=>slot' b o q n hb,fun b o q n _=>by rw [My.del_ne (ne0 q)]; exact I.base.free b o q n (nex b),fun b o q _=>?_,fun b xs q=>?_,fun b o u q=>?_,fun b ps q=>?_⟩
 ·by_cases hb:b∈frs outer
  ·obtain ⟨sl,q1⟩:=slot' b o q (I.ok.frf b hb) hb
   exact ⟨_,q1⟩
  ·obtain ⟨o1,q1⟩:=tB b o q hb
   exact ⟨o1,fl.1 b o1 q1⟩
 ·have:=I.base.tups b xs q
  exact My.del_at this (nx this fun _ y=>by cases y)
 ·have:=I.base.frzs b o u q
  exact My.del_at this (nx this fun _ y=>by cases y)
 ·obtain ⟨more,this⟩:=I.base.tbls b ps q
  exact ⟨more,My.del_at this (nx this fun _ y=>by cases y)⟩
end
end L2
namespace L2
open PySem PySem.Spec PyProof.Rows PySem.W
def excI (K:Frag) (C:Addr) (bmB:List Value) (newId:String) (fI:Addr):Bool:=match K.lookup C with
 | some ⟨.type "type",_,.cls cd,sl⟩=>(match cd.mro,sl.toList with
  | .ref D :: tl,[_,_,_,_,some (.builtin n),_]=>D == C && n == newId && !cd.hasDel && tailIn K bmB tl && nsOkIn K cd.ns && nsIn K cd.ns "__init__" == some (some (.ref fI))
  | _,_=>false)
 | _=>false
theorem ns_some_of {K:Frag} {h:Heap} {N:Addr} {m:Str->Option Value} {n:Str} {v:Value} (X:K.In h) (G:h.Ns N m) (e:nsIn K N n=some (some v)):m n=some v:=by
 obtain ⟨o,es,ep,ho,hd,_,hf⟩:=G
 unfold nsIn at e
 split at e
 ·rename_i _ _ _ _ _ q
  have hq:=X _ _ q
  rw [ho] at hq
  cases hq
  cases hd
  split at e
  ·rename_i _ he
   cases e
   rw [←hf]
   show (nsFind _ _)=_
   unfold nsFind findBy
   rw [←Array.find?_toList,he] <;> rfl
  ·split at e <;> cases e
 ·cases e
theorem exc_clsI {K:Frag} {h:Heap} {C fI:Addr} {bm:List Value} {newId:String} (X:K.In h) (q:excI K C bm newId fI=true) :
  ∃ tl N nm qn bs hdct sn sub ab col dd k0 k1 k2 k3 k5 mN,h.get? C=some (ClsE nm qn C N bs tl hdct sn sub ab col dd k0 k1 k2 k3 k5 newId)∧h.Ns N mN∧mN "__init__" = some (.ref fI)∧OwnTail h bm tl:=by
 unfold excI at q
 split at q
 case h_2=>cases q
 case h_1 dd cd sl ho =>
  split at q
  case h_2=>cases q
  case h_1 D tl k0 k1 k2 k3 n k5 hm hs =>
   simp only [Bool.and_eq_true,beq_iff_eq,Bool.not_eq_true'] at q
   obtain ⟨⟨⟨⟨⟨e1,e2⟩,hdel⟩,ht⟩,hok⟩,hni⟩:=q
   subst e1
   subst e2
   obtain ⟨nm,bs,mro,ns,qn,hd,sn,sub,ab,col,del⟩:=cd
   obtain ⟨sl⟩:=sl
   dsimp only at hm hdel hok hni hs
   subst hm
   subst hdel
   subst hs
   have hN:=Heap.Ns.of_isNs (PySem.W.isNs_of_in X hok)
   exact ⟨tl,ns,nm,qn,bs,hd,sn,sub,ab,col,dd,k0,k1,k2,k3,k5,_,X _ _ ho,hN,ns_some_of X hN hni,PySem.W.tail_of_in X ht⟩
def tRaiseI (C:Addr) (sp:Sp) (E:XK) (ta:TA):TS:=fun _ σ H=>ta σ H fun vs H1=>vs.length≤sizeLine∧∀ e t,H1 e=none->sp (.ref e :: vs) (upd H1 e (excN e C t)) (fun v H2=>v=.non∧(∃ d,H2 e=some (excF e C t d))∧E (.ref C) none (My.del H2 e)) E0
theorem ps_raiseI {X:Cx} {x:Str} {C fI:Addr} {fd:FuncData} {ps:List Str} {sp:Sp} {k:Nat} {e0:PySem.Expr} {rest:List PySem.Expr} {ta:TA} {B newId initId:String} {bm:List Value} {E:XK} {np cpos pos:Pos} (hg:Gl X x) (hm:X.mg x=some (.ref C)) (q:excI X.K C bm newId fI=true)
  (FB:ExcBaseFacts B newId initId bm) (hc:X.calm=true) (ho:RaiseOutI X E) (F:FnOk X.prog X.w X.K X.mg X.base CX0 k fI fd ps sp) (hr:Room (k+1) X.A) (hb:Binds X.K fd ps []) (hfn:isFn X.K (.ref fI)=true) (ha:PA X (e0 :: rest) ta) (hdb:(x == ("__debug__":Str))=false:=by decide)
  (he:starEach (e0 :: rest) X.env=(false,eval e0 X.env) :: starEach rest X.env:=by rfl) (hpl:(backTo cpos (starEach rest X.env)).any (·.1)=false:=by rfl) (hex:X.ex=[]:=by rfl) :
  PS X (.Raise (some (.Call (.Name x np) (e0 :: rest) [] cpos)) none pos) (tRaiseI C sp E ta):=by
 intro pins s σ H D I h
 obtain ⟨tl,N,nm,qn,bs,hdct,sn,sub,ab,col,dd,k0,k1,k2,k3,k5,mN,hC,hN,hni,TL⟩:=exc_clsI I.ok.mod.kin q
 obtain ⟨oI,hoI,hcI⟩:∃ oI,X.base.get? fI=some oI∧oI.cls=.type "function":=by
  obtain ⟨o,ho,hc⟩:=Option.map_eq_some_iff.mp (show (X.K.lookup fI).map (·.cls)=some (.type "function") from beq_iff_eq.mp hfn)
  exact ⟨o,I.ok.mod.kin _ _ ho,hc⟩
 refine raise_callI (C:=C) (nm:=nm) (qn:=qn) (N:=N) (bs:=bs) (tl:=tl) (hdct:=hdct) (sn:=sn) (sub:=sub) (ab:=ab) (col:=col) (dd:=dd) (k0:=k0) (k1:=k1) (k2:=k2) (k3:=k3) (k5:=k5) (oI:=oI)
  FB (mN:=mN) (TL.hasType FB.hasBase) (I.ok.hd hc) ?_ hni hcI (ld_glob I hg hm ⟨rfl,?_⟩ hdb)
 ·rw [he]
  show (false || (backTo cpos (starEach rest X.env)).any (·.1))=false
  rw [hpl]
  rfl
 ·have hargs:=ha cpos pins s σ H _ I h
  rw [he] at hargs ⊢
  refine Calls.evalArgs_plain (thn hargs fun us s1 ⟨vs,H1,I1,r,z,q1⟩=>⟨rfl,?_,I1.bk _ _ hC,hN.keeps I1.bk,TL.keeps I1.bk,I1.bk _ _ hoI,fun h' e t hx ht=>?_⟩)
  ·rw [←r.length]
   exact z
  have n1:H1 e=none:=free_of_none I1.hok hx.new
  have I2:Inv X pins σ (upd H1 e (excN e C t)) { s1 with heap:=h' }:=I1.put (t':=s1.toks) hx.keeps hx.new (excN_ok ht)
  have n0:X.s₀.heap.get? e=none:=by
   cases y:X.s₀.heap.get? e with
   | none=>rfl
   | some o =>
    obtain ⟨o1,y1⟩:=I1.base.there e o y (by rw [hex]; simp)
    rw [hx.new] at y1
    cases y1
  have q2:=q1 e t n1
  have rv:Vals (.ref e :: vs) (.ref e :: us):=.cons rfl r
  have hl:(Value.ref e :: us).length=ps.length:=by rw [←rv.length]; exact F.len _ _ _ _ q2
  refine wpAny_call (codeAny_mono (F.run _ X.stack _ _ ⟨.ref e :: us,[]⟩ (.ref e :: us) (.ref e :: vs) _ E0 (hr.make C us []) (I2.env0.make C us []) (by have:=hb { s1 with heap:=h' } (.ref e :: us) I2.kIn (by simpa using hl); simpa using this) rv q2) fun r' s' hq=>?_)
  cases r' with
  | error e=>exact False.elim hq
  | ok fl =>
   cases fl with
   | next=>exact False.elim hq
   | brk=>exact False.elim hq
   | cont=>exact False.elim hq
   | ret u =>
    obtain ⟨v,H3,I3,rv3,e3,⟨d,hd3⟩,hE3⟩:=I2.after hq
    subst e3
    obtain rfl:u=Value.none:=rv3
    exact ⟨rfl,⟨some d,excF_get I3.hok hd3⟩,I3.bk _ _ hC,ho pins σ H3 s' e C t d I3 hd3 n0 hE3⟩
end L2
namespace My
open PySem L2 PySem.Spec PyProof.Rows
section
variable {X:Cx} {pins:List (Addr×Obj)} {σ:L2.St} {H:Hp} {s:Shared}
def isNo (H:Hp):Value->Bool
 | .ref b=>match H b with
  | some (.tup [.int n,.int d])=>n == 0 && d == 1
  | _=>false
 | _=>false
end
end My
namespace L2
open PySem PySem.Spec PyProof.Rows
section
variable {X:Cx}
def rIndex:V->List V->Hp->VK->Prop:=fun x vs H Q=>∃ (l:Addr) (ns:List Int) (k:Int),x=.ref l∧vs=[.int k]∧H l=some (.lst (ns.map V.int))∧k∈ns∧ns.length≤1000000∧Q (.int ((ns.idxOf k:Nat):Int)) H
theorem mt_index:MtM X "list.index" rIndex:=by
 intro pins s σ H x vs v us Q I rx rv h
 obtain ⟨l,ns,k,rfl,rfl,hH,hk,hz,q⟩:=h
 cases rx
 obtain ⟨u,rfl,ru⟩:=rv.one
 obtain ⟨t,rfl⟩:=ru
 obtain ⟨z,its,n,r,hl,e⟩:=I.lstM hH
 have hi:=intsAre_of r
 have hlen:=hi.length
 have hj:ns.idxOf k<ns.length:=List.idxOf_lt_length_iff.mpr hk
 refine call_meets PySem.F.slot_list_index ⟨_,e,rfl⟩ PySem.F.entry_list_index (PySem.F.args_list_index_2 _ _)
  (MeetsSeq.list_index l its.toArray n (.int k t) (isInt k) (fun y hy=>eq_isInt k t hi y (by simpa using hy)) (ns.idxOf k) (by simpa [hlen] using hj) (by omega) ?_ ?_) ⟨e,⟨.int ((ns.idxOf k:Nat):Int),H,I.tok _,⟨_,rfl⟩,q⟩⟩
 ·show isInt k its[ns.idxOf k]=true
  rw [isInt_at k hi _ (by omega) hj]
  simpa using List.getElem_idxOf hj
 ·intro j hjs hlt
  show isInt k its[j]=false
  rw [isInt_at k hi j (by simpa using hjs) (by omega)]
  exact ne_of_lt_idxOf hlt _
theorem flat_ints (ns:List Int):(ns.map V.int).all flatV=true:=by
 induction ns with
 | nil=>rfl
 | cons n ns ih=>rw [List.map_cons,List.all_cons,ih]; rfl
theorem inV_ints (k:Int) (ns:List Int):inV (.int k) (ns.map V.int)=decide (k∈ns):=by
 unfold inV
 induction ns with
 | nil=>rfl
 | cons n ns ih =>
  rw [List.map_cons,List.any_cons,ih]
  have e:eqV (.int n) (.int k)=decide (k=n):=by
   show decide (n=k)=decide (k=n)
   by_cases h:n=k
   ·rw [decide_eq_true h,decide_eq_true h.symm]
   ·rw [decide_eq_false h,decide_eq_false (fun z=>h z.symm)]
  rw [e]
  by_cases h:k=n
  ·simp [h]
  ·simp [h]
end
end L2
namespace L2
open PySem PySem.Spec PyProof.Rows
section
variable {X:Cx} {K:PySem.W.Frag}
theorem ixT (h:X.K=K:=by rfl):IxR X (rIxT K):=h ▸ ix_tup
theorem ixL (h:X.K=K:=by rfl):IxR X (rIxL K):=h ▸ ix_list
theorem slL (h:X.K=K:=by rfl):SlR X (rSlL K):=h ▸ sl_list
theorem callLen (h:X.K=K:=by rfl):CallR X (.builtin "len") (LenR K):=h ▸ call_len_seq
theorem callTup (h:X.K=K:=by rfl):CallR X (.type "tuple") (fun xs H Q=>∃ p ys,xs=[.ref p]∧((SqL K H p ys∧∀ l,H l=none->Q (.ref l) (upd H l (.tup ys)))∨(SqT K H p ys∧Q (.ref p) H))):=h ▸ call_tuple_of
theorem callLst (h:X.K=K:=by rfl):CallR X (.type "list") (fun xs H Q=>∃ p ys,xs=[.ref p]∧(SqL K H p ys∨SqT K H p ys)∧∀ l,H l=none->Q (.ref l) (upd H l (.lst ys))):=h ▸ call_list_of
theorem pgTup {es:List PySem.Expr} {k:Nat} {t:TGs} {n:Nat} {pos:Pos} (hc:X.calm=true) (g:PGs X es t) (h:X.K=K:=by rfl)
  (hn:(assignEach es X.env).length=n:=by rfl) (hst:(assignEach es X.env).findIdx? (·.1)=none:=by rfl):PG X (.Tuple es k pos) (gTup K n t):=h ▸ pg_tup hc g hn hst
theorem piTup {tg l:PySem.Expr} {tl:TE} (hl:PE X l tl) (h:X.K=K:=by rfl):PI X tg l (iTup K tl):=h ▸ pi_tup hl
theorem piLst {tg l:PySem.Expr} {tl:TE} (hl:PE X l tl) (h:X.K=K:=by rfl):PI X tg l (iList K tl):=h ▸ pi_list hl
end
end L2
namespace L2
open PySem PySem.Spec PyProof.Rows
section
variable {prog:Program} {w:World} {A:Around} {E:Value->Shared->Prop} {s:Shared}
end
section
variable {X:Cx}
end
end L2
namespace L2
open PySem PySem.Spec PyProof.Rows PySem.SeqAt
section
variable {prog:Program} {w:World} {A:Around} {E:Value->Shared->Prop}
abbrev srch (items:Array Value) (x:Value):Nat->Option PySem.Fin×PUnit->Sem (ForInStep (Option PySem.Fin×PUnit)):=fun i _=>match items[i]? with
 | some y=>do let b ←eqBool y x; if b=true then (do let r ←retInt (i:Int); pure (ForInStep.done (some r,()))) else pure (ForInStep.yield (none,()))
 | _=>pure (ForInStep.yield (none,()))
theorem index_go (items:Array Value) (x:Value) (e:Value->Bool) (j:Nat) (hj:j<items.size) (hit:e items[j]=true) (hno:∀ m (hm:m<items.size),m<j->e items[m]=false) {Q:Option PySem.Fin×PUnit->Shared->Prop} :
  ∀ (k i:Nat) (s:Shared),i+k=j->(∀ y,y∈items->EqAt A s y x (e y))->Q (some (.done (.ret (.int j s.toks))),()) { s with toks:=s.toks+1 } →
   wpAny (model prog w) A (forIn (List.range' i (items.size-i) 1) ((none:Option PySem.Fin),()) (srch items x)) Q E s:=by
 intro k
 induction k with
 | zero =>
  intro i s hi he q
  have e1:i=j:=by omega
  subst e1
  rw [show items.size-i=(items.size-i-1)+1 by omega,List.range'_succ,List.forIn_cons]
  refine wpAny_bind ?_
  show wpAny _ _ (match items[i]? with | some y=>_ | _=>_) _ _ s
  rw [show items[i]?=some items[i] by simp [hj]]
  refine wpAny_bind (he _ (Array.getElem_mem hj) prog w _ _ ?_)
  rw [hit]
  wp_walk
  exact q
 | succ k ih =>
  intro i s hi he q
  have hl:i<items.size:=by omega
  rw [show items.size-i=(items.size-(i+1))+1 by omega,List.range'_succ,List.forIn_cons]
  refine wpAny_bind ?_
  show wpAny _ _ (match items[i]? with | some y=>_ | _=>_) _ _ s
  rw [show items[i]?=some items[i] by simp [hl]]
  refine wpAny_bind (he _ (Array.getElem_mem hl) prog w _ _ ?_)
  rw [hno i hl (by omega)]
  exact wpAny_pure (ih (i+1) s (by omega) he q)
set_option maxHeartbeats 1000000 in
theorem tuple_indexAt (t:Addr) (items:Array Value) (n:Nat) (dd:Option Addr) (sl:Array (Option Value)) (x:Value) (e:Value->Bool) (j:Nat) (hj:j<items.size)
  (hit:e items[j]=true) (hno:∀ m (hm:m<items.size),m<j->e items[m]=false) :
  Meets (Builtin.«tuple.index» ⟨[.ref t,x],[]⟩) (fun A R s=>s.heap.get? t=some { cls:=.type "tuple",dict:=dd,data:=.seq items n,slots:=sl }∧(∀ y,y∈items->EqAt A.in1 s y x (e y))∧R (.ok (.ret (.int j s.toks))) { s with toks:=s.toks+1 }):=by
 intro prog w A R s h
 obtain ⟨hp,g,d,tk,os⟩:=s; obtain ⟨ht,he,h⟩:=h
 wp_walk using AutoSeq1.wpAny_loadPart' ht
 show wpAny (model prog w) A.in1 (forIn [:min items.size items.size] ((none:Option PySem.Fin),()) (srch items x)) _ _ _
 rw [Std.Legacy.Range.forIn_eq_forIn_range']
 simp only [Std.Legacy.Range.size,Nat.min_self,Nat.sub_zero,Nat.add_sub_cancel,Nat.div_one]
 refine index_go (A:=A.in1) items x e j hj hit hno j 0 _ (by omega) he ?_
 wp_walk
 exact h
end
section
variable {X:Cx}
def rIndexT:V->List V->Hp->VK->Prop:=fun x vs H Q=>∃ (l:Addr) (ns:List Int) (k:Int),x=.ref l∧vs=[.int k]∧H l=some (.tup (ns.map V.int))∧k∈ns∧Q (.int ((ns.idxOf k:Nat):Int)) H
theorem mt_indexT:MtM X "tuple.index" rIndexT:=by
 intro pins s σ H x vs v us Q I rx rv h
 obtain ⟨l,ns,k,rfl,rfl,hH,hk,q⟩:=h
 cases rx
 obtain ⟨u,rfl,ru⟩:=rv.one
 obtain ⟨t,rfl⟩:=ru
 obtain ⟨its,r,⟨⟨c,dct,dt,sl⟩,e,hc,n,hd⟩,_⟩:=I.tuple (SqT.of (K:=X.K) hH)
 obtain rfl:c=.type "tuple":=hc
 obtain rfl:dt=.seq its.toArray n:=hd
 have hi:=intsAre_of r
 have hlen:=hi.length
 have hj:ns.idxOf k<ns.length:=List.idxOf_lt_length_iff.mpr hk
 refine call_meets PySem.F.slot_tuple_index ⟨_,e,rfl⟩ PySem.F.entry_tuple_index (PySem.F.args_tuple_index_2 _ _)
  (tuple_indexAt l its.toArray n dct sl (.int k t) (isInt k) (ns.idxOf k) (by simpa [hlen] using hj) ?_ ?_) ⟨e,fun y hy=>(eq_isInt k t hi y (by simpa using hy)).at _ _,⟨.int ((ns.idxOf k:Nat):Int),H,I.tok _,⟨_,rfl⟩,q⟩⟩
 ·show isInt k its[ns.idxOf k]=true
  rw [isInt_at k hi _ (by omega) hj]
  simpa using List.getElem_idxOf hj
 ·intro j hjs hlt
  show isInt k its[j]=false
  rw [isInt_at k hi j (by simpa using hjs) (by omega)]
  exact ne_of_lt_idxOf hlt _
end
end L2
namespace HT
open PySem PySem.Spec PyProof.Rows L2
section
variable {prog:Program} {w:World} {A:Around} {E:Value->Shared->Prop} {s:Shared}
theorem getItem_tuple_all {t sl:Addr} {items:Array Value} {vl vu:Value} {lo hi:Option Int} {Q:Value->Shared->Prop} (ht:IsTup s.heap t items) (hs:s.heap.IsSliceOf sl vl vu .none) (pl:IsPart vl lo) (pu:IsPart vu hi)
  (hw:sIx items.size 0 lo=0∧sIx items.size items.size hi=items.size) (h:Q (.ref t) s):wpAny (model prog w) A (getItem (.ref t) (.ref sl)) Q E s:=by
 obtain ⟨os,hos,hcs,hds⟩:=id hs
 have hTs:s.TypeIs (.ref sl) "slice":=⟨os,hos,hcs⟩; unfold getItem; try with_reducible refine wpAny_holding ?_
 first | refine wpAny_bind (wpAny_pure ?_) | skip
 refine wpAny_bind (wpAny_sequenceKey ht.typeIs (by decide) (wpAny_bind (wpAny_callSpecial?_slot (name:=Str.ofString "__getitem__") ht.typeIs PyProof.Rows.slot_tuple_getitem (wpAny_call_entry PyProof.Rows.slot_tuple_getitem ht.typeIs entry_tuple_getitem ?_ (args_tuple_getitem _ _)))))
 show wpAny _ _ (Builtin.Tuple.tupleItemsOf (.ref t) >>= _) _ _ s; refine wpAny_bind (tupleItemsOf_ ht (wpAny_bind (wpAny_typeOf hTs ?_)))
 rw [if_pos (by decide)]; refine wpAny_bind (sliceApplied_gen hs pl pu ?_)
 have yes:((((sIx items.size 0 lo:Nat):Int) == 0 && (1:Int) == 1 && (sIx items.size items.size hi-sIx items.size 0 lo) == items.size)=true):=by rw [hw.1,hw.2]; simp
 show wpAny _ _ (if (((sIx items.size 0 lo:Nat):Int) == 0 && (1:Int) == 1 && (sIx items.size items.size hi-sIx items.size 0 lo) == items.size)=true then _ else _) _ _ s; rw [if_pos yes]
 unfold Builtin.Tuple.tupleIsExact; refine wpAny_bind ?_
 first | refine wpAny_bind (wpAny_typeOf ht.typeIs (wpAny_pure ?_)) | refine wpAny_typeOf ht.typeIs ?_
 first
  | (rw [if_pos (by decide)]; refine wpAny_bind (wpAny_rule (wpAny_pure ⟨_,rfl,wpAny_pure h⟩)))
  | (rw [if_pos (by rfl)]; exact wpAny_bind (wpAny_rule (wpAny_pure ⟨_,rfl,wpAny_pure h⟩)))
end
end HT
namespace L2
open PySem PySem.Spec PyProof.Rows
section
variable {X:Cx} {K:PySem.W.Frag}
def rSlTA (K:PySem.W.Frag):V->Option Int->Option Int->Hp->VK->Prop:=fun x lo hi H Q=>∃ a xs,x=.ref a∧SqT K H a xs ∧
 ((HT.sIx xs.length 0 lo=0∧HT.sIx xs.length xs.length hi=xs.length)->Q (.ref a) H)∧(¬ (HT.sIx xs.length 0 lo=0∧HT.sIx xs.length xs.length hi=xs.length)->∀ p,H p=none->Q (.ref p) (upd H p (.tup (cutV xs lo hi))))
theorem sl_tupA:SlR X (rSlTA X.K):=by
 intro pins s σ H x v vl vu lo hi sl Q I rx hs pl pu h
 obtain ⟨a,xs,rfl,hx,q1,q2⟩:=h
 by_cases hw:HT.sIx xs.length 0 lo=0∧HT.sIx xs.length xs.length hi=xs.length
 ·cases rx
  obtain ⟨its,r,ht,hz⟩:=I.tuple hx
  have hlen:its.toArray.size=xs.length:=by rw [List.size_toArray]; exact r.length.symm
  exact ⟨"tuple",_,PyProof.Rows.slot_tuple_getitem.lookup,ht.typeIs,HT.getItem_tuple_all ht hs pl pu (by rw [hlen]; exact hw) ⟨.ref a,H,I,rfl,q1 hw⟩⟩
 ·exact sl_tup pins s σ H _ v vl vu lo hi sl Q I rx hs pl pu ⟨a,xs,rfl,hx,hw,q2 hw⟩
theorem slTA (h:X.K=K:=by rfl):SlR X (rSlTA K):=h ▸ sl_tupA
end
end L2
namespace L2
open PySem PySem.Spec PyProof.Rows
section
variable {X:Cx}
theorem shaped_li (ns:List Int):SeqAt.shaped (.list (ns.map PyData.int))=true:=by
 simp [SeqAt.shaped,PyData.canLay0,PyData.depth,PySem.W.ke_canLayAll0,PySem.W.ke_depthAll]
end
end L2
namespace L2
open PySem PySem.Spec PyProof.Rows
section
variable {X:Cx}
theorem tupT_is {pins:List (Addr×Obj)} {σ:St} {H:Hp} {s:Shared} {p:Addr} {xs:List V} (I:Inv X pins σ H s) (ty:H p=some (.tup xs)) :
  s.TypeIs (.ref p) "tuple"∧∀ a,Value.ref p=.ref a->∃ ob,s.heap.get? a=some ob∧ob.dict=none:=by
 obtain ⟨_,its,r,⟨o,e,c⟩,o2,e2,c2⟩:=I.hok p _ ty
 exact ⟨⟨o,e,c.1⟩,fun a ea=>by cases ea; exact ⟨o2,e2,c2⟩⟩
def tBT (r:V->List V->Hp->VK->Prop) (to:TE) (t:TA):TE:=fun σ H Q=>to σ H fun x H1=>(∃ p xs,x=.ref p∧H1 p=some (.tup xs))∧t σ H1 fun xs H2=>r x xs H2 Q
variable {o e:Expr} {es:List Expr} {to:TE} {t:TA} {name:Str} {apos cpos:Pos} {id:String} {r:V->List V->Hp->VK->Prop}
theorem pe_bmT (pa:PlainAttrs "tuple") (slot:Slot "tuple" name id) (hty:typeOf (.builtin id)=pure (.type "method_descriptor")) (hm:MtM X id r) (ho:PE X o to) (ha:PA X (e :: es) t)
  (hbase:attributeBase o name X.env (eval o X.env)=eval o X.env:=by rfl)
  (hfew:((backTo cpos (starEach (e :: es) X.env)).all (fun x=>!x.1) && (backToKw cpos (keywordEach [] X.env)).all (fun x=>x.1.isSome)
   && decide ((e :: es).length+([]:List Keyword).length+(if ([]:List Keyword).isEmpty then 0 else 1)<30))=true:=by rfl)
  (hline:(apos.endLine == cpos.line)=true:=by rfl) (hs:starEach (e :: es) X.env=(false,eval e X.env) :: starEach es X.env:=by rfl) (hplain:(backTo cpos (starEach es X.env)).any (·.1)=false:=by rfl) :
  PE X (.Call (.Attribute o name apos) (e :: es) [] cpos) (tBT r to t):=by
 intro pins s σ H Q I h
 refine wpAny_Call_method_late hbase hfew hline rfl (thn (ho pins s σ H _ I h) fun v s1 ⟨x,H1,I1,r1,⟨p,xs,ex,hp⟩,q1⟩=>?_)
 subst ex
 cases r1
 obtain ⟨h1,h2⟩:=tupT_is I1 hp
 refine ⟨"tuple",id,pa,slot,hty,h1,h2,?_⟩
 have hA:=ha cpos pins s1 σ H1 _ I1 q1
 rw [hs] at hA ⊢
 refine Calls.callWith_builtin (by show (false || (backTo cpos (starEach es X.env)).any (·.1))=false; rw [hplain] <;> rfl) (Calls.evalArgs_plain ?_)
 exact thn hA fun us s2 ⟨vs,H2,I2,r2,q2⟩=>hm pins s2 σ H2 (.ref p) vs (.ref p) us Q I2 rfl r2 q2
end
end L2
namespace L2
open PySem PySem.Spec PyProof.Rows
inductive RdD (H:Hp):V->PyData->Prop
 | int (i:Int):RdD H (.int i) (.int i)
 | bl (b:Bool):RdD H (.bl b) (.bool b)
 | str (z:Str):RdD H (.str z) (.str z)
 | tup {p:Addr} {xs:List V} {ds:List PyData} (h:H p=some (.tup xs)) (hl:xs.length=ds.length) (hd:∀ (i:Nat) (x:V) (d:PyData),xs[i]?=some x->ds[i]?=some d->RdD H x d):RdD H (.ref p) (.tuple ds)
theorem RdD.keep {H H':Hp} (s:Same H H') {v:V} {d:PyData} (h:RdD H v d):RdD H' v d:=by
 induction h with
 | int i=>exact .int i
 | bl b=>exact .bl b
 | str z=>exact .str z
 | tup h hl hd ih=>exact .tup (s _ _ h) hl ih
section
variable {X:Cx} {pins:List (Addr×Obj)} {σ:L2.St} {H:Hp} {s:Shared}
inductive Shp:Nat->PyData->Prop
 | int {n:Nat} (i:Int):Shp n (.int i)
 | bl {n:Nat} (b:Bool):Shp n (.bool b)
 | tup {n:Nat} {ds:List PyData} (h:∀ d∈ds,Shp n d):Shp (n+1) (.tuple ds)
theorem lay_all:∀ {ds:List PyData},(∀ d∈ds,d.canLay0=true)->PyData.canLayAll0 ds=true
 | [],_=>rfl
 | d :: ds,h=>by
  simp only [PyData.canLayAll0,Bool.and_eq_true]
  exact ⟨h d (by simp),lay_all fun x hx=>h x (by simp [hx])⟩
theorem deep_all {n:Nat}:∀ {ds:List PyData},(∀ d∈ds,d.depth≤n)->PyData.depthAll ds≤n
 | [],_=>Nat.zero_le _
 | d :: ds,h=>by
  have:=deep_all (ds:=ds) fun x hx=>h x (by simp [hx])
  have:=h d (by simp)
  simp only [PyData.depthAll]
  omega
theorem Shp.ok {n:Nat} {d:PyData} (h:Shp n d):d.canLay0=true∧d.depth≤n+1:=by
 induction h with
 | int i=>exact ⟨rfl,by simp [PyData.depth]⟩
 | bl b=>exact ⟨rfl,by simp [PyData.depth]⟩
 | @tup n ds h ih =>
  refine ⟨by simp only [PyData.canLay0]; exact lay_all fun d hd=>(ih d hd).1,?_⟩
  have:=deep_all fun d hd=>(ih d hd).2
  simp only [PyData.depth]
  omega
theorem Shp.shaped {n:Nat} {d:PyData} (h:Shp n d) (hn:n≤60):SeqAt.shaped d=true:=by
 unfold SeqAt.shaped
 rw [Bool.and_eq_true]
 exact ⟨h.ok.1,decide_eq_true (by have:=h.ok.2; omega)⟩
end
end L2
namespace L2
open PySem PySem.Spec PyProof.Rows
section
variable {X:Cx}
end
section
variable {prog:Program} {w:World} {A:Around} {E:Value->Shared->Prop} {s:Shared}
end
section
variable {X:Cx}
end
end L2
namespace L2
open PySem PySem.Spec PyProof.Rows
def tLsR (ta:TE):TE:=fun σ H Q=>ta σ H fun v H1=>∃ n:Nat,v=.int (n:Int)∧n≤1000∧∀ l,H1 l=none->Q (.ref l) (upd H1 l (.lst ((List.range n).map fun i:Nat=>V.int (i:Int))))
theorem vals_get:∀ {xs:List V} {us:List Value},xs.length=us.length->(∀ (i:Nat) (x:V) (u:Value),xs[i]?=some x->us[i]?=some u->RelV x u)->Vals xs us
 | [],[],_,_=>.nil
 | [],_ :: _,h,_=>by simp at h
 | _ :: _,[],h,_=>by simp at h
 | x :: xs,u :: us,h,g=>.cons (g 0 x u rfl rfl) (vals_get (by simpa using h) fun i y v e1 e2=>g (i+1) y v (by simpa using e1) (by simpa using e2))
theorem bt_list:bootBuiltins "list" = some (.type "list"):=by decide +kernel
section
variable {X:Cx}
theorem pe_listRange {a:PySem.Expr} {ta:TE} {p p' rpos pos:Pos} (hc:X.calm=true) (hg:Gl X "list") (hm:X.mg "list" = none) (hg2:Gl X "range") (hm2:X.mg "range" = none) (ha:PE X a ta)
  (hs:starEach [.Call (.Name "range" p') [a] [] rpos] X.env=[(false,eval (.Call (.Name "range" p') [a] [] rpos) X.env)]:=by rfl) (hs2:starEach [a] X.env=[(false,eval a X.env)]:=by rfl) :
  PE X (.Call (.Name "list" p) [.Call (.Name "range" p') [a] [] rpos] [] pos) (tLsR ta):=by
 intro pins s σ H Q I h
 refine wpAny_Call_Name_kw (ld_blt I hg hm bt_list ?_ (by decide) (by decide))
 refine PyProof.Rows.callWith_type1 ?_ (by rw [hs]; rfl) (by rfl)
 rw [hs]
 refine Calls.spliced_cons ?_
 refine wpAny_Call_Name_kw (ld_blt I hg2 hm2 boot_range ?_ (by decide) (by decide))
 have PAl:PA X [a] (tCons ta tNil):=pa_cons ha pa_nil (by rw [hs2]; rfl)
 have hq:tCons ta tNil σ H (fun vs H1=>match vs with
   | [v]=>∃ n:Nat,v=.int (n:Int)∧n≤1000∧∀ l,H1 l=none->Q (.ref l) (upd H1 l (.lst ((List.range n).map fun i:Nat=>V.int (i:Int))))
   | _=>False):=h
 refine PyProof.Rows.callWith_type1 (thn (PAl rpos pins _ σ H _ I hq) fun us s2 ⟨vs,H2,I2,r2,q2⟩=>?_) (by rw [hs2]; rfl) (by rfl)
 cases r2 with
 | nil=>exact False.elim q2
 | cons r rr =>
  cases rr with
  | cons _ _=>exact False.elim q2
  | nil =>
   obtain ⟨n,rfl,hn,q⟩:=q2
   obtain ⟨t,rfl⟩:=r
   refine call_range_1 (Calls.spliced_nil ?_)
   refine call_list_range (n:=n) (I2.ok.hd hc) (IsRange.new ..) (small_one (by omega) (by omega) (by omega) (by omega)) (by rw [rangeSize_one]; split <;> omega) (by omega) fun h' tk acc c hk hS hI=>?_
   obtain ⟨hl,hI⟩:=hI
   have hz:((List.range n).map fun i:Nat=>V.int (i:Int)).length≤sizeLine:=by rw [List.length_map,List.length_range,sizeLine_eq]; omega
   have rv:Vals ((List.range n).map fun i:Nat=>V.int (i:Int)) acc.toList:=by
    refine vals_get (by rw [List.length_map,List.length_range,Array.length_toList,hl]) fun i x u e1 e2=>?_
    have hi:i<n:=by
     have:=(List.getElem?_eq_some_iff.mp e2).1
     rw [Array.length_toList,hl] at this
     exact this
    rw [List.getElem?_map,List.getElem?_range hi] at e1
    obtain ⟨t',ht⟩:=hI i u (by rw [←Array.getElem?_toList]; exact e2)
    cases e1
    exact ⟨t',by rw [ht]; congr 1; omega⟩
   have fin:∀ h1:Heap,(∀ b o,s2.heap.get? b=some o->h1.get? b=some o)->(∀ b o,h1.get? b=some o->h'.get? b=some o)->h'.get? h1.objs.size=some { cls:=.type "list",dict:=none,data:=.seq acc c,slots:=#[] }->EP X pins σ Q (.ref h1.objs.size) { s2 with heap:=h',toks:=tk }:=fun h1 k1 k2 hS=>by
    have I3:=I2.kept (h':=h1) (t':=tk) k1
    exact ⟨.ref _,_,I3.laid (t':=tk) k2 (Nat.le_refl _) (show ObjOk X.prog X.w _ h' _ (.lst _) from ⟨hz,acc.toList,c,rv,hS⟩),rfl,q _ (I3.hok.fresh (Nat.le_refl _))⟩
   exact fin _ (fun b o e=>Heap.get?_push_of_some _ e) hk hS
end
end L2
namespace L2
open PySem PySem.Spec PyProof.Rows
def tLsR2 (ta:TA):TE:=fun σ H Q=>ta σ H fun vs H1=>∃ (lo:Int) (n:Nat),vs=[.int lo,.int (lo+(n:Int))]∧0≤lo∧lo≤1000∧n≤1000∧∀ l,H1 l=none->Q (.ref l) (upd H1 l (.lst ((List.range n).map fun i:Nat=>V.int (lo+(i:Int)))))
section
variable {X:Cx}
theorem pe_listRange2 {a b:PySem.Expr} {ta:TA} {p p' rpos pos:Pos} (hc:X.calm=true) (hg:Gl X "list") (hm:X.mg "list" = none) (hg2:Gl X "range") (hm2:X.mg "range" = none) (ha:PA X [a,b] ta)
  (hs:starEach [.Call (.Name "range" p') [a,b] [] rpos] X.env=[(false,eval (.Call (.Name "range" p') [a,b] [] rpos) X.env)]:=by rfl) (hs2:starEach [a,b] X.env=[(false,eval a X.env),(false,eval b X.env)]:=by rfl) (hs3:starEach [b] X.env=[(false,eval b X.env)]:=by rfl) :
  PE X (.Call (.Name "list" p) [.Call (.Name "range" p') [a,b] [] rpos] [] pos) (tLsR2 ta):=by
 intro pins s σ H Q I h
 refine wpAny_Call_Name_kw (ld_blt I hg hm bt_list ?_ (by decide) (by decide))
 refine PyProof.Rows.callWith_type1 ?_ (by rw [hs]; rfl) (by rfl)
 rw [hs]
 refine Calls.spliced_cons ?_
 refine wpAny_Call_Name_kw (ld_blt I hg2 hm2 boot_range ?_ (by decide) (by decide))
 refine PyProof.Rows.callWith_type1 (thn (ha rpos pins _ σ H _ I h) fun us s2 ⟨vs,H2,I2,r2,q2⟩=>?_) (by rw [hs2,hs3]) (by rw [hs3]; rfl)
 obtain ⟨lo,n,e,l0,l1,hn,q⟩:=q2
 subst e
 cases r2 with
 | cons r rr =>
  cases rr with
  | cons r' rr =>
   cases rr
   obtain ⟨t,rfl⟩:=r
   obtain ⟨t',rfl⟩:=r'
   refine call_range_2 (Calls.spliced_nil ?_)
   refine call_list_range (n:=n) (I2.ok.hd hc) (IsRange.new ..) (small_one (by omega) (by omega) (by omega) (by omega)) (by rw [rangeSize_one]; split <;> omega) (by omega) fun h' tk acc c hk hS hI=>?_
   obtain ⟨hl,hI⟩:=hI
   have hz:((List.range n).map fun i:Nat=>V.int (lo+(i:Int))).length≤sizeLine:=by rw [List.length_map,List.length_range,sizeLine_eq]; omega
   have rv:Vals ((List.range n).map fun i:Nat=>V.int (lo+(i:Int))) acc.toList:=by
    refine vals_get (by rw [List.length_map,List.length_range,Array.length_toList,hl]) fun i x u e1 e2=>?_
    have hi:i<n:=by
     have:=(List.getElem?_eq_some_iff.mp e2).1
     rw [Array.length_toList,hl] at this
     exact this
    rw [List.getElem?_map,List.getElem?_range hi] at e1
    obtain ⟨t',ht⟩:=hI i u (by rw [←Array.getElem?_toList]; exact e2)
    cases e1
    exact ⟨t',by rw [ht]; congr 1; omega⟩
   have fin:∀ h1:Heap,(∀ b o,s2.heap.get? b=some o->h1.get? b=some o)->(∀ b o,h1.get? b=some o->h'.get? b=some o)->h'.get? h1.objs.size=some { cls:=.type "list",dict:=none,data:=.seq acc c,slots:=#[] }->EP X pins σ Q (.ref h1.objs.size) { s2 with heap:=h',toks:=tk }:=fun h1 k1 k2 hS=>by
    have I3:=I2.kept (h':=h1) (t':=tk) k1
    exact ⟨.ref _,_,I3.laid (t':=tk) k2 (Nat.le_refl _) (show ObjOk X.prog X.w _ h' _ (.lst _) from ⟨hz,acc.toList,c,rv,hS⟩),rfl,q _ (I3.hok.fresh (Nat.le_refl _))⟩
   exact fin _ (fun b o e=>Heap.get?_push_of_some _ e) hk hS
theorem op_ne_lz (hu:X.A.units+64<cLine):OpR X (compareOp .NotEq) (fun x y H Q=>∃ (p q:Addr) (ns:List Int),x=.ref p∧y=.ref q∧H p=some (.lst (ns.map V.int))∧H q=some (.lst [])∧Q (.bl (!ns.isEmpty)) H):=by
 intro pins s σ H x y v u Q I rx ry h
 obtain ⟨p,q,ns,rfl,rfl,hp,hq,k⟩:=h
 cases rx
 cases ry
 obtain ⟨_,its,n1,r1,_,e1⟩:=I.lstM hp
 have hq':H q=some (.lst (([]:List Int).map V.int)):=hq
 obtain ⟨_,jts,n2,r2,_,e2⟩:=I.lstM hq'
 have d1:Reads s.heap (.ref p) (.list (ns.map PyData.int)) [p]:=.list e1 rfl rfl (by simpa using (intsAre_of r1).reads s.heap)
 have d2:Reads s.heap (.ref q) (.list (([]:List Int).map PyData.int)) [q]:=.list e2 rfl rfl (by simpa using (intsAre_of r2).reads s.heap)
 refine ne_dataH d1 d2 (shaped_li ns) (shaped_li []) hu ?_
 have e:PyData.eqv (.list (ns.map PyData.int)) (.list (([]:List Int).map PyData.int))=ns.isEmpty:=by
  cases ns <;> simp [PyData.eqv,PyData.eqvAll]
 rw [e]
 exact ⟨.bl _,H,I,rfl,k⟩
end
end L2
namespace L2
open PySem PySem.Spec PyProof.Rows
section
variable {X:Cx}
end
end L2
namespace L2
open PySem PySem.Spec PyProof.Rows
section
variable {X:Cx}
def rCatA (K:PySem.W.Frag):R2:=fun x y H Q=>∃ a b xs ys,x=.ref a∧y=.ref b∧SqT K H a xs∧SqT K H b ys∧ys≠[]∧xs.length+ys.length≤sizeLine ∧
 (xs=[]->Q (.ref b) H)∧(xs≠[]->∀ p,H p=none->Q (.ref p) (upd H p (.tup (xs++ys))))
theorem op_catA:OpR X (binaryOp .Add) (rCatA X.K):=by
 intro pins s σ H x y v u Q I rx ry h
 obtain ⟨a,b,xs,ys,rfl,rfl,ha,hb,hy,hz,q1,q2⟩:=h
 by_cases hx:xs=[]
 ·cases rx
  cases ry
  obtain ⟨its,r1,p1,_⟩:=I.tuple ha
  obtain ⟨its2,r2,p2,_⟩:=I.tuple hb
  have e0:its=[]:=r1.nil_iff.mpr hx
  obtain ⟨⟨cls,dd,data,sl⟩,ho,hc,n,hd⟩:=id p1
  obtain ⟨⟨cls2,dd2,data2,sl2⟩,ho2,hc2,n2,hd2⟩:=id p2
  simp only at hc hd hc2 hd2
  subst hc hd hc2 hd2
  exact concat_meets ⟨_,ho,rfl⟩ ⟨_,ho2,rfl⟩ noFill_tuple_add seq_tuple_add PySem.F.slot_tuple_add PySem.F.entry_tuple_add (PySem.F.args_tuple_add_2 _ _)
   (tuple_addW0 a b its.toArray its2.toArray n n2 dd dd2 sl sl2 (by simp [e0])) ⟨ho,ho2,⟨.ref b,H,I,rfl,q1 hx⟩⟩
 ·exact op_catT pins s σ H _ _ v u Q I rx ry ⟨a,b,xs,ys,rfl,rfl,ha,hb,hx,hz,fun z=>absurd z hy,fun _=>q2 hx⟩
end
end L2
namespace Mth
theorem gcd_fmod (a b:Int):Int.gcd b (a.fmod b)=Int.gcd a b:=by
 rw [Int.fmod_def]
 have e:a-b*a.fdiv b=a+b*(-(a.fdiv b)):=by rw [Int.mul_neg,Int.sub_eq_add_neg]
 rw [e,Int.gcd_add_mul_left_right,Int.gcd_comm]
theorem fmod_lt (a b:Int) (h:b≠0):(a.fmod b).natAbs<b.natAbs:=by
 rw [Int.fmod_eq_emod]
 have h1:=Int.emod_nonneg a h
 have h2:=Int.emod_lt a h
 split
 ·omega
 ·rename_i z
  have:¬ b ∣ a:=fun q=>z (Or.inr q)
  have hz:a % b≠0:=fun q=>this (Int.dvd_of_emod_eq_zero q)
  omega
def part (t b:Int):Int:=if b<0 then -(Int.gcd t b:Int) else (Int.gcd t b:Int)
def frac (t b:Int):Int×Int:=(t.fdiv (part t b),b.fdiv (part t b))
theorem gcd_pos (t b:Int) (h:b≠0):0<Int.gcd t b:=Int.gcd_pos_of_ne_zero_right _ h
theorem part_ne (t b:Int) (h:b≠0):part t b≠0:=by
 have:=gcd_pos t b h
 unfold part; split <;> omega
theorem part_dvd_l (t b:Int):part t b ∣ t:=by
 unfold part; split
 ·exact Int.neg_dvd.mpr (Int.gcd_dvd_left t b)
 ·exact Int.gcd_dvd_left t b
theorem part_dvd_r (t b:Int):part t b ∣ b:=by
 unfold part; split
 ·exact Int.neg_dvd.mpr (Int.gcd_dvd_right t b)
 ·exact Int.gcd_dvd_right t b
theorem frac_l (t b:Int):(frac t b).1*part t b=t:=by
 show t.fdiv (part t b)*part t b=t
 rw [Int.fdiv_eq_ediv_of_dvd (part_dvd_l t b),Int.ediv_mul_cancel (part_dvd_l t b)]
theorem frac_r (t b:Int):(frac t b).2*part t b=b:=by
 show b.fdiv (part t b)*part t b=b
 rw [Int.fdiv_eq_ediv_of_dvd (part_dvd_r t b),Int.ediv_mul_cancel (part_dvd_r t b)]
theorem frac_pos (t b:Int) (h:b≠0):0<(frac t b).2:=by
 have e:=frac_r t b
 have g:=gcd_pos t b h
 rcases Int.lt_or_lt_of_ne h with h1 | h1
 ·have hp:part t b<0:=by unfold part; rw [if_pos h1]; omega
  rcases Int.lt_or_le 0 (frac t b).2 with q | q
  ·exact q
  ·have:0≤(frac t b).2*part t b:=Int.mul_nonneg_of_nonpos_of_nonpos q (Int.le_of_lt hp)
   omega
 ·have hp:0<part t b:=by unfold part; rw [if_neg (by omega)]; omega
  rcases Int.lt_or_le 0 (frac t b).2 with q | q
  ·exact q
  ·have:(frac t b).2*part t b≤0:=Int.mul_nonpos_of_nonpos_of_nonneg q (Int.le_of_lt hp)
   omega
theorem frac_cross (t b:Int):(frac t b).1*b=t*(frac t b).2:=by
 have e1:=frac_l t b
 have e2:=frac_r t b
 generalize (frac t b).1=n at *
 generalize (frac t b).2=d at *
 generalize part t b=p at *
 subst e1
 subst e2
 rw [Int.mul_comm d p,Int.mul_assoc]
theorem frac_gcd (t b:Int) (h:b≠0):Int.gcd (frac t b).1 (frac t b).2=1:=by
 have e1:=frac_l t b
 have e2:=frac_r t b
 have g:=gcd_pos t b h
 have hp:(part t b).natAbs=Int.gcd t b:=by unfold part; split <;> omega
 have k:Int.gcd ((frac t b).1*part t b) ((frac t b).2*part t b)=Int.gcd (frac t b).1 (frac t b).2*(part t b).natAbs:=Int.gcd_mul_right _ _ _
 rw [e1,e2,hp] at k
 have:1*Int.gcd t b=Int.gcd (frac t b).1 (frac t b).2*Int.gcd t b:=by rw [Nat.one_mul]; exact k
 exact (Nat.eq_of_mul_eq_mul_right g this).symm
theorem part_le (t b:Int) (h:b≠0):(part t b).natAbs≤b.natAbs:=by
 have e:(part t b).natAbs=Int.gcd t b:=by unfold part; split <;> omega
 rw [e]
 exact Nat.le_of_dvd (Int.natAbs_pos.mpr h) (by
  have:=Int.gcd_dvd_right t b
  exact Int.ofNat_dvd_left.mp this)
end Mth
namespace Wd
abbrev Vec:=Nat->Rat
abbrev Frm:=List Bool->Rat
def sh (v:Vec):Vec:=fun j=>v (j+1)
def at0 (w:Frm):Frm:=fun T=>w (false :: T)
def at1 (w:Frm):Frm:=fun T=>w (true :: T)
def wg:Vec->Frm->Frm
 | _,_,[]=>0
 | v,w,false :: S=>wg (sh v) (at0 w) S
 | v,w,true :: S=>v 0*w (false :: S)-wg (sh v) (at1 w) S
def one:Frm
 | []=>1
 | false :: S=>one S
 | true :: _=>0
theorem wg_add_v (S:List Bool):∀ (u v:Vec) (w:Frm),wg (fun j=>u j+v j) w S=wg u w S+wg v w S:=by
 induction S with
 | nil=>intro u v w; simp only [wg]; grind
 | cons b S ih =>
  intro u v w
  have h:=ih (sh u) (sh v)
  have e:sh (fun j=>u j+v j)=fun j=>sh u j+sh v j:=rfl
  cases b
  ·simp only [wg,e,h]
  ·simp only [wg,e,h]; grind
theorem wg_smul_v (S:List Bool):∀ (c:Rat) (v:Vec) (w:Frm),wg (fun j=>c*v j) w S=c*wg v w S:=by
 induction S with
 | nil=>intro c v w; simp [wg]
 | cons b S ih =>
  intro c v w
  have h:=ih c (sh v)
  have e:sh (fun j=>c*v j)=fun j=>c*sh v j:=rfl
  cases b
  ·simp only [wg,e,h]
  ·simp only [wg,e,h]; grind
theorem wg_add (S:List Bool):∀ (v:Vec) (w x:Frm),wg v (fun T=>w T+x T) S=wg v w S+wg v x S:=by
 induction S with
 | nil=>intro v w x; simp only [wg]; grind
 | cons b S ih =>
  intro v w x
  have e0:at0 (fun T=>w T+x T)=fun T=>at0 w T+at0 x T:=rfl
  have e1:at1 (fun T=>w T+x T)=fun T=>at1 w T+at1 x T:=rfl
  cases b
  ·simp only [wg,e0,ih]
  ·simp only [wg,e1,ih]; grind
theorem wg_smul (S:List Bool):∀ (c:Rat) (v:Vec) (w:Frm),wg v (fun T=>c*w T) S=c*wg v w S:=by
 induction S with
 | nil=>intro c v w; simp [wg]
 | cons b S ih =>
  intro c v w
  have e0:at0 (fun T=>c*w T)=fun T=>c*at0 w T:=rfl
  have e1:at1 (fun T=>c*w T)=fun T=>c*at1 w T:=rfl
  cases b
  ·simp only [wg,e0,ih]
  ·simp only [wg,e1,ih]; grind
theorem wg_sub (S:List Bool) (v:Vec) (w x:Frm):wg v (fun T=>w T-x T) S=wg v w S-wg v x S:=by
 have e:(fun T=>w T-x T)=fun T=>w T+(fun T=>(-1)*x T) T:=by funext T; grind
 rw [e,wg_add,wg_smul]; grind
theorem wg_wg (S:List Bool):∀ (v:Vec) (w:Frm),wg v (wg v w) S=0:=by
 induction S with
 | nil=>intro v w; simp [wg]
 | cons b S ih =>
  intro v w
  cases b
  ·have e0:at0 (wg v w)=wg (sh v) (at0 w):=rfl
   simp only [wg,e0,ih]
  ·have e1:at1 (wg v w)=fun T=>v 0*at0 w T-wg (sh v) (at1 w) T:=rfl
   have e2:(fun T=>v 0*at0 w T)=fun T=>v 0*at0 w T:=rfl
   simp only [wg,e1]
   rw [wg_sub (x:=wg (sh v) (at1 w)) (w:=fun T=>v 0*at0 w T),wg_smul,ih]; grind
theorem wg_comm (u v:Vec) (w:Frm) (S:List Bool):wg u (wg v w) S=- wg v (wg u w) S:=by
 have h:=wg_wg S (fun j=>u j+v j) w
 have e:wg (fun j=>u j+v j) w=fun T=>wg u w T+wg v w T:=by funext T; exact wg_add_v T u v w
 rw [wg_add_v,e,wg_add,wg_add,wg_wg,wg_wg] at h
 grind
theorem wg_zero (S:List Bool) (v:Vec):wg v (fun _=>0) S=0:=by
 have h:=wg_smul S 0 v (fun _=>0)
 have e:(fun T:List Bool=>(0:Rat)*(fun _=>(0:Rat)) T)=fun _=>0:=by funext T; grind
 rw [e] at h; grind
def wgs:List Vec->Frm->Frm
 | [],w=>w
 | v :: L,w=>wgs L (wg v w)
theorem wgs_app (L M:List Vec) (w:Frm):wgs (L++M) w=wgs M (wgs L w):=by
 induction L generalizing w with
 | nil=>rfl
 | cons v L ih=>simp [wgs,ih]
theorem wgs_smul (L:List Vec):∀ (c:Rat) (w:Frm),wgs L (fun T=>c*w T)=fun T=>c*wgs L w T:=by
 induction L with
 | nil=>intro c w; rfl
 | cons v L ih =>
  intro c w
  have e:wg v (fun T=>c*w T)=fun T=>c*wg v w T:=by funext T; exact wg_smul T c v w
  simp only [wgs]; rw [e,ih]
theorem wgs_add (L:List Vec):∀ (w x:Frm),wgs L (fun T=>w T+x T)=fun T=>wgs L w T+wgs L x T:=by
 induction L with
 | nil=>intro w x; rfl
 | cons v L ih =>
  intro w x
  have e:wg v (fun T=>w T+x T)=fun T=>wg v w T+wg v x T:=by funext T; exact wg_add T v w x
  simp only [wgs]; rw [e,ih]
theorem wgs_zero (L:List Vec):wgs L (fun _=>0)=fun _=>0:=by
 induction L with
 | nil=>rfl
 | cons v L ih =>
  have e:wg v (fun _=>0)=fun _=>0:=by funext T; exact wg_zero T v
  simp only [wgs]; rw [e,ih]
def sg (n:Nat):Rat:=if n % 2=0 then 1 else -1
theorem sg_succ (n:Nat):sg (n+1)=- sg n:=by unfold sg; split <;> split <;> first | omega | grind
theorem sg_sq (n:Nat):sg n*sg n=1:=by unfold sg; split <;> grind
theorem wgs_wg (L:List Vec):∀ (v:Vec) (w:Frm) (S:List Bool),wgs L (wg v w) S=sg L.length*wg v (wgs L w) S:=by
 induction L with
 | nil=>intro v w S; simp [wgs,sg]
 | cons u L ih =>
  intro v w S
  simp only [wgs,List.length_cons]
  have e:wg u (wg v w)=fun T=>(-1)*wg v (wg u w) T:=by funext T; rw [wg_comm]; grind
  rw [e,wgs_smul]
  simp only []
  rw [ih,sg_succ]; grind
theorem wgs_twice (P Q R:List Vec) (v:Vec) (w:Frm) (S:List Bool):wgs (P++v :: Q++v :: R) w S=0:=by
 have e:P++v :: Q++v :: R=P++(v :: (Q++(v :: R))):=by simp
 rw [e,wgs_app]
 generalize wgs P w=x
 simp only [wgs]
 rw [wgs_app]
 simp only [wgs]
 have h:wg v (wgs Q (wg v x))=fun _=>0:=by
  funext T
  have h2:wgs Q (wg v x)=fun T=>sg Q.length*wg v (wgs Q x) T:=by funext T; exact wgs_wg Q v x T
  rw [h2,wg_smul,wg_wg]; grind
 rw [h,wgs_zero]
theorem wgs_addrow (P Q:List Vec) (u v:Vec) (w:Frm) (S:List Bool) :
  wgs (P++(fun j=>u j+v j) :: Q) w S=wgs (P++u :: Q) w S+wgs (P++v :: Q) w S:=by
 rw [wgs_app,wgs_app,wgs_app]
 simp only [wgs]
 have e:wg (fun j=>u j+v j) (wgs P w)=fun T=>wg u (wgs P w) T+wg v (wgs P w) T:=by funext T; exact wg_add_v T u v _
 rw [e,wgs_add]
theorem wgs_smulrow (P Q:List Vec) (c:Rat) (v:Vec) (w:Frm) (S:List Bool) :
  wgs (P++(fun j=>c*v j) :: Q) w S=c*wgs (P++v :: Q) w S:=by
 rw [wgs_app,wgs_app]
 simp only [wgs]
 have e:wg (fun j=>c*v j) (wgs P w)=fun T=>c*wg v (wgs P w) T:=by funext T; exact wg_smul_v T c v _
 rw [e,wgs_smul]
theorem wgs_swap (P Q R:List Vec) (u v:Vec) (w:Frm) (S:List Bool) :
  wgs (P++u :: Q++v :: R) w S=- wgs (P++v :: Q++u :: R) w S:=by
 have h:=wgs_twice P Q R (fun j=>u j+v j) w S
 have a1:∀ x y:Vec,P++x :: Q++y :: R=P++x :: (Q++y :: R):=by intro x y; simp
 have h1:wgs (P++(fun j=>u j+v j) :: Q++(fun j=>u j+v j) :: R) w S
   = wgs (P++u :: Q++(fun j=>u j+v j) :: R) w S+wgs (P++v :: Q++(fun j=>u j+v j) :: R) w S:=by
  rw [a1,wgs_addrow,←a1,←a1]
 rw [h1,wgs_addrow,wgs_addrow,wgs_twice,wgs_twice] at h
 grind
def shn (c:Nat) (v:Vec):Vec:=fun j=>v (j+c)
def pre (c:Nat) (w:Frm):Frm:=fun T=>w (List.replicate c true++T)
theorem wg_pre (c:Nat):∀ (v:Vec) (w:Frm) (S:List Bool),(∀ j,j<c->v j=0) →
  wg v w (List.replicate c true++S)=sg c*wg (shn c v) (pre c w) S:=by
 induction c with
 | zero=>intro v w S _; simp [sg]; rfl
 | succ c ih =>
  intro v w S h
  have h0:=h 0 (by omega)
  have:=ih (sh v) (at1 w) S (fun j hj=>h (j+1) (by omega))
  simp only [List.replicate_succ,List.cons_append,wg]
  rw [this,h0,sg_succ]
  have e1:shn c (sh v)=shn (c+1) v:=by funext j; simp only [shn,sh]; congr 1
  have e2:pre c (at1 w)=pre (c+1) w:=by funext T; simp [pre,at1,List.replicate_succ]
  rw [e1,e2]; grind
theorem wg_none (S:List Bool):∀ (v:Vec) (w:Frm),(∀ b∈S,b=false)->wg v w S=0:=by
 induction S with
 | nil=>intro v w _; rfl
 | cons b S ih =>
  intro v w h
  have:=h b (by simp)
  subst this
  exact ih _ _ (fun b hb=>h b (by simp [hb]))
theorem wg_one (d e:Nat):∀ (v:Vec) (w:Frm),
  wg v w (List.replicate d false++true :: List.replicate e false)=v d*w (List.replicate (d+1+e) false):=by
 induction d with
 | zero =>
  intro v w
  simp only [List.replicate_zero,List.nil_append,wg]
  rw [wg_none _ _ _ (fun b hb=>(List.mem_replicate.mp hb).2)]
  have:(0+1+e)=e+1:=by omega
  rw [this,List.replicate_succ]; grind
 | succ d ih =>
  intro v w
  have:=ih (sh v) (at0 w)
  simp only [List.replicate_succ,List.cons_append,wg]
  rw [this]
  have:d+1+1+e=(d+1+e)+1:=by omega
  rw [this,List.replicate_succ]; rfl
def Tk (c m:Nat):List Bool:=List.replicate c true++List.replicate (m-c) false
def Sj (c j m:Nat):List Bool:=List.replicate c true++(List.replicate (j-c) false++true :: List.replicate (m-1-j) false)
theorem wg_Sj {c j m:Nat} {v:Vec} (w:Frm) (hz:∀ i,i<c->v i=0) (h1:c≤j) (h2:j<m) :
  wg v w (Sj c j m)=sg c*(v j*w (Tk c m)):=by
 unfold Sj
 rw [wg_pre c v w _ hz,wg_one]
 have e:j-c+1+(m-1-j)=m-c:=by omega
 simp only [shn,pre,e,Tk]
 have:j-c+c=j:=by omega
 rw [this]
theorem Sj_self {c m:Nat} (h:c<m):Sj c c m=Tk (c+1) m:=by
 unfold Sj Tk
 have e:m-1-c=m-(c+1):=by omega
 rw [Nat.sub_self,List.replicate_zero,List.nil_append,e,List.replicate_succ',List.append_assoc]; rfl
def tri:Nat->Rat
 | 0=>1
 | c+1=>tri c*sg c
theorem tri_sq (c:Nat):tri c*tri c=1:=by
 induction c with
 | zero=>simp [tri]
 | succ c ih=>simp only [tri]; have:=sg_sq c; grind
def ld (c m:Nat) (w:Frm):Rat:=tri c*w (Tk c m)
theorem ld_wg {c m:Nat} {v:Vec} (w:Frm) (hz:∀ i,i<c->v i=0) (h:c<m):ld (c+1) m (wg v w)=v c*ld c m w:=by
 have:=wg_Sj (v:=v) w hz (Nat.le_refl c) h
 rw [Sj_self h] at this
 unfold ld
 rw [this]; simp only [tri]; have:=sg_sq c; grind
def IsI (x:Rat):Prop:=∃ n:Int,x=n
theorem IsI.mul {x y:Rat} (h:IsI x) (g:IsI y):IsI (x*y):=by
 obtain ⟨a,rfl⟩:=h; obtain ⟨b,rfl⟩:=g; exact ⟨a*b,by grind⟩
theorem IsI.sub {x y:Rat} (h:IsI x) (g:IsI y):IsI (x-y):=by
 obtain ⟨a,rfl⟩:=h; obtain ⟨b,rfl⟩:=g; exact ⟨a-b,by grind⟩
theorem IsI.of (n:Int):IsI (n:Rat):=⟨n,rfl⟩
theorem wg_int (S:List Bool):∀ (v:Vec) (w:Frm),(∀ j,IsI (v j))->(∀ T,IsI (w T))->IsI (wg v w S):=by
 induction S with
 | nil=>intro v w _ _; exact ⟨0,rfl⟩
 | cons b S ih =>
  intro v w h g
  cases b
  ·exact ih _ _ (fun j=>h (j+1)) (fun T=>g _)
  ·exact ((h 0).mul (g _)).sub (ih _ _ (fun j=>h (j+1)) (fun T=>g _))
theorem one_int (S:List Bool):IsI (one S):=by
 induction S with
 | nil=>exact ⟨1,rfl⟩
 | cons b S ih=>cases b; exact ih; exact ⟨0,rfl⟩
theorem one_rep (n:Nat):one (List.replicate n false)=1:=by
 induction n with
 | zero=>rfl
 | succ n ih=>rw [List.replicate_succ]; exact ih
theorem ld_one (m:Nat):ld 0 m one=1:=by
 simp [ld,tri,Tk,one_rep]
def cnt (S:List Bool):Nat:=(S.filter id).length
theorem wg_deg (S:List Bool):∀ (v:Vec) (w:Frm) (d:Nat),(∀ T,cnt T<d->w T=0)->cnt S<d+1->wg v w S=0:=by
 induction S with
 | nil=>intro v w d _ _; rfl
 | cons b S ih =>
  intro v w d h g
  cases b
  ·exact ih (sh v) (at0 w) d (fun T hT=>h _ (by simpa [cnt] using hT)) (by simpa [cnt] using g)
  ·simp only [wg]
   have g1:cnt S<d:=by simp [cnt] at g ⊢; omega
   rw [h (false :: S) (by simpa [cnt] using g1)]
   cases d with
   | zero=>omega
   | succ d=>rw [ih (sh v) (at1 w) d (fun T hT=>h _ (by simp [cnt] at hT ⊢; omega)) g1]; grind
theorem wgs_deg (L:List Vec):∀ (w:Frm) (d:Nat),(∀ T,cnt T<d->w T=0)->∀ S,cnt S<d+L.length->wgs L w S=0:=by
 induction L with
 | nil=>intro w d h S hS; exact h S (by simpa using hS)
 | cons v L ih =>
  intro w d h S hS
  exact ih (wg v w) (d+1) (fun T hT=>wg_deg T v w d h hT) S (by simp at hS; omega)
theorem wgs_pre (c:Nat) (L:List Vec):∀ (w:Frm) (S:List Bool),(∀ v∈L,∀ j,j<c->v j=0) →
  ∃ e:Rat,wgs L w (List.replicate c true++S)=e*wgs (L.map (shn c)) (pre c w) S:=by
 induction L with
 | nil=>intro w S _; exact ⟨1,by simp [wgs,pre]⟩
 | cons v L ih =>
  intro w S h
  obtain ⟨e,he⟩:=ih (wg v w) S (fun u hu=>h u (by simp [hu]))
  refine ⟨e*sg c,?_⟩
  simp only [wgs,List.map_cons]
  rw [he]
  have:pre c (wg v w)=fun T=>sg c*wg (shn c v) (pre c w) T:=by
   funext T; exact wg_pre c v w T (h v (by simp))
  rw [this,wgs_smul]; grind
theorem wgs_few {c n m:Nat} {L:List Vec} (w:Frm) (hz:∀ v∈L,∀ j,j<c->v j=0) (h1:c≤n) (h2:n<c+L.length):wgs L w (Tk n m)=0:=by
 have e:Tk n m=List.replicate c true++(List.replicate (n-c) true++List.replicate (m-n) false):=by
  unfold Tk
  rw [←List.append_assoc,List.replicate_append_replicate]
  congr 2; omega
 obtain ⟨x,hx⟩:=wgs_pre c L w (List.replicate (n-c) true++List.replicate (m-n) false) hz
 rw [e,hx,wgs_deg _ _ 0 (fun T hT=>by omega)]
 ·grind
 ·simp [cnt,List.filter_append]; omega
def Ab (B x:Rat):Prop:=-B≤x∧x≤B
theorem Ab.nn {B x:Rat} (h:Ab B x):0≤B:=by obtain ⟨a,b⟩:=h; grind
theorem Ab.mul {B C x y:Rat} (h:Ab B x) (g:Ab C y):Ab (B*C) (x*y):=by
 obtain ⟨h1,h2⟩:=h
 obtain ⟨h3,h4⟩:=g
 have a1:=Rat.mul_nonneg (show 0≤B-x by grind) (show 0≤C+y by grind)
 have a2:=Rat.mul_nonneg (show 0≤B+x by grind) (show 0≤C-y by grind)
 have a3:=Rat.mul_nonneg (show 0≤B-x by grind) (show 0≤C-y by grind)
 have a4:=Rat.mul_nonneg (show 0≤B+x by grind) (show 0≤C+y by grind)
 constructor <;> grind
theorem Ab.sub {B C x y:Rat} (h:Ab B x) (g:Ab C y):Ab (B+C) (x-y):=by
 obtain ⟨h1,h2⟩:=h
 obtain ⟨h3,h4⟩:=g
 constructor <;> grind
theorem Ab.le {B C x:Rat} (h:Ab B x) (g:B≤C):Ab C x:=by
 obtain ⟨h1,h2⟩:=h
 constructor <;> grind
theorem Ab.neg {B x:Rat} (h:Ab B x):Ab B (-1*x):=by
 obtain ⟨h1,h2⟩:=h
 constructor <;> grind
theorem wg_bd {V W:Rat} (S:List Bool):∀ (v:Vec) (w:Frm),(∀ j,Ab V (v j))->(∀ T:List Bool,T.length=S.length->Ab W (w T))->Ab ((S.length:Nat)*(V*W)) (wg v w S):=by
 induction S with
 | nil=>intro v w _ _; simp only [wg,List.length_nil]; constructor <;> grind
 | cons b S ih =>
  intro v w h g
  have hW:=(g (b :: S) rfl).nn
  have hV:=(h 0).nn
  have hVW:=Rat.mul_nonneg hV hW
  have e:(((b :: S).length:Nat):Rat)=(S.length:Nat)+1:=by rw [List.length_cons]; grind
  cases b
  ·have:=ih (sh v) (at0 w) (fun j=>h (j+1)) (fun T hT=>g _ (by simp [hT]))
   simp only [wg]
   refine this.le ?_
   rw [e]; grind
  ·have h1:=ih (sh v) (at1 w) (fun j=>h (j+1)) (fun T hT=>g _ (by simp [hT]))
   have h2:=(h 0).mul (g (false :: S) (by simp))
   simp only [wg]
   refine (h2.sub h1).le ?_
   rw [e]; grind
end Wd
namespace Wd
def vr (r:List Int):Vec:=fun j=>((r.getD j 0:Int):Rat)
def swr (row lead:List Int) (k:Nat) (p:Int):List Int:=List.zipWith (fun x y=>(lead.getD k 0*x-row.getD k 0*y).fdiv p) row lead
structure Lin (f:Vec->Rat):Prop where
 add:∀ u v:Vec,f (fun j=>u j+v j)=f u+f v
 smul:∀ (c:Rat) (v:Vec),f (fun j=>c*v j)=c*f v
structure Bi (B n m k:Nat) (A0:List Vec) (top:List (List Int)) (Z:List (List Int×Vec)) (p:Int) (w:Frm):Prop where
 lenT:top.length=k
 lenZ:k+Z.length=n
 nm:n≤m
 colT:∀ r∈top,r.length=m
 colZ:∀ z∈Z,z.1.length=m
 pz:p≠0
 pl:ld k m w=p
 rel:∀ z∈Z,∀ S,p*wg z.2 w S=wg (vr z.1) w S
 zer:∀ z∈Z,∀ j,j<k->vr z.1 j=0
 intw:∀ S,IsI (w S)
 inta:∀ z∈Z,∀ j,IsI (z.2 j)
 all:wgs (Z.map (·.2)) w=wgs A0 one
 dia:∀ i,i<k->(top.getD i []).getD i 0≠0∧∀ j,j<i->(top.getD i []).getD j 0=0
 last:0<k->(top.getD (k-1) []).getD (k-1) 0=p
 bda:∀ z∈Z,∀ j,Ab B (z.2 j)
 bdw:∀ T,Ab ((T.length*B) ^ k:Nat) (w T)
 bdt:∀ r∈top,∀ j,Ab ((m*B) ^ n:Nat) (vr r j)
 b1:1≤B
 lin:∀ f,Lin f->(∀ a∈A0,f a=0)->(∀ r∈top,f (vr r)=0)∧∀ z∈Z,f (vr z.1)=0
 lin2:∀ f,Lin f->(∀ r∈top,f (vr r)=0)->(∀ z∈Z,f (vr z.1)=0)->∀ a∈A0,f a=0
def ng (z:List Int×Vec):List Int×Vec:=(z.1.map (fun x=>-x),fun j=>(-1)*z.2 j)
theorem getD_map_neg (r:List Int) (j:Nat):(r.map (fun x=>-x)).getD j 0=- r.getD j 0:=by
 simp only [List.getD_eq_getElem?_getD,List.getElem?_map]
 cases r[j]? <;> simp
theorem vr_neg (r:List Int):vr (r.map (fun x=>-x))=fun j=>(-1)*vr r j:=by
 funext j; simp only [vr,getD_map_neg]; grind
theorem Bi.exch {B0 n m k:Nat} {A0:List Vec} {top:List (List Int)} {f z:List Int×Vec} {P Q:List (List Int×Vec)} {p:Int} {w:Frm}
  (B:Bi B0 n m k A0 top (f :: P++z :: Q) p w):Bi B0 n m k A0 top (z :: P++ng f :: Q) p w:=by
 have hf:f∈f :: P++z :: Q:=by simp
 have hm:∀ y∈z :: P++ng f :: Q,y∈f :: P++z :: Q∨y=ng f:=by
  intro y hy; simp at hy ⊢; grind
 refine { lenT:=B.lenT,lenZ:=?_,nm:=B.nm,colT:=B.colT,colZ:=?_,pz:=B.pz,pl:=B.pl,rel:=?_,zer:=?_,intw:=B.intw,inta:=?_,all:=?_,dia:=B.dia,last:=B.last,bda:=?_,bdw:=B.bdw,bdt:=B.bdt,b1:=B.b1,lin:=?_,lin2:=?_ }
 ·have:=B.lenZ; simp at this ⊢; omega
 ·intro y hy; rcases hm y hy with h | h
  ·exact B.colZ y h
  ·subst h; simp [ng]; exact B.colZ f hf
 ·intro y hy S; rcases hm y hy with h | h
  ·exact B.rel y h S
  ·subst h
   have:=B.rel f hf S
   simp only [ng,vr_neg]
   rw [wg_smul_v,wg_smul_v]; grind
 ·intro y hy j hj; rcases hm y hy with h | h
  ·exact B.zer y h j hj
  ·subst h
   have:=B.zer f hf j hj
   simp only [ng,vr_neg]; grind
 ·intro y hy j; rcases hm y hy with h | h
  ·exact B.inta y h j
  ·subst h; exact (IsI.of (-1)).mul (B.inta f hf j)
 ·rw [←B.all]
  funext S
  simp only [List.map_append,List.map_cons,ng]
  have h1:=wgs_smulrow (z.2 :: P.map (·.2)) (Q.map (·.2)) (-1) f.2 w S
  have h2:=wgs_swap [] (P.map (·.2)) (Q.map (·.2)) z.2 f.2 w S
  simp only [List.nil_append] at h2
  rw [h1,h2]; grind
 ·intro y hy j; rcases hm y hy with h | h
  ·exact B.bda y h j
  ·subst h; exact (B.bda f hf j).neg
 ·intro g hg h0
  have:=B.lin g hg h0
  refine ⟨this.1,fun y hy=>?_⟩
  rcases hm y hy with h | h
  ·exact this.2 y h
  ·subst h; simp only [ng,vr_neg]; rw [hg.smul,this.2 f hf]; grind
 ·intro g hg h1 h2
  refine B.lin2 g hg h1 fun y hy=>?_
  have hf2:=h2 (ng f) (by simp)
  simp only [ng,vr_neg] at hf2
  rw [hg.smul] at hf2
  simp only [List.cons_append,List.mem_cons,List.mem_append] at hy
  rcases hy with h | h | h | h
  ·subst h; grind
  ·exact h2 y (by simp [h])
  ·subst h; exact h2 y (by simp)
  ·exact h2 y (by simp [h])
theorem rel_up {p:Rat} {a b z r:Vec} {w:Frm} (hp:p≠0) (ha:∀ S,p*wg a w S=wg r w S) (hb:∀ S,p*wg b w S=wg z w S) (S:List Bool) :
  p*wg a (wg b w) S=wg r (wg b w) S:=by
 have h1:wg a (wg z w) S=p*wg a (wg b w) S:=by
  have:wg z w=fun T=>p*wg b w T:=by funext T; exact (hb T).symm
  rw [this,wg_smul]
 have h2:wg z (wg r w) S=p*wg z (wg a w) S:=by
  have:wg r w=fun T=>p*wg a w T:=by funext T; exact (ha T).symm
  rw [this,wg_smul]
 have h3:wg r (wg z w) S=p*wg r (wg b w) S:=by
  have:wg z w=fun T=>p*wg b w T:=by funext T; exact (hb T).symm
  rw [this,wg_smul]
 have h4:=wg_comm a z w S
 have h5:=wg_comm z r w S
 have:p*(p*wg a (wg b w) S)=p*wg r (wg b w) S:=by grind
 grind
theorem self_up {p:Rat} {b z:Vec} {w:Frm} (hb:∀ S,p*wg b w S=wg z w S) (S:List Bool):wg z (wg b w) S=0:=by
 rw [wg_comm]
 have:wg z w=fun T=>p*wg b w T:=by funext T; exact (hb T).symm
 rw [this,wg_smul,wg_wg]; grind
theorem swr_len {row lead:List Int} {k m:Nat} {p:Int} (h1:row.length=m) (h2:lead.length=m):(swr row lead k p).length=m:=by
 simp [swr,h1,h2]
theorem swr_get {row lead:List Int} {k m:Nat} {p:Int} (h1:row.length=m) (h2:lead.length=m) (j:Nat) :
  (swr row lead k p).getD j 0=(lead.getD k 0*row.getD j 0-row.getD k 0*lead.getD j 0).fdiv p:=by
 by_cases hj:j<m
 ·have a1:row.getD j 0=row[j]:=by rw [List.getD_eq_getElem?_getD,List.getElem?_eq_getElem (by omega)]; rfl
  have a2:lead.getD j 0=lead[j]:=by rw [List.getD_eq_getElem?_getD,List.getElem?_eq_getElem (by omega)]; rfl
  have hl:j<(swr row lead k p).length:=by rw [swr_len h1 h2]; exact hj
  rw [a1,a2,List.getD_eq_getElem?_getD,List.getElem?_eq_getElem hl]
  simp [swr]
 ·have o:∀ l:List Int,l.length=m->l.getD j 0=0:=by
   intro l hl
   rw [List.getD_eq_getElem?_getD,List.getElem?_eq_none (by omega)]; rfl
  rw [o _ (swr_len h1 h2),o row h1,o lead h2]
  simp
theorem vr_zero_of {r:List Int} {j:Nat} (h:vr r j=0):r.getD j 0=0:=by
 simp only [vr] at h; exact_mod_cast h
theorem swr_exact {m k:Nat} {a b:Vec} {r z:List Int} {p:Int} {w:Frm} (hk:k<m) (hr:r.length=m) (hzl:z.length=m) (hp:p≠0) (hpl:ld k m w=p)
  (ha:∀ S,(p:Rat)*wg a w S=wg (vr r) w S) (hb:∀ S,(p:Rat)*wg b w S=wg (vr z) w S) (zr:∀ j,j<k->vr r j=0) (zz:∀ j,j<k->vr z j=0)
  (hq:z.getD k 0≠0) (iw:∀ S,IsI (w S)) (ia:∀ j,IsI (a j)) (ib:∀ j,IsI (b j)) :
  ld (k+1) m (wg b w)=z.getD k 0∧(∀ j,(p:Rat)*vr (swr r z k p) j=(z.getD k 0:Int)*vr r j-(r.getD k 0:Int)*vr z j) ∧
  (∀ S,((z.getD k 0:Int):Rat)*wg a (wg b w) S=wg (vr (swr r z k p)) (wg b w) S)∧∀ j,j<k+1->vr (swr r z k p) j=0:=by
 have hp':(p:Rat)≠0:=by exact_mod_cast hp
 have hq':((z.getD k 0:Int):Rat)≠0:=by exact_mod_cast hq
 have l1:ld (k+1) m (wg b w)=z.getD k 0:=by
  have h1:=ld_wg w zz hk
  have h2:ld (k+1) m (wg (vr z) w)=p*ld (k+1) m (wg b w):=by
   unfold ld; rw [←hb]; grind
  rw [h2,hpl] at h1
  have:vr z k=((z.getD k 0:Int):Rat):=rfl
  rw [this] at h1; grind
 let M:Vec:=fun j=>((z.getD k 0:Int):Rat)*vr r j+(-((r.getD k 0:Int):Rat))*vr z j
 have hM:∀ S,wg M (wg b w) S=((z.getD k 0:Int):Rat)*(p*wg a (wg b w) S):=by
  intro S
  have e:=wg_add_v S (fun j=>((z.getD k 0:Int):Rat)*vr r j) (fun j=>(-((r.getD k 0:Int):Rat))*vr z j) (wg b w)
  rw [wg_smul_v,wg_smul_v,self_up hb S,←rel_up hp' ha hb S] at e
  show wg M (wg b w) S=_
  rw [show M=fun j=>((z.getD k 0:Int):Rat)*vr r j+(-((r.getD k 0:Int):Rat))*vr z j from rfl,e]; grind
 have zM:∀ j,j<k+1->M j=0:=by
  intro j hj
  show ((z.getD k 0:Int):Rat)*vr r j+(-((r.getD k 0:Int):Rat))*vr z j=0
  rcases Nat.lt_or_ge j k with h | h
  ·rw [zr j h,zz j h]; grind
  ·have:j=k:=by omega
   subst this
   show ((z.getD j 0:Int):Rat)*((r.getD j 0:Int):Rat)+(-((r.getD j 0:Int):Rat))*((z.getD j 0:Int):Rat)=0
   grind
 have dv:∀ j,∃ c:Int,M j=p*c:=by
  intro j
  rcases Nat.lt_or_ge j (k+1) with h | h
  ·exact ⟨0,by rw [zM j h]; grind⟩
  ·rcases Nat.lt_or_ge j m with h2 | h2
   ·have h3:=wg_Sj (v:=M) (wg b w) zM h h2
    rw [hM] at h3
    obtain ⟨c,hc⟩:=wg_int (Sj (k+1) j m) a (wg b w) ia (fun T=>wg_int T b w ib iw)
    have h4:wg b w (Tk (k+1) m)=tri (k+1)*((z.getD k 0:Int):Rat):=by
     have:=tri_sq (k+1)
     rw [←l1]; unfold ld; grind
    rw [h4] at h3
    have h5:=tri_sq (k+1)
    have h6:=sg_sq (k+1)
    have ht:IsI (sg (k+1)*tri (k+1)):=by
     have i1:∀ c,IsI (sg c):=by intro c; unfold sg; split; exact ⟨1,rfl⟩; exact ⟨-1,rfl⟩
     have i2:∀ c,IsI (tri c):=by
      intro c; induction c with
      | zero=>exact ⟨1,rfl⟩
      | succ c ih=>exact ih.mul (i1 c)
     exact (i1 _).mul (i2 _)
    obtain ⟨t,ht⟩:=ht
    refine ⟨t*c,?_⟩
    rw [hc] at h3
    have:M j=sg (k+1)*tri (k+1)*(p*c):=by
     have:((z.getD k 0:Int):Rat)*(M j)=((z.getD k 0:Int):Rat)*(sg (k+1)*tri (k+1)*(p*c)):=by grind
     grind
    rw [this,ht]; grind
   ·refine ⟨0,?_⟩
    show ((z.getD k 0:Int):Rat)*vr r j+(-((r.getD k 0:Int):Rat))*vr z j=_
    have e1:r.getD j 0=0:=by rw [List.getD_eq_getElem?_getD,List.getElem?_eq_none (by omega)]; rfl
    have e2:z.getD j 0=0:=by rw [List.getD_eq_getElem?_getD,List.getElem?_eq_none (by omega)]; rfl
    simp only [vr,e1,e2]; grind
 have ex:∀ j,(p:Rat)*vr (swr r z k p) j=M j:=by
  intro j
  obtain ⟨c,hc⟩:=dv j
  have hMi:M j=((z.getD k 0*r.getD j 0-r.getD k 0*z.getD j 0:Int):Rat):=by
   show ((z.getD k 0:Int):Rat)*((r.getD j 0:Int):Rat)+(-((r.getD k 0:Int):Rat))*((z.getD j 0:Int):Rat)=_
   grind
  have hi:z.getD k 0*r.getD j 0-r.getD k 0*z.getD j 0=p*c:=by
   rw [hMi] at hc; exact_mod_cast hc
  simp only [vr]
  rw [swr_get hr hzl,hi,hc,Int.fdiv_eq_ediv_of_dvd (Int.dvd_mul_right p c),Int.mul_ediv_cancel_left _ hp]
 have eN:(fun j=>(p:Rat)*vr (swr r z k p) j)=M:=funext ex
 refine ⟨l1,?_,?_,?_⟩
 ·intro j; rw [ex j]
  show ((z.getD k 0:Int):Rat)*vr r j+(-((r.getD k 0:Int):Rat))*vr z j=_
  grind
 ·intro S
  have h:=hM S
  rw [←eN,wg_smul_v] at h
  grind
 ·intro j hj
  have h:=ex j
  rw [zM j hj] at h
  grind
theorem Bi.ent {B0 n m k:Nat} {A0:List Vec} {top:List (List Int)} {Z:List (List Int×Vec)} {p:Int} {w:Frm} (B:Bi B0 n m k A0 top Z p w)
  {z:List Int×Vec} (hz:z∈Z) (j:Nat):Ab ((m*B0) ^ (k+1):Nat) (vr z.1 j):=by
 have nnr:∀ a:Nat,(0:Rat)≤(a:Rat):=fun a=>by exact_mod_cast Nat.zero_le a
 have z0:Ab ((m*B0) ^ (k+1):Nat) (0:Rat):=by have:=nnr ((m*B0) ^ (k+1)); constructor <;> grind
 have hkn:=B.lenZ
 have hnm:=B.nm
 have hl:0<Z.length:=List.length_pos_of_mem hz
 rcases Nat.lt_or_ge j k with h | h
 ·rw [B.zer z hz j h]; exact z0
 ·rcases Nat.lt_or_ge j m with h2 | h2
  ·have e:=wg_Sj (v:=vr z.1) w (B.zer z hz) h h2
   rw [←B.rel z hz] at e
   have hp:(p:Rat)≠0:=by have:=B.pz; exact_mod_cast this
   have ht:w (Tk k m)=tri k*p:=by
    have:=tri_sq k
    have:=B.pl
    unfold ld at this; grind
   rw [ht] at e
   have e2:vr z.1 j=sg k*tri k*wg z.2 w (Sj k j m):=by
    have h5:=tri_sq k
    have h6:=sg_sq k
    have:p*(vr z.1 j)=p*(sg k*tri k*wg z.2 w (Sj k j m)):=by grind
    grind
   have ls:(Sj k j m).length=m:=by unfold Sj; simp; omega
   have bd:=wg_bd (V:=(B0:Nat)) (W:=((m*B0) ^ k:Nat)) (Sj k j m) z.2 w (B.bda z hz) (fun T hT=>by have:=B.bdw T; rw [hT,ls] at this; exact this)
   rw [ls] at bd
   have eb:((m:Nat):Rat)*(((B0:Nat):Rat)*(((m*B0) ^ k:Nat):Rat))=(((m*B0) ^ (k+1):Nat):Rat):=by
    rw [Nat.pow_succ]
    have:m*(B0*(m*B0) ^ k)=(m*B0) ^ k*(m*B0):=by rw [←Nat.mul_assoc,Nat.mul_comm]
    rw [←this]; simp [Rat.natCast_mul]
   rw [eb] at bd
   rw [e2]
   have s1:∀ c,sg c=1∨sg c=-1:=by intro c; unfold sg; split; exact .inl rfl; exact .inr rfl
   have s2:∀ c,tri c=1∨tri c=-1:=by
    intro c; induction c with
    | zero=>exact .inl rfl
    | succ c ih =>
     simp only [tri]
     rcases ih with a | a <;> rcases s1 c with b | b <;> rw [a,b] <;> grind
   rcases s1 k with a | a <;> rcases s2 k with b | b <;> rw [a,b]
   ·simpa using bd
   ·have:=bd.neg; simpa using this
   ·have:=bd.neg; simpa using this
   ·rw [show (-1:Rat) * -1*wg z.2 w (Sj k j m)=wg z.2 w (Sj k j m) by grind]; exact bd
  ·have e1:z.1.getD j 0=0:=by rw [List.getD_eq_getElem?_getD,List.getElem?_eq_none (by rw [B.colZ z hz]; omega)]; rfl
   have:vr z.1 j=0:=by simp only [vr,e1]; rfl
   rw [this]; exact z0
theorem pow_up {a i n:Nat} (h:1≤a) (hi:i≤n):a ^ i≤a ^ n:=Nat.pow_le_pow_right h hi
theorem Bi.step {B0 n m k:Nat} {A0:List Vec} {top:List (List Int)} {z:List Int×Vec} {Z:List (List Int×Vec)} {p:Int} {w:Frm}
  (B:Bi B0 n m k A0 top (z :: Z) p w) (hq:z.1.getD k 0≠0) :
  Bi B0 n m (k+1) A0 (top++[z.1]) (Z.map fun y=>(swr y.1 z.1 k p,y.2)) (z.1.getD k 0) (wg z.2 w):=by
 have hkn:=B.lenZ
 have hnm:=B.nm
 simp at hkn
 have hkm:k<m:=by omega
 have hz:z∈z :: Z:=by simp
 have key:∀ y∈Z,_:=fun y hy=>swr_exact hkm (B.colZ y (by simp [hy])) (B.colZ z hz) B.pz B.pl (B.rel y (by simp [hy])) (B.rel z hz) (B.zer y (by simp [hy])) (B.zer z hz) hq B.intw (B.inta y (by simp [hy])) (B.inta z hz)
 have l1:=(swr_exact hkm (B.colZ z hz) (B.colZ z hz) B.pz B.pl (B.rel z hz) (B.rel z hz) (B.zer z hz) (B.zer z hz) hq B.intw (B.inta z hz) (B.inta z hz)).1
 have hp':(p:Rat)≠0:=by have:=B.pz; exact_mod_cast this
 have hlT:=B.lenT
 refine { lenT:=by simp [B.lenT],lenZ:=by simp; omega,nm:=B.nm,colT:=?_,colZ:=?_,pz:=hq,pl:=l1,rel:=?_,zer:=?_,intw:=fun S=>wg_int S z.2 w (B.inta z hz) B.intw,inta:=?_,all:=?_,dia:=?_,last:=?_,bda:=?_,bdw:=?_,bdt:=?_,b1:=B.b1,lin:=?_,lin2:=?_ }
 ·intro r hr; simp at hr; rcases hr with h | h
  ·exact B.colT r h
  ·subst h; exact B.colZ z hz
 ·intro y hy; simp at hy; obtain ⟨a,b,hab,rfl⟩:=hy
  exact swr_len (B.colZ (a,b) (by simp [hab])) (B.colZ z hz)
 ·intro y hy S; simp at hy; obtain ⟨a,b,hab,rfl⟩:=hy
  exact (key (a,b) hab).2.2.1 S
 ·intro y hy; simp at hy; obtain ⟨a,b,hab,rfl⟩:=hy
  exact (key (a,b) hab).2.2.2
 ·intro y hy; simp at hy; obtain ⟨a,b,hab,rfl⟩:=hy
  exact B.inta (a,b) (by simp [hab])
 ·rw [←B.all]; simp [wgs,Function.comp_def]
 ·intro i hi
  rcases Nat.lt_or_ge i k with h | h
  ·have:(top++[z.1]).getD i []=top.getD i []:=by
    rw [List.getD_eq_getElem?_getD,List.getD_eq_getElem?_getD,List.getElem?_append_left (by omega)]
   rw [this]; exact B.dia i h
  ·have:i=k:=by omega
   subst this
   have:(top++[z.1]).getD i []=z.1:=by
    rw [List.getD_eq_getElem?_getD,List.getElem?_append_right (by omega),hlT]; simp
   rw [this]
   exact ⟨hq,fun j hj=>vr_zero_of (B.zer z hz j hj)⟩
 ·intro _
  have:(top++[z.1]).getD (k+1-1) []=z.1:=by
   rw [List.getD_eq_getElem?_getD,List.getElem?_append_right (by omega)]; simp [hlT]
  rw [this]; rfl
 ·intro y hy; simp at hy; obtain ⟨a,b,hab,rfl⟩:=hy
  exact B.bda (a,b) (by simp [hab])
 ·intro T
  have bd:=wg_bd (V:=(B0:Nat)) (W:=((T.length*B0) ^ k:Nat)) T z.2 w (B.bda z hz) (fun U hU=>by have:=B.bdw U; rw [hU] at this; exact this)
  have eb:((T.length:Nat):Rat)*(((B0:Nat):Rat)*(((T.length*B0) ^ k:Nat):Rat))=(((T.length*B0) ^ (k+1):Nat):Rat):=by
   rw [Nat.pow_succ]
   have:T.length*(B0*(T.length*B0) ^ k)=(T.length*B0) ^ k*(T.length*B0):=by rw [←Nat.mul_assoc,Nat.mul_comm]
   rw [←this]; simp [Rat.natCast_mul]
  rw [eb] at bd
  exact bd
 ·intro r hr j; simp at hr; rcases hr with h | h
  ·exact B.bdt r h j
  ·subst h
   refine (B.ent hz j).le ?_
   have:=B.b1
   have h1:1≤m*B0:=Nat.mul_pos (by omega) (by omega)
   exact_mod_cast pow_up h1 (by omega)
 ·intro f hf h0
  have hl:=B.lin f hf h0
  refine ⟨?_,?_⟩
  ·intro r hr; simp at hr; rcases hr with h | h
   ·exact hl.1 r h
   ·subst h; exact hl.2 z hz
  ·intro y hy; simp at hy; obtain ⟨a,b,hab,rfl⟩:=hy
   have h1:=(key (a,b) hab).2.1
   have e:(fun j=>(p:Rat)*vr (swr a z.1 k p) j)=fun j=>(fun j=>((z.1.getD k 0:Int):Rat)*vr a j) j+(fun j=>(-((a.getD k 0:Int):Rat))*vr z.1 j) j:=by
    funext j; rw [h1 j]; grind
   have h2:=congrArg f e
   rw [hf.smul,hf.add,hf.smul,hf.smul,hl.2 z hz,hl.2 (a,b) (by simp [hab])] at h2
   grind
 ·intro f hf h1 h2
  have fz:f (vr z.1)=0:=h1 z.1 (by simp)
  have hq':((z.1.getD k 0:Int):Rat)≠0:=by exact_mod_cast hq
  refine B.lin2 f hf (fun r hr=>h1 r (by simp [hr])) fun y hy=>?_
  rcases List.mem_cons.mp hy with h | h
  ·subst h; exact fz
  ·have e1:=(key y h).2.1
   have e:(fun j=>(p:Rat)*vr (swr y.1 z.1 k p) j)=fun j=>(fun j=>((z.1.getD k 0:Int):Rat)*vr y.1 j) j+(fun j=>(-((y.1.getD k 0:Int):Rat))*vr z.1 j) j:=by
    funext j; rw [e1 j]; grind
   have h3:=congrArg f e
   rw [hf.smul,hf.add,hf.smul,hf.smul,fz,h2 _ (List.mem_map_of_mem h)] at h3
   grind
theorem pow_rel (Z:List (List Int×Vec)):∀ {p:Rat} {w:Frm},p≠0->(∀ z∈Z,∀ S,p*wg z.2 w S=wg (vr z.1) w S) →
  ∃ c:Rat,c≠0∧∀ S,c*wgs (Z.map (·.2)) w S=wgs (Z.map (fun z=>vr z.1)) w S:=by
 induction Z with
 | nil=>intro p w _ _; exact ⟨1,by grind,fun S=>by simp [wgs]⟩
 | cons z Z ih =>
  intro p w hp h
  obtain ⟨c,hc,hS⟩:=ih (p:=p) (w:=wg z.2 w) hp (fun y hy S=>rel_up hp (h y (by simp [hy])) (h z (by simp)) S)
  refine ⟨p*c,by grind,fun S=>?_⟩
  simp only [List.map_cons,wgs]
  have e:wg (vr z.1) w=fun T=>p*wg z.2 w T:=by funext T; exact (h z (by simp) T).symm
  rw [e,wgs_smul]
  simp only []
  rw [←hS]; grind
theorem Bi.none {B0 n m k:Nat} {A0:List Vec} {top:List (List Int)} {Z:List (List Int×Vec)} {p:Int} {w:Frm}
  (B:Bi B0 n m k A0 top Z p w) (hkn:k<n) (h0:∀ z∈Z,z.1.getD k 0=0):ld n m (wgs A0 one)=0:=by
 have hp':(p:Rat)≠0:=by have:=B.pz; exact_mod_cast this
 obtain ⟨c,hc,hS⟩:=pow_rel Z hp' B.rel
 have h:=wgs_few (c:=k+1) (n:=n) (m:=m) (L:=Z.map (fun z=>vr z.1)) w ?_ (by omega) (by have:=B.lenZ; simp; omega)
 ·rw [←hS,B.all] at h
  unfold ld; grind
 ·intro v hv j hj
  rw [List.mem_map] at hv
  obtain ⟨z,hz,rfl⟩:=hv
  rcases Nat.lt_or_ge j k with h | h
  ·exact B.zer _ hz j h
  ·have:j=k:=by omega
   subst this
   have:=h0 _ hz
   simp only [vr]; rw [this]; rfl
theorem Bi.mk0 {B0 n m:Nat} {R:List (List Int)} (hb1:1≤B0) (hb:∀ r∈R,∀ j,Ab B0 (vr r j)) (h1:R.length=n) (h2:n≤m) (h3:∀ r∈R,r.length=m) :
  Bi B0 n m 0 (R.map vr) [] (R.map fun r=>(r,vr r)) 1 one:=by
 refine { lenT:=rfl,lenZ:=by simp [h1],nm:=h2,colT:=by simp,colZ:=?_,pz:=by omega,pl:=?_,rel:=?_,zer:=by intro _ _ j hj; omega,intw:=one_int,inta:=?_,all:=?_,dia:=by intro i hi; omega,last:=by intro h; omega,bda:=?_,bdw:=?_,bdt:=by simp,b1:=hb1,lin:=?_,lin2:=?_ }
 ·intro z hz; simp at hz; obtain ⟨a,ha,rfl⟩:=hz; exact h3 a ha
 ·rw [ld_one]; rfl
 ·intro z hz S; simp at hz; obtain ⟨a,ha,rfl⟩:=hz; simp only []; grind
 ·intro z hz j; simp at hz; obtain ⟨a,ha,rfl⟩:=hz; exact ⟨_,rfl⟩
 ·simp [Function.comp_def]
 ·intro z hz j; simp at hz; obtain ⟨a,ha,rfl⟩:=hz; exact hb a ha j
 ·intro T
  have:one T=1∨one T=0:=by
   induction T with
   | nil=>exact .inl rfl
   | cons b T ih=>cases b; exact ih; exact .inr rfl
  rw [Nat.pow_zero]
  rcases this with h | h <;> rw [h] <;> constructor <;> grind
 ·intro f hf h0; refine ⟨by simp,?_⟩
  intro z hz; simp at hz; obtain ⟨a,ha,rfl⟩:=hz; exact h0 _ (List.mem_map_of_mem ha)
 ·intro f hf h1 h2 a ha
  obtain ⟨r,hr,rfl⟩:=List.mem_map.mp ha
  exact h2 (r,vr r) (List.mem_map.mpr ⟨r,hr,rfl⟩)
theorem Bi.fin {B0 n m:Nat} {A0:List Vec} {top:List (List Int)} {Z:List (List Int×Vec)} {p:Int} {w:Frm}
  (B:Bi B0 n m n A0 top Z p w):Z=[]∧ld n m (wgs A0 one)=p:=by
 have:Z=[]:=by have:=B.lenZ; exact List.length_eq_zero_iff.mp (by omega)
 subst this
 refine ⟨rfl,?_⟩
 rw [←B.all]; exact B.pl
end Wd
namespace Mth
theorem frac_rat (t b : Int) (h : b ≠ 0) : frac t b = (((t : Rat) / (b : Rat)).num, (((t : Rat) / (b : Rat)).den : Int)) := by
  have g := frac_gcd t b h
  have p := frac_pos t b h
  have c := frac_cross t b
  generalize (frac t b) = x at *
  obtain ⟨n, d⟩ := x
  simp only at g p c
  have hd : d = (d.toNat : Int) := by omega
  have hn : d.toNat ≠ 0 := by omega
  have hc : n.natAbs.Coprime d.toNat := by
    have : Int.gcd n d = n.natAbs.gcd d.toNat := by rw [Int.gcd]; congr 1; omega
    unfold Nat.Coprime; rw [← this]; exact g
  let r : Rat := ⟨n, d.toNat, hn, hc⟩
  have hr : r * (d : Rat) = n := by
    have h1 : r = (n : Rat) / ((d.toNat : Nat) : Rat) := by
      have := Rat.num_divInt_den r
      rw [← this, Rat.divInt_eq_div]; rfl
    have h2 : ((d.toNat : Nat) : Rat) = (d : Rat) := by
      have : ((d.toNat : Nat) : Rat) = (((d.toNat : Nat) : Int) : Rat) := rfl
      rw [this, ← hd]
    have h3 : (d : Rat) ≠ 0 := by have : d ≠ 0 := by omega
                                  exact_mod_cast this
    rw [h1, h2]; grind
  have hb : (b : Rat) ≠ 0 := by exact_mod_cast h
  have hd0 : (d : Rat) ≠ 0 := by have : d ≠ 0 := by omega
                                 exact_mod_cast this
  have cr : (n : Rat) * b = t * d := by exact_mod_cast c
  have e : (t : Rat) / (b : Rat) = r := by grind
  rw [e]
  show (n, d) = (n, ((d.toNat : Nat) : Int))
  rw [← hd]
def fr (q:Rat):Int×Int:=(q.num,q.den)
theorem fr_inj {p q:Rat} (h:fr p=fr q):p=q:=by
 unfold fr at h
 have h1:=congrArg Prod.fst h
 have h2:=congrArg Prod.snd h
 simp at h1 h2
 exact Rat.ext h1 (by omega)
theorem rat_num (q:Rat):q*((q.den:Nat):Rat)=q.num:=by
 have h1:=Rat.num_divInt_den q
 rw [Rat.divInt_eq_div] at h1
 have:((q.den:Nat):Rat)≠0:=by exact_mod_cast q.den_nz
 have h2:(((q.den:Nat):Int):Rat)=((q.den:Nat):Rat):=rfl
 rw [h2] at h1
 grind
theorem rat_den_ne (q:Rat):((q.den:Nat):Rat)≠0:=by exact_mod_cast q.den_nz
theorem ic (n:Nat):(((n:Nat):Int):Rat)=((n:Nat):Rat):=rfl
theorem fr_add (p q:Rat):frac (p.num*q.den+q.num*p.den) (p.den*q.den)=fr (p+q):=by
 have hp:=p.den_nz
 have hq:=q.den_nz
 have h:((p.den:Int)*(q.den:Int))≠0:=Int.mul_ne_zero (by omega) (by omega)
 rw [frac_rat _ _ h]
 have e:(((p.num*q.den+q.num*p.den:Int)):Rat) / (((p.den:Int)*(q.den:Int):Int):Rat)=p+q:=by
  have:=rat_num p; have:=rat_num q; have:=rat_den_ne p; have:=rat_den_ne q
  simp only [Rat.intCast_add,Rat.intCast_mul,ic]
  grind
 rw [e]; rfl
theorem fr_sub (p q:Rat):frac (p.num*q.den-q.num*p.den) (p.den*q.den)=fr (p-q):=by
 have hp:=p.den_nz
 have hq:=q.den_nz
 have h:((p.den:Int)*(q.den:Int))≠0:=Int.mul_ne_zero (by omega) (by omega)
 rw [frac_rat _ _ h]
 have e:(((p.num*q.den-q.num*p.den:Int)):Rat) / (((p.den:Int)*(q.den:Int):Int):Rat)=p-q:=by
  have:=rat_num p; have:=rat_num q; have:=rat_den_ne p; have:=rat_den_ne q
  simp only [Rat.intCast_sub,Rat.intCast_mul,ic]
  grind
 rw [e]; rfl
theorem fr_mul (p q:Rat):frac (p.num*q.num) (p.den*q.den)=fr (p*q):=by
 have hp:=p.den_nz
 have hq:=q.den_nz
 have h:((p.den:Int)*(q.den:Int))≠0:=Int.mul_ne_zero (by omega) (by omega)
 rw [frac_rat _ _ h]
 have e:(((p.num*q.num:Int)):Rat) / (((p.den:Int)*(q.den:Int):Int):Rat)=p*q:=by
  have:=rat_num p; have:=rat_num q; have:=rat_den_ne p; have:=rat_den_ne q
  simp only [Rat.intCast_mul,ic]
  grind
 rw [e]; rfl
def Sb (n d:Nat) (q:Rat):Prop:=q.num.natAbs≤2 ^ n∧q.den≤2 ^ d
theorem frac_le {t b:Int} (h:b≠0):(frac t b).1.natAbs≤t.natAbs∧(frac t b).2.natAbs≤b.natAbs:=by
 have h1:=frac_l t b
 have h2:=frac_r t b
 have h3:=part_ne t b h
 have a1:t.natAbs=(frac t b).1.natAbs*(part t b).natAbs:=by rw [←Int.natAbs_mul,h1]
 have a2:b.natAbs=(frac t b).2.natAbs*(part t b).natAbs:=by rw [←Int.natAbs_mul,h2]
 have a3:1≤(part t b).natAbs:=by omega
 rw [a1,a2]
 exact ⟨Nat.le_mul_of_pos_right _ a3,Nat.le_mul_of_pos_right _ a3⟩
theorem sb_of {t b:Int} {n d:Nat} (h:b≠0) (h1:t.natAbs≤2 ^ n) (h2:b.natAbs≤2 ^ d) {q:Rat} (e:frac t b=fr q):Sb n d q:=by
 have:=frac_le (t:=t) h
 rw [e] at this
 simp only [fr,Int.natAbs_natCast] at this
 exact ⟨by omega,by omega⟩
theorem pmul {a b m n:Nat} (h:a≤2 ^ m) (g:b≤2 ^ n):a*b≤2 ^ (m+n):=by rw [Nat.pow_add]; exact Nat.mul_le_mul h g
theorem dnz (p q:Rat):((p.den:Int)*(q.den:Int))≠0:=by
 have hp:=p.den_nz
 have hq:=q.den_nz
 exact Int.mul_ne_zero (by omega) (by omega)
theorem Sb.mul {n d n' d':Nat} {p q:Rat} (h:Sb n d p) (g:Sb n' d' q):Sb (n+n') (d+d') (p*q):=by
 refine sb_of (dnz p q) ?_ ?_ (fr_mul p q)
 ·rw [Int.natAbs_mul]; exact pmul h.1 g.1
 ·rw [Int.natAbs_mul,Int.natAbs_natCast,Int.natAbs_natCast]; exact pmul h.2 g.2
theorem Sb.add {n d n' d' N:Nat} {p q:Rat} (h:Sb n d p) (g:Sb n' d' q) (h1:n+d'≤N) (h2:n' + d≤N):Sb (N+1) (d+d') (p+q):=by
 refine sb_of (dnz p q) ?_ ?_ (fr_add p q)
 ·have a1:(p.num*q.den).natAbs≤2 ^ N:=by
   rw [Int.natAbs_mul,Int.natAbs_natCast]
   exact Nat.le_trans (pmul h.1 g.2) (Nat.pow_le_pow_right (by decide) h1)
  have a2:(q.num*p.den).natAbs≤2 ^ N:=by
   rw [Int.natAbs_mul,Int.natAbs_natCast]
   exact Nat.le_trans (pmul g.1 h.2) (Nat.pow_le_pow_right (by decide) h2)
  have:=Int.natAbs_add_le (p.num*q.den) (q.num*p.den)
  rw [Nat.pow_succ]; omega
 ·rw [Int.natAbs_mul,Int.natAbs_natCast,Int.natAbs_natCast]; exact pmul h.2 g.2
theorem Sb.sub {n d n' d' N:Nat} {p q:Rat} (h:Sb n d p) (g:Sb n' d' q) (h1:n+d'≤N) (h2:n' + d≤N):Sb (N+1) (d+d') (p-q):=by
 refine sb_of (dnz p q) ?_ ?_ (fr_sub p q)
 ·have a1:(p.num*q.den).natAbs≤2 ^ N:=by
   rw [Int.natAbs_mul,Int.natAbs_natCast]
   exact Nat.le_trans (pmul h.1 g.2) (Nat.pow_le_pow_right (by decide) h1)
  have a2:(q.num*p.den).natAbs≤2 ^ N:=by
   rw [Int.natAbs_mul,Int.natAbs_natCast]
   exact Nat.le_trans (pmul g.1 h.2) (Nat.pow_le_pow_right (by decide) h2)
  have:=Int.natAbs_sub_le (p.num*q.den) (q.num*p.den)
  rw [Nat.pow_succ]; omega
 ·rw [Int.natAbs_mul,Int.natAbs_natCast,Int.natAbs_natCast]; exact pmul h.2 g.2
theorem Sb.mono {n d n' d':Nat} {p:Rat} (h:Sb n d p) (h1:n≤n') (h2:d≤d'):Sb n' d' p :=
 ⟨Nat.le_trans h.1 (Nat.pow_le_pow_right (by decide) h1),Nat.le_trans h.2 (Nat.pow_le_pow_right (by decide) h2)⟩
theorem Sb.zero:Sb 0 0 0:=by constructor <;> decide
theorem Sb.one:Sb 0 0 1:=by constructor <;> decide
def cb1 (c:Int) (q:Rat):Int:=c.fdiv (Int.gcd c q.den:Int)*q.den
def cb (r:List Rat):Int:=r.foldl cb1 1
theorem cb1_ok {c:Int} (h:0<c) (q:Rat):0<cb1 c q∧c ∣ cb1 c q∧(q.den:Int) ∣ cb1 c q∧cb1 c q≤c*q.den:=by
 have hq:=q.den_nz
 have hg:0<Int.gcd c q.den:=Int.gcd_pos_of_ne_zero_left _ (by omega)
 obtain ⟨x,hx⟩:=Int.gcd_dvd_left c (q.den:Int)
 obtain ⟨y,hy⟩:=Int.gcd_dvd_right c (q.den:Int)
 generalize hG:Int.gcd c (q.den:Int)=G at *
 have hG0:(G:Int)≠0:=by omega
 have e:c.fdiv (G:Int)=x:=by
  rw [Int.fdiv_eq_ediv_of_dvd ⟨x,hx⟩]
  conv=>lhs; rw [hx]
  rw [Int.mul_ediv_cancel_left _ hG0]
 have hx0:0<x:=by
  rcases Int.lt_or_le 0 x with h' | h'
  ·exact h'
  ·have:(G:Int)*x≤0:=Int.mul_nonpos_of_nonneg_of_nonpos (by omega) h'
   omega
 have hq0:(0:Int)<q.den:=by omega
 unfold cb1
 rw [hG,e]
 refine ⟨Int.mul_pos hx0 hq0,⟨y,?_⟩,⟨x,Int.mul_comm _ _⟩,?_⟩
 ·conv=>lhs; rw [hy]
  conv=>rhs; rw [hx]
  rw [Int.mul_left_comm,Int.mul_assoc]
 ·refine Int.mul_le_mul_of_nonneg_right ?_ (by omega)
  have:1*x≤(G:Int)*x:=Int.mul_le_mul_of_nonneg_right (by omega) (by omega)
  omega
theorem cb_ok (r:List Rat):∀ {c:Int} {D d:Nat},0<c->c.natAbs≤2 ^ D->(∀ q∈r,q.den≤2 ^ d) →
  0<r.foldl cb1 c∧c ∣ r.foldl cb1 c∧(∀ q∈r,(q.den:Int) ∣ r.foldl cb1 c)∧(r.foldl cb1 c).natAbs≤2 ^ (D+d*r.length):=by
 induction r with
 | nil=>intro c D d h g _; exact ⟨h,Int.dvd_refl _,by simp,by simpa using g⟩
 | cons q r ih =>
  intro c D d h g hd
  obtain ⟨a1,a2,a3,a4⟩:=cb1_ok h q
  have hq:=hd q (by simp)
  have a5:(cb1 c q).natAbs≤2 ^ (D+d):=by
   have h5:(cb1 c q).natAbs≤c.natAbs*q.den:=by
    have e1:((c.natAbs*q.den:Nat):Int)=c*q.den:=by rw [Int.natCast_mul]; congr 1; omega
    omega
   exact Nat.le_trans h5 (pmul g hq)
  obtain ⟨b1,b2,b3,b4⟩:=ih (D:=D+d) (d:=d) a1 a5 (fun p hp=>hd p (by simp [hp]))
  refine ⟨b1,Int.dvd_trans a2 b2,?_,?_⟩
  ·intro p hp
   rcases List.mem_cons.mp hp with rfl | hp
   ·exact Int.dvd_trans a3 b2
   ·exact b3 p hp
  ·rw [List.length_cons,Nat.mul_succ]
   have:D+(d*r.length+d)=D+d+d*r.length:=by omega
   rw [this]; exact b4
def wh (b:Int) (q:Rat):Int:=q.num*b.fdiv q.den
theorem wh_rat {b:Int} {q:Rat} (h:(q.den:Int) ∣ b):((wh b q:Int):Rat)=b*q:=by
 obtain ⟨x,hx⟩:=h
 have hq:=q.den_nz
 have e:b.fdiv q.den=x:=by
  rw [Int.fdiv_eq_ediv_of_dvd ⟨x,hx⟩,hx,Int.mul_ediv_cancel_left _ (by omega)]
 unfold wh
 rw [e,hx]
 have:=rat_num q
 simp only [Rat.intCast_mul,ic]
 grind
end Mth
namespace Wd
open Mth
def ledR (R:List (List Int)) (k i:Nat):List (List Int):=if i=k then R else (R.set k (R.getD i [])).set i ((R.getD k []).map fun x=>-x)
theorem mid_at {α:Type} (A B:List α) (x d:α) {i:Nat} (h:A.length=i):(A++x :: B).getD i d=x:=by
 subst h
 rw [List.getD_eq_getElem?_getD,List.getElem?_append_right (Nat.le_refl _)]; simp
theorem mid_set {α:Type} (A B:List α) (x y:α) {i:Nat} (h:A.length=i):(A++x :: B).set i y=A++y :: B:=by
 subst h
 rw [List.set_append_right _ _ (Nat.le_refl _)]; simp
theorem Bi.led {B0 n m k:Nat} {A0:List Vec} {top:List (List Int)} {Z:List (List Int×Vec)} {p:Int} {w:Frm} (B:Bi B0 n m k A0 top Z p w) {i:Nat} (h1:k≤i) (h2:i<n)
  (h3:((top++Z.map (·.1)).getD i []).getD k 0≠0):∃ z Z',Bi B0 n m k A0 top (z :: Z') p w∧ledR (top++Z.map (·.1)) k i=top++z.1 :: Z'.map (·.1)∧z.1.getD k 0≠0:=by
 have hl:=B.lenZ
 have ht:=B.lenT
 cases Z with
 | nil=>simp at hl; omega
 | cons f Zr =>
  by_cases hik:i=k
  ·subst hik
   refine ⟨f,Zr,B,?_,?_⟩
   ·unfold ledR; rw [if_pos rfl]; rfl
   ·rw [List.map_cons,mid_at _ _ _ _ ht] at h3; exact h3
  ·have hj:i-k-1<Zr.length:=by simp at hl; omega
   have e:Zr=Zr.take (i-k-1)++Zr[i-k-1] :: Zr.drop (i-k-1+1):=by rw [List.getElem_cons_drop,List.take_append_drop]
   generalize Zr.take (i-k-1)=P0 at e
   have hP0:(Zr.take (i-k-1)).length=i-k-1:=by simp; omega
   have hPl:P0.length=i-k-1:=by
    have:=congrArg List.length e
    simp at this; omega
   generalize Zr[i-k-1]=z at e
   generalize Zr.drop (i-k-1+1)=Q at e
   subst e
   have B':Bi B0 n m k A0 top (f :: P0++z :: Q) p w:=B
   have e1:top++List.map (·.1) (f :: (P0++z :: Q))=(top++f.1 :: P0.map (·.1))++z.1 :: Q.map (·.1):=by simp
   have l1:(top++f.1 :: P0.map (·.1)).length=i:=by simp; omega
   have gi:(top++List.map (·.1) (f :: (P0++z :: Q))).getD i []=z.1:=by rw [e1]; exact mid_at _ _ _ _ l1
   have gk:(top++List.map (·.1) (f :: (P0++z :: Q))).getD k []=f.1:=by rw [List.map_cons]; exact mid_at _ _ _ _ ht
   refine ⟨z,P0++ng f :: Q,B'.exch,?_,?_⟩
   ·unfold ledR
    rw [if_neg hik,gi,gk,List.map_cons,mid_set _ _ _ _ ht]
    have e2:top++z.1 :: List.map (·.1) (P0++z :: Q)=(top++z.1 :: P0.map (·.1))++z.1 :: Q.map (·.1):=by simp
    rw [e2,mid_set _ _ _ _ (by simp; omega)]
    simp [ng]
   ·rw [gi] at h3; exact h3
theorem ab_nat {N:Nat} {x:Int} (h:Ab ((N:Nat):Rat) ((x:Int):Rat)):x.natAbs≤N:=by
 obtain ⟨h1,h2⟩:=h
 have a:x≤(N:Int):=by
  have:((x:Int):Rat)≤(((N:Nat):Int):Rat):=h2
  exact_mod_cast this
 have b:-(N:Int)≤x:=by
  have:((-(N:Int):Int):Rat)≤((x:Int):Rat):=by rw [Rat.intCast_neg]; exact h1
  exact_mod_cast this
 omega
theorem nat_ab {N:Nat} {x:Int} (h:x.natAbs≤N):Ab ((N:Nat):Rat) ((x:Int):Rat):=by
 have a:x≤(N:Int):=by omega
 have b:-(N:Int)≤x:=by omega
 constructor
 ·have:((-(N:Int):Int):Rat)≤((x:Int):Rat):=by exact_mod_cast b
  rw [Rat.intCast_neg] at this; exact this
 ·have:((x:Int):Rat)≤(((N:Nat):Int):Rat):=by exact_mod_cast a
  exact this
theorem mem_getD {r:List Int} {x:Int} (h:x∈r):∃ j,r.getD j 0=x:=by
 obtain ⟨j,hj,e⟩:=List.getElem_of_mem h
 exact ⟨j,by rw [List.getD_eq_getElem?_getD,List.getElem?_eq_getElem hj]; exact e⟩
theorem getD_abs {r:List Int} {N:Nat} (h:∀ x∈r,x.natAbs≤N) (j:Nat):(r.getD j 0).natAbs≤N:=by
 rw [List.getD_eq_getElem?_getD]
 by_cases hj:j<r.length
 ·rw [List.getElem?_eq_getElem hj]; exact h _ (List.getElem_mem hj)
 ·rw [List.getElem?_eq_none (by omega)]; simp
def vq (r:List Rat):Vec:=fun j=>r.getD j 0
def dt (n m:Nat) (T:List (List Rat)):Rat:=ld n m (wgs (T.map vq) one)
theorem vr_wh {b:Int} {r:List Rat} (h:∀ q∈r,(q.den:Int) ∣ b):vr (r.map (wh b))=fun j=>(b:Rat)*vq r j:=by
 funext j
 simp only [vr,vq,List.getD_eq_getElem?_getD,List.getElem?_map]
 cases e:r[j]? with
 | none=>simp
 | some q=>simp; exact wh_rat (h q (List.mem_of_getElem? e))
def prodB:List Int->Int
 | []=>1
 | b :: L=>b*prodB L
theorem wgs_scaled (T:List (List Rat)) (β:List Rat->Int) (h:∀ r∈T,∀ q∈r,(q.den:Int) ∣ β r) :
  ∀ w S,wgs (T.map fun r=>vr (r.map (wh (β r)))) w S=((prodB (T.map β):Int):Rat)*wgs (T.map vq) w S:=by
 induction T with
 | nil=>intro w S; simp [wgs,prodB]
 | cons r T ih =>
  intro w S
  simp only [List.map_cons,wgs,prodB]
  rw [ih (fun r' hr'=>h r' (by simp [hr']))]
  have e:wg (vr (r.map (wh (β r)))) w=fun T=>((β r:Int):Rat)*wg (vq r) w T:=by
   funext T; rw [vr_wh (h r (by simp))]; exact wg_smul_v T _ _ w
  rw [e,wgs_smul,Rat.intCast_mul]; grind
theorem dt_scaled {n m:Nat} (T:List (List Rat)) (β:List Rat->Int) (h:∀ r∈T,∀ q∈r,(q.den:Int) ∣ β r) :
  ld n m (wgs ((T.map fun r=>r.map (wh (β r))).map vr) one)=((prodB (T.map β):Int):Rat)*dt n m T:=by
 unfold dt ld
 rw [List.map_map]
 have:=wgs_scaled T β h one (Tk n m)
 have e:(vr ∘ fun r:List Rat=>List.map (wh (β r)) r)=fun r:List Rat=>vr (r.map (wh (β r))):=rfl
 rw [e,this]
 grind
theorem prodB_ok (L:List Int) {d:Nat}:(∀ b∈L,0<b∧b.natAbs≤2 ^ d)->0<prodB L∧(prodB L).natAbs≤2 ^ (d*L.length):=by
 induction L with
 | nil=>intro _; exact ⟨by decide,by simp [prodB]⟩
 | cons b L ih =>
  intro h
  obtain ⟨h1,h2⟩:=ih (fun x hx=>h x (by simp [hx]))
  obtain ⟨g1,g2⟩:=h b (by simp)
  refine ⟨Int.mul_pos g1 h1,?_⟩
  simp only [prodB]
  rw [Int.natAbs_mul,List.length_cons,Nat.mul_succ,Nat.add_comm]
  exact pmul g2 h2
end Wd
namespace Wd
open Mth
def sumQ (f:Nat->Rat):Nat->Rat
 | 0=>0
 | n+1=>sumQ f n+f n
theorem sumQ_one {f:Nat->Rat} {i:Nat}:∀ {n:Nat},i<n->(∀ l,l<n->l≠i->f l=0)->sumQ f n=f i:=by
 intro n
 induction n with
 | zero=>intro h; omega
 | succ n ih =>
  intro h g
  by_cases hi:i=n
  ·subst hi
   have:∀ m,m≤i->sumQ f m=0:=by
    intro m
    induction m with
    | zero=>intro _; rfl
    | succ m ihm=>intro hm; simp only [sumQ]; rw [ihm (by omega),g m (by omega) (by omega)]; grind
   simp only [sumQ]; rw [this i (Nat.le_refl _)]; grind
  ·simp only [sumQ]
   rw [ih (by omega) (fun l hl hne=>g l (by omega) hne),g n (by omega) (by omega)]; grind
def en (T:List (List Rat)) (i j:Nat):Rat:=(T.getD i []).getD j 0
theorem sumQ_zero {f:Nat->Rat}:∀ {n:Nat},(∀ l,l<n->f l=0)->sumQ f n=0:=by
 intro n
 induction n with
 | zero=>intro _; rfl
 | succ n ih=>intro h; simp only [sumQ]; rw [ih (fun l hl=>h l (by omega)),h n (by omega)]; grind
end Wd
namespace Wd
def fx (n:Nat) (x:Nat->Rat):Vec->Rat:=fun v=>sumQ (fun j=>v j*x j) n-v n
theorem sumQ_add (f g:Nat->Rat):∀ n,sumQ (fun j=>f j+g j) n=sumQ f n+sumQ g n:=by
 intro n
 induction n with
 | zero=>simp only [sumQ]; grind
 | succ n ih=>simp only [sumQ]; rw [ih]; grind
theorem sumQ_smul (c:Rat) (f:Nat->Rat):∀ n,sumQ (fun j=>c*f j) n=c*sumQ f n:=by
 intro n
 induction n with
 | zero=>simp only [sumQ]; grind
 | succ n ih=>simp only [sumQ]; rw [ih]; grind
theorem sumQ_congr {f g:Nat->Rat}:∀ {n},(∀ j,j<n->f j=g j)->sumQ f n=sumQ g n:=by
 intro n
 induction n with
 | zero=>intro _; rfl
 | succ n ih=>intro h; simp only [sumQ]; rw [ih (fun j hj=>h j (by omega)),h n (by omega)]
theorem fx_lin (n:Nat) (x:Nat->Rat):Lin (fx n x):=by
 constructor
 ·intro u v
  have e:sumQ (fun j=>(u j+v j)*x j) n=sumQ (fun j=>u j*x j+v j*x j) n:=sumQ_congr (fun j _=>by grind)
  simp only [fx]
  rw [e,sumQ_add]; grind
 ·intro c v
  have e:sumQ (fun j=>c*v j*x j) n=sumQ (fun j=>c*(v j*x j)) n:=sumQ_congr (fun j _=>by grind)
  simp only [fx]
  rw [e,sumQ_smul]; grind
theorem back_ex {n:Nat} (A:Nat->Vec) (hd:∀ i,i<n->A i i≠0) (hz:∀ i j,i<n->j<i->A i j=0):∀ k,k≤n->∃ x:Nat->Rat,∀ i,n-k≤i->i<n->fx n x (A i)=0:=by
 intro k
 induction k with
 | zero=>intro _; exact ⟨fun _=>0,fun i h1 h2=>by omega⟩
 | succ k ih =>
  intro hk
  obtain ⟨x,hx⟩:=ih (by omega)
  let i0:=n-(k+1)
  have hi0:i0<n:=by show n-(k+1)<n; omega
  let rest:=sumQ (fun j=>if j=i0 then 0 else A i0 j*x j) n
  let x':Nat->Rat:=fun j=>if j=i0 then (A i0 n-rest) / A i0 i0 else x j
  refine ⟨x',fun i h1 h2=>?_⟩
  have split:∀ (B:Vec) (y:Nat->Rat),sumQ (fun j=>B j*y j) n=B i0*y i0+sumQ (fun j=>if j=i0 then 0 else B j*y j) n:=by
   intro B y
   have e:sumQ (fun j=>B j*y j) n=sumQ (fun j=>(if j=i0 then B i0*y i0 else 0)+(if j=i0 then 0 else B j*y j)) n:=by
    refine sumQ_congr fun j _=>?_
    by_cases h:j=i0
    ·simp only [if_pos h,h]; grind
    ·simp only [if_neg h]; grind
   rw [e,sumQ_add]
   congr 1
   rw [sumQ_one (i:=i0) hi0 (fun l _ hne=>if_neg hne)]
   simp
  by_cases hii:i=i0
  ·subst hii
   have hne:=hd i0 hi0
   have e2:sumQ (fun j=>if j=i0 then 0 else A i0 j*x' j) n=rest:=by
    refine sumQ_congr fun j _=>?_
    by_cases h:j=i0
    ·simp only [if_pos h]
    ·simp only [if_neg h,x']
   simp only [fx]
   rw [split,e2]
   simp only [x',if_pos]
   grind
  ·have hgt:i0<i:=by
    have:n-(k+1)≤i:=h1
    show n-(k+1)<i
    have:i≠n-(k+1):=hii
    omega
   have h3:=hx i (by have:n-(k+1)<i:=hgt; omega) h2
   simp only [fx] at h3 ⊢
   rw [split] at h3 ⊢
   have z:A i i0=0:=hz i i0 h2 hgt
   have e2:sumQ (fun j=>if j=i0 then 0 else A i j*x' j) n=sumQ (fun j=>if j=i0 then 0 else A i j*x j) n:=by
    refine sumQ_congr fun j _=>?_
    by_cases h:j=i0
    ·simp only [if_pos h]
    ·simp only [if_neg h,x']
   rw [e2,z]
   rw [z] at h3
   grind
def ct:Vec->Frm->Frm
 | _,_,[]=>0
 | y,w,false :: S=>y 0*w (true :: S)+ct (sh y) (at0 w) S
 | y,w,true :: S=>- ct (sh y) (at1 w) S
theorem ct_add (S:List Bool):∀ (y:Vec) (w x:Frm),ct y (fun T=>w T+x T) S=ct y w S+ct y x S:=by
 induction S with
 | nil=>intro y w x; simp only [ct]; grind
 | cons b S ih =>
  intro y w x
  have e0:at0 (fun T=>w T+x T)=fun T=>at0 w T+at0 x T:=rfl
  have e1:at1 (fun T=>w T+x T)=fun T=>at1 w T+at1 x T:=rfl
  cases b
  ·simp only [ct,e0,ih]; grind
  ·simp only [ct,e1,ih]; grind
theorem ct_smul (S:List Bool):∀ (c:Rat) (y:Vec) (w:Frm),ct y (fun T=>c*w T) S=c*ct y w S:=by
 induction S with
 | nil=>intro c y w; simp only [ct]; grind
 | cons b S ih =>
  intro c y w
  have e0:at0 (fun T=>c*w T)=fun T=>c*at0 w T:=rfl
  have e1:at1 (fun T=>c*w T)=fun T=>c*at1 w T:=rfl
  cases b
  ·simp only [ct,e0,ih]; grind
  ·simp only [ct,e1,ih]; grind
theorem ct_sub (S:List Bool) (y:Vec) (w x:Frm):ct y (fun T=>w T-x T) S=ct y w S-ct y x S:=by
 have e:(fun T=>w T-x T)=fun T=>w T+(fun T=>(-1)*x T) T:=by funext T; grind
 rw [e,ct_add,ct_smul]; grind
def dotv (u y:Vec):Nat->Rat
 | 0=>0
 | n+1=>u 0*y 0+dotv (sh u) (sh y) n
theorem ct_wg (S:List Bool):∀ (v y:Vec) (w:Frm),ct y (wg v w) S+wg v (ct y w) S=dotv v y S.length*w S:=by
 induction S with
 | nil=>intro v y w; simp only [ct,wg,dotv,List.length_nil]; grind
 | cons b S ih =>
  intro v y w
  cases b
  ·have h:=ih (sh v) (sh y) (at0 w)
   have e1:at0 (wg v w)=wg (sh v) (at0 w):=rfl
   have e2:at0 (ct y w)=fun T=>(fun T=>y 0*at1 w T) T+ct (sh y) (at0 w) T:=rfl
   simp only [ct,wg,dotv,List.length_cons,e1]
   rw [e2,wg_add,wg_smul]
   have:at0 w S=w (false :: S):=rfl
   grind
  ·have h:=ih (sh v) (sh y) (at1 w)
   have e1:at1 (wg v w)=fun T=>(fun T=>v 0*at0 w T) T-wg (sh v) (at1 w) T:=rfl
   have e2:at1 (ct y w)=fun T=>(-1)*ct (sh y) (at1 w) T:=by funext T; show-ct (sh y) (at1 w) T=_; grind
   simp only [ct,wg,dotv,List.length_cons]
   rw [e1,e2,ct_sub,ct_smul,wg_smul]
   have:at1 w S=w (true :: S):=rfl
   grind
theorem wg_len (S:List Bool):∀ (v:Vec) (w x:Frm),(∀ T:List Bool,T.length=S.length->w T=x T)->wg v w S=wg v x S:=by
 induction S with
 | nil=>intro v w x _; rfl
 | cons b S ih =>
  intro v w x h
  cases b
  ·exact ih _ _ _ (fun T hT=>h (false :: T) (by simp [hT]))
  ·simp only [wg]
   rw [h (false :: S) (by simp),ih (sh v) (at1 w) (at1 x) (fun T hT=>h (true :: T) (by simp [hT]))]
theorem ct_one (S:List Bool):∀ y:Vec,ct y one S=0:=by
 induction S with
 | nil=>intro y; rfl
 | cons b S ih =>
  intro y
  cases b
  ·simp only [ct]
   have e:at0 one=one:=rfl
   have e2:one (true :: S)=0:=rfl
   rw [e,ih,e2]; grind
  ·simp only [ct]
   have e:at1 one=fun T=>0*one T:=by funext T; show (0:Rat)=_; grind
   rw [e,ct_smul]; grind
theorem ct_wgs (m:Nat) (y:Vec) (L:List Vec):∀ (w:Frm),(∀ v∈L,dotv v y m=0)->(∀ S:List Bool,S.length=m->ct y w S=0)->∀ S:List Bool,S.length=m->ct y (wgs L w) S=0:=by
 induction L with
 | nil=>intro w _ h; exact h
 | cons v L ih =>
  intro w hv h
  refine ih (wg v w) (fun u hu=>hv u (by simp [hu])) fun S hS=>?_
  have e:=ct_wg S v y w
  have e2:wg v (ct y w) S=0:=by
   rw [wg_len S v (ct y w) (fun _=>0) (fun T hT=>h T (by omega)),wg_zero]
  rw [e2,hS,hv v (by simp)] at e
  grind
theorem ct_pre (c:Nat):∀ (y:Vec) (w:Frm) (S:List Bool),ct y w (List.replicate c true++S)=sg c*ct (shn c y) (pre c w) S:=by
 induction c with
 | zero=>intro y w S; simp [sg]; rfl
 | succ c ih =>
  intro y w S
  simp only [List.replicate_succ,List.cons_append,ct]
  rw [ih,sg_succ]
  have e1:shn c (sh y)=shn (c+1) y:=by funext j; simp only [shn,sh]; congr 1
  have e2:pre c (at1 w)=pre (c+1) w:=by funext T; simp [pre,at1,List.replicate_succ]
  rw [e1,e2]; grind
theorem dotv_sum (n:Nat):∀ u y:Vec,dotv u y n=sumQ (fun j=>u j*y j) n:=by
 have key:∀ n (f:Nat->Rat),sumQ f (n+1)=f 0+sumQ (fun j=>f (j+1)) n:=by
  intro n f
  induction n with
  | zero=>simp only [sumQ]; grind
  | succ n ih=>rw [sumQ,ih]; simp only [sumQ]; grind
 induction n with
 | zero=>intro u y; rfl
 | succ n ih =>
  intro u y
  simp only [dotv]
  rw [ih,key]; rfl
def crS (n j:Nat):List Bool:=List.replicate j true++false :: (List.replicate (n-1-j) true++[true])
def crC (n j:Nat):Rat:=tri n*sg (n-1-j)
theorem cramer {n:Nat} {A:List Vec} {x:Nat->Rat} (h:∀ a∈A,fx n x a=0) {j:Nat} (hj:j<n):(crS n j).length=n+1∧(crC n j=1∨crC n j=-1)∧x j*ld n (n+1) (wgs A one)=crC n j*wgs A one (crS n j):=by
 let y:Vec:=fun i=>if i=n then -1 else x i
 have hdot:∀ v∈A,dotv v y (n+1)=0:=by
  intro v hv
  rw [dotv_sum]
  simp only [sumQ]
  have e:sumQ (fun j=>v j*y j) n=sumQ (fun j=>v j*x j) n:=sumQ_congr fun i hi=>by simp only [y,if_neg (show i≠n by omega)]
  have:=h v hv
  simp only [fx] at this
  rw [e]
  simp only [y,if_pos]; grind
 have hz:=ct_wgs (n+1) y A one hdot (fun S _=>ct_one S y) (List.replicate j true++(false :: (List.replicate (n-1-j) true++[false]))) (by simp; omega)
 generalize wgs A one=w at hz ⊢
 rw [ct_pre] at hz
 simp only [ct] at hz
 rw [ct_pre] at hz
 simp only [ct] at hz
 have s1:∀ c,sg c=1∨sg c=-1:=by intro c; unfold sg; split; exact .inl rfl; exact .inr rfl
 have s2:∀ c,tri c=1∨tri c=-1:=by
  intro c; induction c with
  | zero=>exact .inl rfl
  | succ c ih =>
   simp only [tri]
   rcases ih with a | a <;> rcases s1 c with b | b <;> rw [a,b] <;> grind
 have eT:List.replicate j true++true :: (List.replicate (n-1-j) true++[false])=Tk n (n+1):=by
  unfold Tk
  rw [show n+1-n=1 by omega,List.replicate_one]
  have:List.replicate j true++true :: (List.replicate (n-1-j) true++[false])=(List.replicate j true++List.replicate 1 true++List.replicate (n-1-j) true)++[false]:=by simp
  rw [this,List.replicate_append_replicate,List.replicate_append_replicate]
  congr 2; omega
 have y1:shn j y 0=x j:=by simp only [shn,y,Nat.zero_add,if_neg (show j≠n by omega)]
 have y2:shn (n-1-j) (sh (shn j y)) 0=-1:=by
  simp only [shn,sh,y]
  rw [if_pos (by omega)]
 have w1:pre j w (true :: (List.replicate (n-1-j) true++[false]))=w (Tk n (n+1)):=by unfold pre; rw [eT]
 have w2:pre (n-1-j) (at0 (pre j w)) [true]=w (List.replicate j true++false :: (List.replicate (n-1-j) true++[true])):=rfl
 rw [y1,y2,w1,w2] at hz
 unfold crS crC
 refine ⟨by simp; omega,?_,?_⟩
 ·rcases s2 n with a | a <;> rcases s1 (n-1-j) with b | b <;> rw [a,b] <;> grind
 ·unfold ld
  have hs:=s1 j
  rcases s1 j with a | a <;> rw [a] at hz <;> grind
theorem fx_scale {n:Nat} {x:Nat->Rat} {c:Rat} (hc:c≠0) {v:Vec}:fx n x (fun j=>c*v j)=0↔fx n x v=0:=by
 rw [(fx_lin n x).smul]
 constructor
 ·intro h; grind
 ·intro h; rw [h]; grind
end Wd
namespace Mth
theorem cb1_dvd {c M:Int} (h:0<c) {q:Rat} (h1:c ∣ M) (h2:(q.den:Int) ∣ M):cb1 c q ∣ M:=by
 have hq:=q.den_nz
 have hg:0<Int.gcd c q.den:=Int.gcd_pos_of_ne_zero_left _ (by omega)
 have e1:=Int.gcd_dvd_left c (q.den:Int)
 have e:cb1 c q=c / (Int.gcd c q.den:Int)*q.den:=by unfold cb1; rw [Int.fdiv_eq_ediv_of_dvd e1]
 have l:c / (Int.gcd c q.den:Int)*q.den=(Int.lcm c q.den:Int):=by
  have h3:(Int.gcd c q.den:Int)*(Int.lcm c q.den:Int)=c*q.den:=by
   have:=Int.gcd_mul_lcm c (q.den:Int)
   have h4:((c*(q.den:Int)).natAbs:Int)=c*q.den:=by
    have:0<c*(q.den:Int):=Int.mul_pos h (by omega)
    omega
   rw [←h4,Int.natAbs_mul,←this,Int.natCast_mul]
  have h5:(Int.gcd c q.den:Int)≠0:=by omega
  refine Int.eq_of_mul_eq_mul_left h5 ?_
  rw [h3,←Int.mul_assoc,Int.mul_ediv_cancel' e1]
 rw [e,l]
 exact Int.coe_lcm_dvd h1 h2
theorem cb_dvd (r:List Rat) {M:Int}:∀ {c:Int},0<c->c ∣ M->(∀ q∈r,(q.den:Int) ∣ M)->r.foldl cb1 c ∣ M:=by
 induction r with
 | nil=>intro c _ h _; exact h
 | cons q r ih =>
  intro c hc h1 h2
  exact ih (cb1_ok hc q).1 (cb1_dvd hc h1 (h2 q (by simp))) (fun p hp=>h2 p (by simp [hp]))
theorem cb_le {r:List Rat} {M:Int} (hM:0<M) (h:∀ q∈r,(q.den:Int) ∣ M):(cb r).natAbs≤M.natAbs:=by
 have h1:cb r ∣ M:=cb_dvd r (by decide) (Int.one_dvd _) h
 exact Nat.le_of_dvd (by omega) (Int.natAbs_dvd_natAbs.mpr h1)
theorem den_dvd {q:Rat} {M k:Int} (h:(M:Rat)*q=k):(q.den:Int) ∣ M:=by
 have h1:=rat_num q
 have e:(((M*q.num:Int)):Rat)=((k*q.den:Int):Rat):=by
  rw [Rat.intCast_mul,Rat.intCast_mul,ic]; grind
 have e2:M*q.num=k*q.den:=by exact_mod_cast e
 have e3:M.natAbs*q.num.natAbs=k.natAbs*q.den:=by
  have:=congrArg Int.natAbs e2
  rw [Int.natAbs_mul,Int.natAbs_mul,Int.natAbs_natCast] at this
  exact this
 have cp2:Nat.Coprime q.den q.num.natAbs:=Nat.Coprime.symm q.reduced
 have:q.den ∣ M.natAbs:=Nat.Coprime.dvd_of_dvd_mul_right cp2 ⟨k.natAbs,by rw [e3,Nat.mul_comm]⟩
 exact Int.ofNat_dvd_left.mpr this
theorem den_sum:∀ {r:List Rat} {p:Rat},p∈r->p.den≤(r.map (·.den)).sum
 | q :: r,p,h=>by
  rw [List.map_cons,List.sum_cons]
  rcases List.mem_cons.mp h with rfl | h
  ·omega
  ·have:=den_sum h; omega
theorem cb_pos (r:List Rat):0<cb r∧∀ q∈r,(q.den:Int) ∣ cb r:=by
 obtain ⟨a,_,b,_⟩:=cb_ok r (c:=1) (D:=0) (d:=(r.map (·.den)).sum) (by decide) (by decide) (fun p hp=>by
  have h1:p.den≤(r.map (·.den)).sum:=den_sum hp
  have h2:(r.map (·.den)).sum<2 ^ (r.map (·.den)).sum:=Nat.lt_two_pow_self
  omega)
 exact ⟨a,b⟩
def Vb (v:Nat) (q:Rat):Prop:=Wd.Ab ((2 ^ v:Nat):Rat) q
theorem Sb.vb {n d:Nat} {q:Rat} (h:Sb n d q):Vb n q:=by
 have h1:=rat_num q
 have h2:(1:Rat)≤((q.den:Nat):Rat):=by
  have:1≤q.den:=by have:=q.den_nz; omega
  exact_mod_cast this
 have h3:=Wd.nat_ab h.1
 obtain ⟨a,b⟩:=h3
 have nn:(0:Rat)≤((2 ^ n:Nat):Rat):=by exact_mod_cast Nat.zero_le _
 rw [←h1] at a b
 constructor
 ·by_cases hq:0≤q
  ·grind
  ·have:0≤(-q)*(((q.den:Nat):Rat)-1):=Rat.mul_nonneg (by grind) (by grind)
   grind
 ·by_cases hq:0≤q
  ·have:0≤q*(((q.den:Nat):Rat)-1):=Rat.mul_nonneg hq (by grind)
   grind
  ·grind
theorem wh_vb {b:Int} {q:Rat} {v D:Nat} (h:(q.den:Int) ∣ b) (h1:Vb v q) (h2:b.natAbs≤2 ^ D):(wh b q).natAbs≤2 ^ (D+v):=by
 refine Wd.ab_nat ?_
 rw [wh_rat h]
 have:=(Wd.nat_ab h2).mul h1
 have e:(((2 ^ D:Nat)):Rat)*((2 ^ v:Nat):Rat)=((2 ^ (D+v):Nat):Rat):=by rw [Nat.pow_add,Rat.natCast_mul]
 rw [e] at this
 exact this
theorem Vb.mul {v u:Nat} {p q:Rat} (h:Vb v p) (g:Vb u q):Vb (v+u) (p*q):=by
 have:=Wd.Ab.mul h g
 have e:(((2 ^ v:Nat)):Rat)*((2 ^ u:Nat):Rat)=((2 ^ (v+u):Nat):Rat):=by rw [Nat.pow_add,Rat.natCast_mul]
 rw [e] at this
 exact this
theorem Vb.add {v:Nat} {p q:Rat} (h:Vb v p) (g:Vb v q):Vb (v+1) (p+q):=by
 obtain ⟨a,b⟩:=h
 obtain ⟨c,d⟩:=g
 have e:((2 ^ (v+1):Nat):Rat)=((2 ^ v:Nat):Rat)+((2 ^ v:Nat):Rat):=by
  rw [Nat.pow_succ,Nat.mul_two,Rat.natCast_add]
 unfold Vb Wd.Ab
 rw [e]
 constructor <;> grind
theorem Vb.mono {v u:Nat} {p:Rat} (h:Vb v p) (hv:v≤u):Vb u p:=by
 refine Wd.Ab.le h ?_
 exact_mod_cast Nat.pow_le_pow_right (by decide) hv
end Mth
namespace Wd
open Mth
theorem wg_cols (S:List Bool):∀ (u v:Vec) (w:Frm),(∀ j,j<S.length->u j=v j)->wg u w S=wg v w S:=by
 induction S with
 | nil=>intro u v w _; rfl
 | cons b S ih =>
  intro u v w h
  have h2:=ih (sh u) (sh v)
  cases b
  ·exact h2 _ (fun j hj=>h (j+1) (by simp; omega))
  ·simp only [wg]
   rw [h 0 (by simp),h2 _ (fun j hj=>h (j+1) (by simp; omega))]
theorem wg_last (S:List Bool):∀ (v:Vec) (w:Frm),wg v w (S++[false])=wg v (fun T=>w (T++[false])) S:=by
 induction S with
 | nil=>intro v w; rfl
 | cons b S ih =>
  intro v w
  cases b
  ·exact ih (sh v) (at0 w)
  ·simp only [List.cons_append,wg]
   rw [ih]; rfl
theorem one_last (S:List Bool):one (S++[false])=one S:=by
 induction S with
 | nil=>rfl
 | cons b S ih=>cases b; exact ih; rfl
theorem wgs_last (n:Nat) (L:List (Vec×Vec)):∀ (w x:Frm),(∀ p∈L,∀ j,j<n->p.1 j=p.2 j)->(∀ T:List Bool,T.length=n->w (T++[false])=x T)->∀ S:List Bool,S.length=n->wgs (L.map (·.1)) w (S++[false])=wgs (L.map (·.2)) x S:=by
 induction L with
 | nil=>intro w x _ h S hS; exact h S hS
 | cons p L ih =>
  intro w x hp h S hS
  refine ih (wg p.1 w) (wg p.2 x) (fun q hq=>hp q (by simp [hq])) (fun T hT=>?_) S hS
  rw [wg_last,wg_cols T p.1 p.2 _ (fun j hj=>hp p (by simp) j (by omega))]
  exact wg_len T p.2 _ _ (fun U hU=>h U (by omega))
theorem vq_app {row:List Rat} {q:Rat} {j:Nat} (h:j<row.length):vq (row++[q]) j=vq row j:=by
 simp only [vq,List.getD_eq_getElem?_getD]
 rw [List.getElem?_append_left h]
theorem vq_at {row:List Rat} {q:Rat}:vq (row++[q]) row.length=q:=by
 simp only [vq,List.getD_eq_getElem?_getD]
 rw [List.getElem?_append_right (Nat.le_refl _)]; simp
theorem dt_join {n:Nat} {T:List (List Rat)} {r:List Rat} (hT:T.length=n) (hr:r.length=n) (hc:∀ x∈T,x.length=n):dt n (n+1) (List.zipWith (fun row q=>row++[q]) T r)=dt n n T:=by
 have e1:(List.zipWith (fun row q=>row++[q]) T r).map vq=((T.zip r).map fun p=>(vq (p.1++[p.2]),vq p.1)).map (·.1):=by
  rw [List.map_map,List.map_zipWith,List.zip,List.map_zipWith]; rfl
 have e2:T.map vq=((T.zip r).map fun p=>(vq (p.1++[p.2]),vq p.1)).map (·.2):=by
  rw [List.map_map]
  have:(T.zip r).map Prod.fst=T:=List.map_fst_zip (by omega)
  conv=>lhs; rw [←this]
  rw [List.map_map]; rfl
 unfold dt ld
 rw [e1,e2]
 congr 1
 have t1:Tk n (n+1)=Tk n n++[false]:=by
  unfold Tk
  rw [show n+1-n=1 by omega,Nat.sub_self]; simp
 rw [t1]
 refine wgs_last n _ one one (fun p hp j hj=>?_) (fun T _=>one_last T) _ (by unfold Tk; simp)
 obtain ⟨q,hq,rfl⟩:=List.mem_map.mp hp
 exact vq_app (by rw [hc q.1 (List.of_mem_zip hq).1]; exact hj)
theorem fx_join {n:Nat} {row:List Rat} {q:Rat} {x:Nat->Rat} (h:row.length=n):fx n x (vq (row++[q]))=sumQ (fun j=>vq row j*x j) n-q:=by
 simp only [fx]
 rw [sumQ_congr (fun j hj=>by rw [vq_app (by omega)])]
 have:=vq_at (row:=row) (q:=q)
 rw [h] at this
 rw [this]
def comes (n:Nat) (row dq:List Rat):Rat:=sumQ (fun j=>row.getD j 0*dq.getD j 0) n
end Wd
namespace Wd
open Mth
def setE (T:List (List Rat)) (i j:Nat) (v:Rat):List (List Rat):=T.set i ((T.getD i []).set j v)
structure Sq (n:Nat) (T:List (List Rat)):Prop where
 len:T.length=n
 col:∀ r∈T,r.length=n
theorem Sq.row {n:Nat} {T:List (List Rat)} (h:Sq n T) {i:Nat} (hi:i<n):(T.getD i []).length=n∧T[i]?=some (T.getD i []):=by
 have e:T[i]?=some (T[i]'(by rw [h.len]; exact hi)):=List.getElem?_eq_getElem _
 have e2:T.getD i []=T[i]'(by rw [h.len]; exact hi):=by rw [List.getD_eq_getElem?_getD,e]; rfl
 rw [e2]
 exact ⟨h.col _ (List.getElem_mem _),e⟩
theorem Sq.set {n:Nat} {T:List (List Rat)} (h:Sq n T) {i j:Nat} {v:Rat} (hi:i<n):Sq n (setE T i j v):=by
 refine ⟨by unfold setE; rw [List.length_set]; exact h.len,fun r hr=>?_⟩
 unfold setE at hr
 rcases List.mem_or_eq_of_mem_set hr with h1 | h1
 ·exact h.col r h1
 ·rw [h1,List.length_set]; exact (h.row hi).1
theorem en_setE {n:Nat} {T:List (List Rat)} (h:Sq n T) {i j:Nat} {v:Rat} (hi:i<n) (hj:j<n) (i' j':Nat):en (setE T i j v) i' j'=if i'=i∧j'=j then v else en T i' j':=by
 unfold en setE
 have hl:=(h.row hi).1
 by_cases e:i=i'
 ·subst e
  have:(T.set i ((T.getD i []).set j v)).getD i []=(T.getD i []).set j v:=by
   rw [List.getD_eq_getElem?_getD,List.getElem?_set_self (by rw [h.len]; exact hi)]; rfl
  rw [this]
  by_cases e2:j=j'
  ·subst e2
   rw [if_pos ⟨rfl,rfl⟩,List.getD_eq_getElem?_getD,List.getElem?_set_self (by omega)]; rfl
  ·rw [if_neg (fun z=>e2 z.2.symm),List.getD_eq_getElem?_getD,List.getElem?_set_ne e2,←List.getD_eq_getElem?_getD]
 ·have:(T.set i ((T.getD i []).set j v)).getD i' []=T.getD i' []:=by
   rw [List.getD_eq_getElem?_getD,List.getElem?_set_ne e,←List.getD_eq_getElem?_getD]
  rw [this,if_neg (fun z=>e z.1.symm)]
abbrev Rope:=Nat×Nat×Rat
def lapStep (T:List (List Rat)) (r:Rope):List (List Rat) :=
 if r.1=r.2.1 then T else
 let T1:=setE T r.1 r.1 (en T r.1 r.1+r.2.2)
 let T2:=setE T1 r.2.1 r.2.1 (en T1 r.2.1 r.2.1+r.2.2)
 let T3:=setE T2 r.1 r.2.1 (en T2 r.1 r.2.1-r.2.2)
 setE T3 r.2.1 r.1 (en T3 r.2.1 r.1-r.2.2)
def zeroT (n:Nat):List (List Rat):=List.replicate n (List.replicate n 0)
def lapT (n:Nat) (rs:List Rope):List (List Rat):=rs.foldl lapStep (zeroT n)
theorem zero_sq (n:Nat):Sq n (zeroT n):=⟨by simp [zeroT],fun r hr=>by rw [(List.mem_replicate.mp hr).2]; simp⟩
theorem en_zero (n i j:Nat):en (zeroT n) i j=0:=by
 unfold en zeroT
 rw [List.getD_eq_getElem?_getD,List.getD_eq_getElem?_getD,List.getElem?_replicate]
 split
 ·simp only [Option.getD_some]
  rw [List.getElem?_replicate]
  split <;> rfl
 ·rfl
def lapR (r:Rope) (i j:Nat):Rat :=
 if r.1=r.2.1 then 0 else (if i=r.1∧j=r.1 then r.2.2 else 0)+(if i=r.2.1∧j=r.2.1 then r.2.2 else 0)-(if i=r.1∧j=r.2.1 then r.2.2 else 0)-(if i=r.2.1∧j=r.1 then r.2.2 else 0)
theorem lapStep_ok {n:Nat} {T:List (List Rat)} (h:Sq n T) {r:Rope} (h1:r.1<n) (h2:r.2.1<n):Sq n (lapStep T r)∧∀ i j,en (lapStep T r) i j=en T i j+lapR r i j:=by
 unfold lapStep lapR
 by_cases e:r.1=r.2.1
 ·simp only [if_pos e]
  exact ⟨h,fun i j=>by grind⟩
 ·simp only [if_neg e]
  have q1:=h.set (j:=r.1) (v:=en T r.1 r.1+r.2.2) h1
  have e1:=en_setE h (v:=en T r.1 r.1+r.2.2) h1 h1
  generalize setE T r.1 r.1 (en T r.1 r.1+r.2.2)=T1 at q1 e1
  have q2:=q1.set (j:=r.2.1) (v:=en T1 r.2.1 r.2.1+r.2.2) h2
  have e2:=en_setE q1 (v:=en T1 r.2.1 r.2.1+r.2.2) h2 h2
  generalize setE T1 r.2.1 r.2.1 (en T1 r.2.1 r.2.1+r.2.2)=T2 at q2 e2
  have q3:=q2.set (j:=r.2.1) (v:=en T2 r.1 r.2.1-r.2.2) h1
  have e3:=en_setE q2 (v:=en T2 r.1 r.2.1-r.2.2) h1 h2
  generalize setE T2 r.1 r.2.1 (en T2 r.1 r.2.1-r.2.2)=T3 at q3 e3
  have q4:=q3.set (j:=r.1) (v:=en T3 r.2.1 r.1-r.2.2) h2
  have e4:=en_setE q3 (v:=en T3 r.2.1 r.1-r.2.2) h2 h1
  refine ⟨q4,fun i j=>?_⟩
  rw [e4]
  simp only [e3,e2,e1]
  grind
theorem lapT_ok {n:Nat}:∀ (rs:List Rope) {T:List (List Rat)},Sq n T->(∀ r∈rs,r.1<n∧r.2.1<n)->Sq n (rs.foldl lapStep T)∧∀ i j,en (rs.foldl lapStep T) i j=en T i j+(rs.map fun r=>lapR r i j).sum:=by
 intro rs
 induction rs with
 | nil=>intro T h _; exact ⟨h,fun i j=>by simp only [List.map_nil,List.sum_nil,List.foldl_nil]; grind⟩
 | cons r rs ih =>
  intro T h hr
  obtain ⟨a,b⟩:=lapStep_ok h (hr r (by simp)).1 (hr r (by simp)).2
  obtain ⟨c,d⟩:=ih a (fun x hx=>hr x (by simp [hx]))
  refine ⟨c,fun i j=>?_⟩
  rw [List.foldl_cons,d,b,List.map_cons,List.sum_cons]; grind
end Wd
namespace Wd
open Mth
theorem wgs_pre' (c:Nat) (L:List Vec):∀ (w:Frm) (S:List Bool),(∀ v∈L,∀ j,j<c->v j=0) →
  ∃ e:Rat,e*e=1∧wgs L w (List.replicate c true++S)=e*wgs (L.map (shn c)) (pre c w) S:=by
 induction L with
 | nil=>intro w S _; exact ⟨1,by grind,by simp [wgs,pre]⟩
 | cons v L ih =>
  intro w S h
  obtain ⟨e,h1,he⟩:=ih (wg v w) S (fun u hu=>h u (by simp [hu]))
  refine ⟨e*sg c,by have:=sg_sq c; grind,?_⟩
  simp only [wgs,List.map_cons]
  rw [he]
  have:pre c (wg v w)=fun T=>sg c*wg (shn c v) (pre c w) T:=by
   funext T; exact wg_pre c v w T (h v (by simp))
  rw [this,wgs_smul]; grind
theorem sumQ_shift (f:Nat->Rat):∀ n,sumQ f (n+1)=f 0+sumQ (fun j=>f (j+1)) n:=by
 intro n
 induction n with
 | zero=>simp only [sumQ]; grind
 | succ n ih =>
  have:sumQ f (n+1+1)=sumQ f (n+1)+f (n+1):=rfl
  rw [this,ih]; simp only [sumQ]; grind
theorem wgs_less (r:Vec) (c:Vec->Rat) (M:List Vec):∀ (w:Frm),(∀ S,wg r w S=0)->wgs (M.map fun v=>fun j=>v j + -c v*r j) w=wgs M w:=by
 induction M with
 | nil=>intro w _; rfl
 | cons v M ih =>
  intro w h
  simp only [List.map_cons,wgs]
  have e:wg (fun j=>v j + -c v*r j) w=wg v w:=by
   funext S
   have h1:=wg_add_v S v (fun j=>-c v*r j) w
   rw [wg_smul_v,h S] at h1
   rw [h1]; grind
  rw [e]
  refine ih _ (fun S=>?_)
  have e2:wg r w=fun _=>0:=funext h
  rw [wg_comm,e2,wg_zero]; grind
theorem kern:∀ (n:Nat) (L:List Vec),L.length=n->ld n n (wgs L one)=0->∃ x:Nat->Rat,(∃ j,j<n∧x j≠0)∧∀ v∈L,sumQ (fun j=>v j*x j) n=0:=by
 intro n
 induction n with
 | zero =>
  intro L hL h
  have:L=[]:=List.length_eq_zero_iff.mp hL
  subst this
  have h1:=ld_one 0
  rw [show wgs [] one=one from rfl,h1] at h
  grind
 | succ n ih =>
  intro L hL h
  by_cases hz:∀ v∈L,v 0=0
  ·refine ⟨fun j=>if j=0 then 1 else 0,⟨0,by omega,by simp⟩,fun v hv=>?_⟩
   rw [sumQ_one (i:=0) (by omega) (fun l _ hl=>by simp [hl])]
   rw [hz v hv]; grind
  ·have hz':∃ r,r∈L∧r 0≠0:=by
    apply Classical.byContradiction
    intro hn
    exact hz (fun v hv=>Classical.byContradiction fun z=>hn ⟨v,hv,z⟩)
   obtain ⟨r,hr,h0⟩:=hz'
   obtain ⟨A,B,rfl⟩:=List.append_of_mem hr
   have hl:(A++B).length=n:=by simp at hL ⊢; omega
   let c:Vec->Rat:=fun v=>v 0 / r 0
   let f:Vec->Vec:=fun v=>fun j=>v j + -c v*r j
   have e1:∀ S,wgs (A++r :: B) one S=sg A.length*wgs ((A++B).map f) (wg r one) S:=by
    intro S
    have q1:wgs ((A++B).map f) (wg r one)=wgs (A++B) (wg r one):=wgs_less r c (A++B) (wg r one) (fun S=>wg_wg S r one)
    rw [q1,wgs_app,wgs_app]
    have q2:wgs A (wg r one)=fun T=>sg A.length*wg r (wgs A one) T:=funext fun T=>wgs_wg A r one T
    rw [q2,wgs_smul]
    show wgs B (wg r (wgs A one)) S=_
    have:=sg_sq A.length
    grind
   have fz:∀ v∈(A++B).map f,∀ j,j<1->v j=0:=by
    intro v hv j hj
    obtain ⟨u,_,rfl⟩:=List.mem_map.mp hv
    have:j=0:=by omega
    subst this
    show u 0 + -(u 0 / r 0)*r 0=0
    have:u 0 / r 0*r 0=u 0:=Rat.div_mul_cancel h0
    grind
   obtain ⟨e,ee,he⟩:=wgs_pre' 1 ((A++B).map f) (wg r one) (List.replicate n true) fz
   have e2:pre 1 (wg r one)=fun T=>r 0*one T:=by
    funext T
    show wg r one (true :: T)=_
    simp only [wg]
    have:at1 one=fun _=>0:=by funext S; rfl
    rw [this,wg_zero]
    show r 0*one T-0=_
    grind
   have e3:Tk (n+1) (n+1)=List.replicate 1 true++List.replicate n true:=by unfold Tk; simp [List.replicate_succ]
   have e4:Tk n n=List.replicate n true:=by unfold Tk; simp
   have h2:ld n n (wgs (((A++B).map f).map (shn 1)) one)=0:=by
    unfold ld at h ⊢
    rw [e3,e1,he,e2,wgs_smul] at h
    rw [e4]
    have t1:=tri_sq (n+1)
    have t2:=sg_sq A.length
    have nt:tri (n+1)≠0:=fun z=>by rw [z] at t1; grind
    have ns:sg A.length≠0:=fun z=>by rw [z] at t2; grind
    have ne:e≠0:=fun z=>by rw [z] at ee; grind
    have z:=(Rat.mul_eq_zero.mp h).resolve_left nt
    have z:=(Rat.mul_eq_zero.mp z).resolve_left ns
    have z:=(Rat.mul_eq_zero.mp z).resolve_left ne
    have z:=(Rat.mul_eq_zero.mp z).resolve_left h0
    rw [z]; grind
   obtain ⟨y,⟨j,hj,hy⟩,hs⟩:=ih _ (by simp only [List.length_map]; exact hl) h2
   let s:=sumQ (fun j=>r (j+1)*y j) n
   let x:Nat->Rat:=fun j=>match j with | 0=>-s / r 0 | j+1=>y j
   have x0:r 0*x 0=-s:=by
    show r 0*(-s / r 0)=-s
    rw [Rat.mul_comm]; exact Rat.div_mul_cancel h0
   have hr0:sumQ (fun j=>r j*x j) (n+1)=0:=by
    rw [sumQ_shift]
    show r 0*x 0+s=0
    rw [x0]; grind
   refine ⟨x,⟨j+1,by omega,hy⟩,fun v hv=>?_⟩
   have hv':v=r∨v∈A++B:=by
    rcases List.mem_append.mp hv with z | z
    ·exact .inr (List.mem_append.mpr (.inl z))
    ·rcases List.mem_cons.mp z with z | z
     ·exact .inl z
     ·exact .inr (List.mem_append.mpr (.inr z))
   rcases hv' with rfl | hm
   ·exact hr0
   ·have g1:=hs (shn 1 (f v)) (List.mem_map.mpr ⟨f v,List.mem_map.mpr ⟨v,hm,rfl⟩,rfl⟩)
    have g2:sumQ (fun j=>f v j*x j) (n+1)=0:=by
     rw [sumQ_shift,show f v 0=0 from fz _ (List.mem_map.mpr ⟨v,hm,rfl⟩) 0 (by omega)]
     have:sumQ (fun j=>f v (j+1)*x (j+1)) n=0:=g1
     rw [this]; grind
    have g3:sumQ (fun j=>f v j*x j) (n+1)=sumQ (fun j=>v j*x j) (n+1) + -c v*sumQ (fun j=>r j*x j) (n+1):=by
     rw [←sumQ_smul,←sumQ_add]
     refine sumQ_congr fun j _=>?_
     show (v j + -c v*r j)*x j=_
     grind
    rw [g2,hr0] at g3
    grind
end Wd
namespace Wd
open Mth
def runs (X:Nat->Rat) (r:Rope):Rat:=r.2.2*(X r.1-X r.2.1)
def away (X:Nat->Rat) (i:Nat) (r:Rope):Rat:=(if i=r.1 then runs X r else 0)-(if i=r.2.1 then runs X r else 0)
def outs (X:Nat->Rat) (rs:List Rope) (i:Nat):Rat:=(rs.map (away X i)).sum
def Hang (n:Nat) (rs:List Rope):Prop:=∀ S:Nat->Prop,S 0->(∀ r∈rs,S r.1↔S r.2.1)->∀ p,p<n->S p
theorem sumQ_pick {n i:Nat} (c:Rat) (hi:i<n):sumQ (fun j=>if j=i then c else 0) n=c:=by
 rw [sumQ_one (i:=i) hi (fun l _ h=>by rw [if_neg h])]; rw [if_pos rfl]
theorem lapR_sum {n:Nat} {r:Rope} (h1:r.1<n) (h2:r.2.1<n) (X:Nat->Rat) (i:Nat):sumQ (fun j=>lapR r i j*X j) n=away X i r:=by
 by_cases e:r.1=r.2.1
 ·have:∀ j,lapR r i j*X j=0:=fun j=>by unfold lapR; rw [if_pos e]; grind
  rw [sumQ_zero (fun l _=>this l)]
  unfold away runs
  rw [e]; grind
 ·have:∀ j,lapR r i j*X j=(if j=r.1 then (if i=r.1 then r.2.2*X r.1 else 0)-(if i=r.2.1 then r.2.2*X r.1 else 0) else 0)+(if j=r.2.1 then (if i=r.2.1 then r.2.2*X r.2.1 else 0)-(if i=r.1 then r.2.2*X r.2.1 else 0) else 0):=by
   intro j
   unfold lapR
   rw [if_neg e]
   by_cases a1:j=r.1
   ·subst a1
    by_cases a2:i=r.1 <;> by_cases a3:i=r.2.1 <;> simp [a2,a3,e] <;> grind
   ·by_cases a4:j=r.2.1
    ·subst a4
     by_cases a2:i=r.1 <;> by_cases a3:i=r.2.1 <;> simp [a1,a2,a3,e] <;> grind
    ·simp [a1,a4]; grind
  rw [sumQ_congr (g:=fun j=>(if j=r.1 then (if i=r.1 then r.2.2*X r.1 else 0)-(if i=r.2.1 then r.2.2*X r.1 else 0) else 0)+(if j=r.2.1 then (if i=r.2.1 then r.2.2*X r.2.1 else 0)-(if i=r.1 then r.2.2*X r.2.1 else 0) else 0)) (fun j _=>this j)]
  rw [sumQ_add,sumQ_pick _ h1,sumQ_pick _ h2]
  unfold away runs
  grind
theorem sum_swap {n:Nat} (f:Rope->Nat->Rat):∀ rs:List Rope,sumQ (fun j=>(rs.map fun r=>f r j).sum) n=(rs.map fun r=>sumQ (f r) n).sum:=by
 intro rs
 induction rs with
 | nil=>simp only [List.map_nil,List.sum_nil]; exact sumQ_zero fun _ _=>rfl
 | cons r rs ih=>simp only [List.map_cons,List.sum_cons]; rw [sumQ_add,ih]
theorem sum_mulr (c:Rat) (f:Rope->Rat) (rs:List Rope):(rs.map f).sum*c=(rs.map fun r=>f r*c).sum:=by
 induction rs with
 | nil=>simp only [List.map_nil,List.sum_nil]; grind
 | cons r rs ih=>simp only [List.map_cons,List.sum_cons]; rw [←ih]; grind
theorem sum_congr {f g:Rope->Rat} {rs:List Rope} (h:∀ r∈rs,f r=g r):(rs.map f).sum=(rs.map g).sum:=by rw [List.map_congr_left h]
theorem lapT_sq {n:Nat} {rs:List Rope} (h:∀ r∈rs,r.1<n∧r.2.1<n):Sq n (lapT n rs)∧∀ i j,en (lapT n rs) i j=(rs.map fun r=>lapR r i j).sum:=by
 obtain ⟨a,b⟩:=lapT_ok rs (zero_sq n) h
 refine ⟨a,fun i j=>?_⟩
 have:=b i j
 rw [en_zero] at this
 show en (rs.foldl lapStep (zeroT n)) i j=_
 rw [this]; grind
theorem lapT_mul {n:Nat} {rs:List Rope} (h:∀ r∈rs,r.1<n∧r.2.1<n) (X:Nat->Rat) (i:Nat):sumQ (fun j=>en (lapT n rs) i j*X j) n=outs X rs i:=by
 rw [sumQ_congr (g:=fun j=>(rs.map fun r=>lapR r i j*X j).sum) (fun j _=>by rw [(lapT_sq h).2,sum_mulr])]
 rw [sum_swap (fun r j=>lapR r i j*X j)]
 exact sum_congr fun r hr=>lapR_sum (h r hr).1 (h r hr).2 X i
theorem away_sum {n:Nat} {r:Rope} (h1:r.1<n) (h2:r.2.1<n) (X Y:Nat->Rat):sumQ (fun i=>Y i*away X i r) n=runs X r*(Y r.1-Y r.2.1):=by
 have:∀ i,Y i*away X i r=(if i=r.1 then Y r.1*runs X r else 0)+(if i=r.2.1 then-(Y r.2.1*runs X r) else 0):=by
  intro i
  unfold away
  by_cases a:i=r.1 <;> by_cases b:i=r.2.1 <;> simp [a,b] <;> grind
 rw [sumQ_congr (fun i _=>this i),sumQ_add,sumQ_pick _ h1,sumQ_pick _ h2]; grind
theorem outs_sum {n:Nat} {rs:List Rope} (h:∀ r∈rs,r.1<n∧r.2.1<n) (X Y:Nat->Rat):sumQ (fun i=>Y i*outs X rs i) n=(rs.map fun r=>runs X r*(Y r.1-Y r.2.1)).sum:=by
 rw [sumQ_congr (g:=fun i=>(rs.map fun r=>Y i*away X i r).sum) (fun i _=>by unfold outs; rw [Rat.mul_comm,sum_mulr]; exact sum_congr fun r _=>Rat.mul_comm _ _)]
 rw [sum_swap (fun r i=>Y i*away X i r)]
 exact sum_congr fun r hr=>away_sum (h r hr).1 (h r hr).2 X Y
theorem sq_nn (x:Rat):0≤x*x:=by
 rcases Rat.le_total (a:=0) (b:=x) with h | h
 ·exact Rat.mul_nonneg h h
 ·have:0≤-x:=by grind
  have:=Rat.mul_nonneg this this
  grind
theorem sum_nn {f:Rope->Rat}:∀ {rs:List Rope},(∀ r∈rs,0≤f r)->0≤(rs.map f).sum:=by
 intro rs
 induction rs with
 | nil=>intro _; simp only [List.map_nil,List.sum_nil]; exact Rat.le_refl
 | cons r rs ih =>
  intro h
  simp only [List.map_cons,List.sum_cons]
  have h1:=h r (by simp)
  have h2:=ih (fun x hx=>h x (by simp [hx]))
  grind
theorem sum_nn0 {f:Rope->Rat}:∀ {rs:List Rope},(∀ r∈rs,0≤f r)->(rs.map f).sum=0->∀ r∈rs,f r=0:=by
 intro rs
 induction rs with
 | nil=>intro _ _ r hr; cases hr
 | cons r rs ih =>
  intro h e x hx
  simp only [List.map_cons,List.sum_cons] at e
  have h1:=h r (by simp)
  have h2:=sum_nn (f:=f) (rs:=rs) (fun x hx=>h x (by simp [hx]))
  rcases List.mem_cons.mp hx with rfl | hx
  ·grind
  ·exact ih (fun x hx=>h x (by simp [hx])) (by grind) x hx
theorem harm_zero {n:Nat} {rs:List Rope} (h:∀ r∈rs,r.1<n∧r.2.1<n∧0<r.2.2) (g:Hang n rs) {X:Nat->Rat} (h0:X 0=0) (hb:∀ i,i<n->X i=0∨outs X rs i=0):∀ i,i<n->X i=0:=by
 have h':∀ r∈rs,r.1<n∧r.2.1<n:=fun r hr=>⟨(h r hr).1,(h r hr).2.1⟩
 have e1:=outs_sum h' X X
 rw [sumQ_zero (fun i hi=>by rcases hb i hi with z | z <;> rw [z] <;> grind)] at e1
 have nn:∀ r∈rs,0≤runs X r*(X r.1-X r.2.1):=by
  intro r hr
  have a:=sq_nn (X r.1-X r.2.1)
  have b:=Rat.mul_nonneg (Rat.le_of_lt (h r hr).2.2) a
  unfold runs; grind
 have e2:=sum_nn0 nn e1.symm
 refine g (fun p=>X p=0) h0 (fun r hr=>?_)
 have e3:=e2 r hr
 unfold runs at e3
 have pe:r.2.2≠0:=fun z=>by have:=(h r hr).2.2; rw [z] at this; exact absurd this (Rat.lt_irrefl)
 have e4:r.2.2*((X r.1-X r.2.1)*(X r.1-X r.2.1))=0:=by grind
 have e5:=(Rat.mul_eq_zero.mp e4).resolve_left pe
 have e6:X r.1-X r.2.1=0:=by rcases Rat.mul_eq_zero.mp e5 with z | z <;> exact z
 have e7:X r.1=X r.2.1:=by grind
 rw [e7]
def cutT (T:List (List Rat)):List (List Rat):=(T.drop 2).map (·.drop 2)
theorem cut_len {n:Nat} {T:List (List Rat)} (q:Sq (n+2) T):(cutT T).length=n∧∀ r∈cutT T,r.length=n:=by
 refine ⟨by unfold cutT; rw [List.length_map,List.length_drop,q.len]; omega,fun r hr=>?_⟩
 obtain ⟨s,hs,rfl⟩:=List.mem_map.mp hr
 rw [List.length_drop,q.col s (List.mem_of_mem_drop hs)]; omega
theorem cut_row {n:Nat} {T:List (List Rat)} (q:Sq (n+2) T) {i:Nat} (hi:i<n):(cutT T)[i]?=some ((T.getD (i+2) []).drop 2):=by
 unfold cutT
 rw [List.getElem?_map,List.getElem?_drop,Nat.add_comm 2 i,(q.row (by omega)).2]; rfl
theorem vq_drop (r:List Rat) (j:Nat):vq (r.drop 2) j=r.getD (j+2) 0:=by
 unfold vq
 rw [List.getD_eq_getElem?_getD,List.getElem?_drop,Nat.add_comm 2 j,←List.getD_eq_getElem?_getD]
def lift2 (a b:Rat) (x:Nat->Rat):Nat->Rat
 | 0=>a
 | 1=>b
 | j+2=>x j
theorem sumQ_lift (f:Nat->Rat) (a b:Rat) (x:Nat->Rat) (n:Nat):sumQ (fun j=>f j*lift2 a b x j) (n+2)=f 0*a+(f 1*b+sumQ (fun j=>f (j+2)*x j) n):=by
 rw [sumQ_shift,sumQ_shift]; rfl
theorem cut_ne {n:Nat} {rs:List Rope} (h:∀ r∈rs,r.1<n+2∧r.2.1<n+2∧0<r.2.2) (g:Hang (n+2) rs):dt n n (cutT (lapT (n+2) rs))≠0:=by
 have h':∀ r∈rs,r.1<n+2∧r.2.1<n+2:=fun r hr=>⟨(h r hr).1,(h r hr).2.1⟩
 have q:=(lapT_sq h').1
 intro z
 obtain ⟨x,⟨j,hj,hx⟩,hs⟩:=kern n _ (by rw [List.length_map]; exact (cut_len q).1) z
 have e:=harm_zero h g (X:=lift2 0 0 x) rfl (fun i hi=>by
  match i with
  | 0=>exact .inl rfl
  | 1=>exact .inl rfl
  | i+2 =>
   right
   rw [←lapT_mul h',sumQ_lift]
   have e1:=hs (vq ((lapT (n+2) rs).getD (i+2) [] |>.drop 2)) (List.mem_map.mpr ⟨_,List.mem_of_getElem? (cut_row q (by omega)),rfl⟩)
   have e2:sumQ (fun j=>en (lapT (n+2) rs) (i+2) (j+2)*x j) n=0:=by
    rw [←e1]
    refine sumQ_congr fun j _=>?_
    rw [vq_drop]; rfl
   rw [e2]; grind) (j+2) (by omega)
 exact hx e
def rightT (T:List (List Rat)):List Rat:=(T.drop 2).map fun r=>0-r.getD 0 0
theorem right_len {n:Nat} {T:List (List Rat)} (q:Sq (n+2) T):(rightT T).length=n:=by unfold rightT; rw [List.length_map,List.length_drop,q.len]; omega
theorem right_get {n:Nat} {T:List (List Rat)} (q:Sq (n+2) T) {i:Nat} (hi:i<n):(rightT T)[i]?=some (0-en T (i+2) 0):=by
 unfold rightT
 rw [List.getElem?_map,List.getElem?_drop,Nat.add_comm 2 i,(q.row (by omega)).2]; rfl
theorem ht_ok {n:Nat} {rs:List Rope} (h:∀ r∈rs,r.1<n+2∧r.2.1<n+2) {x:Nat->Rat}
  (hx:∀ y∈List.zipWith (fun row q=>row++[q]) (cutT (lapT (n+2) rs)) (rightT (lapT (n+2) rs)),fx n x (vq y)=0):∀ i,2≤i->i<n+2->outs (lift2 1 0 x) rs i=0:=by
 have q:=(lapT_sq h).1
 intro i h2 hi
 obtain ⟨k,rfl⟩:∃ k,i=k+2:=⟨i-2,by omega⟩
 rw [←lapT_mul h,sumQ_lift]
 have e1:=hx ((((lapT (n+2) rs).getD (k+2) []).drop 2)++[0-en (lapT (n+2) rs) (k+2) 0]) (by
  refine List.mem_of_getElem? (i:=k) ?_
  rw [List.getElem?_zipWith,cut_row q (by omega),right_get q (by omega)])
 rw [fx_join (by rw [List.length_drop,(q.row (i:=k+2) (by omega)).1]; omega)] at e1
 have e2:sumQ (fun j=>en (lapT (n+2) rs) (k+2) (j+2)*x j) n=sumQ (fun j=>vq (((lapT (n+2) rs).getD (k+2) []).drop 2) j*x j) n:=by
  refine sumQ_congr fun j _=>?_
  rw [vq_drop]; rfl
 rw [e2]; grind
end Wd
namespace Wd
open Mth
theorem IsI.add {x y:Rat} (h:IsI x) (g:IsI y):IsI (x+y):=by
 obtain ⟨a,rfl⟩:=h; obtain ⟨b,rfl⟩:=g; exact ⟨a+b,by grind⟩
theorem IsI.neg {x:Rat} (h:IsI x):IsI (-x):=by
 obtain ⟨a,rfl⟩:=h; exact ⟨-a,by grind⟩
theorem IsI.zero:IsI 0:=⟨0,rfl⟩
theorem isi_sum {f:Rope->Rat}:∀ {rs:List Rope},(∀ r∈rs,IsI (f r))->IsI (rs.map f).sum:=by
 intro rs
 induction rs with
 | nil=>intro _; exact ⟨0,rfl⟩
 | cons r rs ih=>intro h; simp only [List.map_cons,List.sum_cons]; exact (h r (by simp)).add (ih fun x hx=>h x (by simp [hx]))
theorem Ab.add {B C x y:Rat} (h:Ab B x) (g:Ab C y):Ab (B+C) (x+y):=by
 obtain ⟨h1,h2⟩:=h; obtain ⟨g1,g2⟩:=g
 constructor <;> grind
theorem ab_sum {f:Rope->Rat} {B:Rat}:∀ {rs:List Rope},(∀ r∈rs,Ab B (f r))->Ab ((rs.length:Nat)*B) (rs.map f).sum:=by
 intro rs
 induction rs with
 | nil=>intro _; simp only [List.map_nil,List.sum_nil,List.length_nil]; constructor <;> grind
 | cons r rs ih =>
  intro h
  simp only [List.map_cons,List.sum_cons]
  have e:(((r :: rs).length:Nat):Rat)*B=B+(rs.length:Nat)*B:=by rw [List.length_cons]; grind
  rw [e]
  exact (h r (by simp)).add (ih fun x hx=>h x (by simp [hx]))
def denP:List Rope->Nat
 | []=>1
 | r :: rs=>r.2.2.den*denP rs
theorem denP_pos:∀ rs:List Rope,0<denP rs
 | []=>Nat.one_pos
 | r :: rs=>Nat.mul_pos r.2.2.den_pos (denP_pos rs)
theorem denP_le {β:Nat}:∀ {rs:List Rope},(∀ r∈rs,r.2.2.den≤2 ^ β)->denP rs≤2 ^ (β*rs.length)
 | [],_=>by simp [denP]
 | r :: rs,h=>by
  have h1:=h r (by simp)
  have h2:=denP_le (rs:=rs) fun x hx=>h x (by simp [hx])
  have:=pmul h1 h2
  rw [List.length_cons,Nat.mul_succ,Nat.add_comm]; exact this
theorem denP_dvd:∀ {rs:List Rope} {r:Rope},r∈rs->r.2.2.den ∣ denP rs
 | [],_,h=>by cases h
 | s :: rs,r,h=>by
  rcases List.mem_cons.mp h with rfl | h
  ·exact Nat.dvd_mul_right _ _
  ·exact Nat.dvd_trans (denP_dvd h) (Nat.dvd_mul_left _ _)
theorem isi_den {q:Rat} {M:Nat} (h:q.den ∣ M):IsI ((M:Nat)*q):=by
 obtain ⟨k,rfl⟩:=h
 refine ⟨k*q.num,?_⟩
 have e:=rat_num q
 have e1:((q.den*k:Nat):Rat)=(q.den:Nat)*(k:Nat):=by exact_mod_cast rfl
 have e2:((k*q.num:Int):Rat)=(k:Nat)*(q.num:Int):=by rw [Rat.intCast_mul]; rfl
 rw [e1,e2,←e]; grind
theorem lapR_is (r:Rope) (i j:Nat):lapR r i j=0∨lapR r i j=r.2.2∨lapR r i j=-r.2.2:=by
 unfold lapR
 by_cases e:r.1=r.2.1
 ·rw [if_pos e]; exact .inl rfl
 ·rw [if_neg e]
  by_cases a:i=r.1
  ·have b:i≠r.2.1:=fun z=>e (a.symm.trans z)
   by_cases c:j=r.1
   ·have d:j≠r.2.1:=fun z=>e (c.symm.trans z)
    simp [a,c,e]; grind
   ·by_cases d:j=r.2.1
    ·simp [a,d,e]; grind
    ·simp [a,c,d,e]; grind
  ·by_cases b:i=r.2.1
   ·by_cases c:j=r.1
    ·have d:j≠r.2.1:=fun z=>e (c.symm.trans z)
     have e':r.2.1≠r.1:=fun z=>e z.symm
     simp [b,c,e,e']; grind
    ·have e':r.2.1≠r.1:=fun z=>e z.symm
     by_cases d:j=r.2.1
     ·simp [b,d,e']; grind
     ·simp [b,c,d,e']; grind
   ·simp [a,b]; grind
theorem ab_zero {B:Rat} (h:0≤B):Ab B 0:=by constructor <;> grind
theorem lap_bd {n α β:Nat} {rs:List Rope} (h:∀ r∈rs,r.1<n∧r.2.1<n∧Sb α β r.2.2) (hm:rs.length≤16) (i j:Nat):IsI ((denP rs:Nat)*en (lapT n rs) i j)∧Vb (α+4) (en (lapT n rs) i j):=by
 rw [(lapT_sq fun r hr=>⟨(h r hr).1,(h r hr).2.1⟩).2]
 constructor
 ·rw [Rat.mul_comm,sum_mulr]
  refine isi_sum fun r hr=>?_
  have q:=isi_den (denP_dvd hr)
  rw [Rat.mul_comm]
  rcases lapR_is r i j with e | e | e <;> rw [e]
  ·rw [Rat.mul_zero]; exact IsI.zero
  ·exact q
  ·have:=q.neg
   rwa [Rat.mul_neg]
 ·have q:∀ r∈rs,Ab ((2 ^ α:Nat):Rat) (lapR r i j):=fun r hr=>by
   have v:Ab ((2 ^ α:Nat):Rat) r.2.2:=(h r hr).2.2.vb
   rcases lapR_is r i j with e | e | e <;> rw [e]
   ·exact ab_zero v.nn
   ·exact v
   ·have:=v.neg
    rwa [show -1*r.2.2=-r.2.2 by grind] at this
  refine (ab_sum q).le ?_
  have:rs.length*2 ^ α≤2 ^ (α+4):=by rw [Nat.pow_add,Nat.mul_comm]; exact Nat.mul_le_mul_left _ hm
  have e:(((rs.length*2 ^ α:Nat)):Rat)=(rs.length:Nat)*((2 ^ α:Nat):Rat):=by exact_mod_cast rfl
  rw [←e]; exact_mod_cast this
theorem wgs_int (L:List Vec):∀ (w:Frm),(∀ v∈L,∀ j,IsI (v j))->(∀ T,IsI (w T))->∀ S,IsI (wgs L w S):=by
 induction L with
 | nil=>intro w _ h; exact h
 | cons v L ih=>intro w h g; exact ih _ (fun u hu=>h u (by simp [hu])) (fun T=>wg_int T v w (h v (by simp)) g)
theorem wgs_bd {V:Nat} (L:List Vec) (s:Nat):∀ (w:Frm) (W:Nat),(∀ v∈L,∀ j,Ab ((V:Nat):Rat) (v j))->(∀ T:List Bool,T.length=s->Ab ((W:Nat):Rat) (w T))->∀ S:List Bool,S.length=s->Ab (((s*V) ^ L.length*W:Nat):Rat) (wgs L w S):=by
 induction L with
 | nil=>intro w W _ h S hS; rw [List.length_nil,Nat.pow_zero,Nat.one_mul]; exact h S hS
 | cons v L ih =>
  intro w W h g S hS
  have:=ih (wg v w) (s*(V*W)) (fun u hu=>h u (by simp [hu])) (fun T hT=>by
   have:=wg_bd (V:=((V:Nat):Rat)) (W:=((W:Nat):Rat)) T v w (h v (by simp)) (fun U hU=>g U (by omega))
   rw [hT] at this
   have e:(((s*(V*W):Nat)):Rat)=(s:Nat)*(((V:Nat):Rat)*((W:Nat):Rat)):=by rw [Rat.natCast_mul,Rat.natCast_mul]
   rw [e]; exact this) S hS
  rw [List.length_cons,Nat.pow_succ,Nat.mul_assoc,Nat.mul_assoc s V W]; exact this
theorem one_ab (S:List Bool):Ab ((1:Nat):Rat) (one S):=by
 induction S with
 | nil=>show Ab _ 1; constructor <;> decide
 | cons b S ih =>
  cases b
  ·exact ih
  ·show Ab _ 0; constructor <;> decide
theorem ans_bd {n E:Nat} {A:List Vec} (lA:A.length=n) (n1:n+1≤16) (hi:∀ a∈A,∀ j,IsI (a j)) (hb:∀ a∈A,∀ j,Ab ((2 ^ E:Nat):Rat) (a j)) {x:Nat->Rat} (hx:∀ a∈A,fx n x a=0) (hd:ld n (n+1) (wgs A one)≠0) :
  ∃ W:Int,W≠0∧W.natAbs≤2 ^ ((4+E)*n)∧∀ j,j<n->∃ k:Int,(W:Rat)*x j=k∧k.natAbs≤2 ^ ((4+E)*n):=by
 have bd:∀ S:List Bool,S.length=n+1->∀ k:Int,wgs A one S=k->k.natAbs≤2 ^ ((4+E)*n):=by
  intro S hS k hk
  have b:=wgs_bd (V:=2 ^ E) A (n+1) one 1 hb (fun T _=>one_ab T) S hS
  rw [hk,lA,Nat.mul_one] at b
  refine Nat.le_trans (ab_nat b) ?_
  have h1:(n+1)*2 ^ E≤2 ^ (4+E):=by rw [Nat.pow_add 2 4]; exact Nat.mul_le_mul_right _ (by omega)
  have h2:=Nat.pow_le_pow_left h1 n
  rwa [←Nat.pow_mul] at h2
 obtain ⟨w,hw⟩:=wgs_int A one hi one_int (Tk n (n+1))
 have tt:tri n=1∨tri n=-1:=by
  have:(tri n-1)*(tri n+1)=0:=by have:=tri_sq n; grind
  rcases Rat.mul_eq_zero.mp this with z | z
  ·left; grind
  ·right; grind
 have lt:(Tk n (n+1)).length=n+1:=by unfold Tk; simp
 have bw:=bd _ lt w hw
 have main:∀ W:Int,ld n (n+1) (wgs A one)=W->W.natAbs≤2 ^ ((4+E)*n)->∃ W:Int,W≠0∧W.natAbs≤2 ^ ((4+E)*n)∧∀ j,j<n->∃ k:Int,(W:Rat)*x j=k∧k.natAbs≤2 ^ ((4+E)*n):=by
  intro W hW hl
  refine ⟨W,fun z=>hd (by rw [hW,z]; rfl),hl,fun j hj=>?_⟩
  obtain ⟨l1,l2,l3⟩:=cramer hx hj
  obtain ⟨k,hk⟩:=wgs_int A one hi one_int (crS n j)
  have bk:=bd _ l1 k hk
  rw [hW,hk] at l3
  rcases l2 with h1 | h1 <;> rw [h1] at l3
  ·exact ⟨k,by grind,bk⟩
  ·refine ⟨-k,?_,by rw [Int.natAbs_neg]; exact bk⟩
   rw [Rat.intCast_neg]; grind
 rcases tt with e | e
 ·exact main w (by unfold ld; rw [hw,e]; grind) bw
 ·refine main (-w) ?_ (by rw [Int.natAbs_neg]; exact bw)
  unfold ld; rw [hw,e,Rat.intCast_neg]; grind
end Wd
namespace Wd
open Mth
def inT (ts:List (List Int)) (p:Nat) (x:Int):Prop:=∃ t,ts[p]?=some t∧x∈t
def insL (t:List Int) (a:Nat) (x:Int):List Int:=t.take a++x :: t.drop a
theorem insL_perm (t:List Int) (a:Nat) (x:Int):(insL t a x).Perm (x :: t):=by
 unfold insL
 have h:=List.perm_middle (a:=x) (l₁:=t.take a) (l₂:=t.drop a)
 rwa [List.take_append_drop] at h
theorem insL_mem {t:List Int} {a:Nat} {x y:Int}:y∈insL t a x↔y=x∨y∈t:=by
 rw [(insL_perm t a x).mem_iff,List.mem_cons]
theorem insL_nd {t:List Int} {a:Nat} {x:Int} (h:t.Nodup) (hx:x∉t):(insL t a x).Nodup:=by
 rw [(insL_perm t a x).nodup_iff,List.nodup_cons]
 exact ⟨hx,h⟩
theorem insL_len (t:List Int) (a:Nat) (x:Int):(insL t a x).length=t.length+1:=by
 rw [(insL_perm t a x).length_eq]; rfl
theorem inT_ins {ts:List (List Int)} {p a q:Nat} {x y:Int} {t:List Int} (h:ts[p]?=some t):inT (ts.set p (insL t a x)) q y↔inT ts q y∨(q=p∧y=x):=by
 have hp:p<ts.length:=(List.getElem?_eq_some_iff.mp h).1
 unfold inT
 by_cases e:p=q
 ·subst e
  rw [List.getElem?_set_self hp,h]
  constructor
  ·rintro ⟨t',e1,e2⟩
   cases e1
   rcases insL_mem.mp e2 with z | z
   ·exact .inr ⟨rfl,z⟩
   ·exact .inl ⟨t,rfl,z⟩
  ·rintro (⟨t',e1,e2⟩ | ⟨_,e2⟩)
   ·cases e1
    exact ⟨_,rfl,insL_mem.mpr (.inr e2)⟩
   ·exact ⟨_,rfl,insL_mem.mpr (.inl e2)⟩
 ·rw [List.getElem?_set_ne e]
  constructor
  ·intro h; exact .inl h
  ·rintro (h | ⟨h,_⟩)
   ·exact h
   ·exact absurd h.symm e
theorem inT_app {ts:List (List Int)} {u:List Int} {q:Nat} {y:Int}:inT (ts++[u]) q y↔inT ts q y∨(q=ts.length∧y∈u):=by
 unfold inT
 rcases Nat.lt_trichotomy q ts.length with h | h | h
 ·rw [List.getElem?_append_left h]
  constructor
  ·intro z; exact .inl z
  ·rintro (z | ⟨z,_⟩)
   ·exact z
   ·omega
 ·subst h
  rw [List.getElem?_concat_length]
  constructor
  ·rintro ⟨t,e1,e2⟩; cases e1; exact .inr ⟨rfl,e2⟩
  ·rintro (⟨t,e1,e2⟩ | ⟨_,e2⟩)
   ·rw [List.getElem?_eq_none (Nat.le_refl _)] at e1; cases e1
   ·exact ⟨_,rfl,e2⟩
 ·constructor
  ·rintro ⟨t,e1,e2⟩
   have:q<(ts++[u]).length:=(List.getElem?_eq_some_iff.mp e1).1
   rw [List.length_append,List.length_singleton] at this; omega
  ·rintro (⟨t,e1,e2⟩ | ⟨z,_⟩)
   ·have:=(List.getElem?_eq_some_iff.mp e1).1; omega
   ·omega
theorem nd_ix {t:List Int} (h:t.Nodup) {i j:Nat} {x:Int} (h1:t[i]?=some x) (h2:t[j]?=some x):i=j:=by
 obtain ⟨i1,e1⟩:=List.getElem?_eq_some_iff.mp h1
 obtain ⟨j1,e2⟩:=List.getElem?_eq_some_iff.mp h2
 have hp:=List.pairwise_iff_getElem.mp h
 rcases Nat.lt_trichotomy i j with z | z | z
 ·exact absurd (e1.trans e2.symm) (hp i j i1 j1 z)
 ·exact z
 ·exact absurd (e2.trans e1.symm) (hp j i j1 i1 z)
theorem set_mem {t:List Int} (h:t.Nodup) {a:Nat} {o v y:Int} (ha:t[a]?=some o):y∈t.set a v↔(y∈t∧y≠o)∨y=v:=by
 have hl:a<t.length:=(List.getElem?_eq_some_iff.mp ha).1
 constructor
 ·intro hy
  obtain ⟨i,hi,e⟩:=List.getElem_of_mem hy
  have e':(t.set a v)[i]?=some y:=by rw [List.getElem?_eq_getElem hi,e]
  by_cases z:a=i
  ·subst z
   rw [List.getElem?_set_self hl] at e'
   cases e'; exact .inr rfl
  ·rw [List.getElem?_set_ne z] at e'
   exact .inl ⟨List.mem_of_getElem? e',fun w=>z (nd_ix h ha (by rw [e',w]))⟩
 ·rintro (⟨h1,h2⟩ | h1)
  ·obtain ⟨i,hi,e⟩:=List.getElem_of_mem h1
   have e':t[i]?=some y:=by rw [List.getElem?_eq_getElem hi,e]
   have z:a≠i:=fun w=>h2 (by subst w; rw [ha] at e'; exact (Option.some.inj e').symm)
   exact List.mem_of_getElem? (by rw [List.getElem?_set_ne z]; exact e')
  ·rw [h1]; exact List.mem_of_getElem? (List.getElem?_set_self hl)
theorem set_nd {t:List Int} (h:t.Nodup) {a:Nat} {v:Int} (hv:v∉t):(t.set a v).Nodup:=by
 have hp:=List.pairwise_iff_getElem.mp h
 refine List.pairwise_iff_getElem.mpr fun i j hi hj hij=>?_
 rw [List.length_set] at hi hj
 rw [List.getElem_set,List.getElem_set]
 split
 ·split
  ·omega
  ·intro z; exact hv (z ▸ List.getElem_mem _)
 ·split
  ·intro z; exact hv (z ▸ List.getElem_mem _)
  ·exact hp i j hi hj hij
theorem inT_set {ts:List (List Int)} {p a q:Nat} {o v y:Int} {t:List Int} (h:ts[p]?=some t) (hn:t.Nodup) (ha:t[a]?=some o):inT (ts.set p (t.set a v)) q y↔(inT ts q y∧¬ (q=p∧y=o))∨(q=p∧y=v):=by
 have hp:p<ts.length:=(List.getElem?_eq_some_iff.mp h).1
 unfold inT
 by_cases e:p=q
 ·subst e
  rw [List.getElem?_set_self hp,h]
  constructor
  ·rintro ⟨t',e1,e2⟩
   cases e1
   rcases (set_mem hn ha).mp e2 with z | z
   ·exact .inl ⟨⟨t,rfl,z.1⟩,fun w=>z.2 w.2⟩
   ·exact .inr ⟨rfl,z⟩
  ·rintro (⟨⟨t',e1,e2⟩,e3⟩ | ⟨_,e2⟩)
   ·cases e1
    exact ⟨_,rfl,(set_mem hn ha).mpr (.inl ⟨e2,fun w=>e3 ⟨rfl,w⟩⟩)⟩
   ·exact ⟨_,rfl,(set_mem hn ha).mpr (.inr e2)⟩
 ·rw [List.getElem?_set_ne e]
  constructor
  ·intro h; exact .inl ⟨h,fun w=>e w.1.symm⟩
  ·rintro (h | ⟨h,_⟩)
   ·exact h.1
   ·exact absurd h.symm e
structure Gi (ts:List (List Int)) (rs:List Rope):Prop where
 two:2≤ts.length
 few:ts.length≤rs.length+1
 ends:∀ r∈rs,r.1<ts.length∧r.2.1<ts.length∧Sb 10 10 r.2.2
 pos:∀ r∈rs,0<r.2.2
 hang:Hang ts.length rs
 odd:∀ (k:Nat) (r:Rope),rs[k]?=some r->∀ p:Nat,inT ts p (2*(k:Int)+1)↔p=r.2.1
 less:∀ (p:Nat) (x:Int),inT ts p x->x<2*(rs.length:Int)
 nd:∀ t∈ts,t.Nodup
 ne:∀ t∈ts,t≠[]
 lens:∀ t∈ts,t.length≤2*rs.length
 even:∀ (k:Nat) (r:Rope),rs[k]?=some r->inT ts r.1 (2*(k:Int))
theorem set_all {P:List Int->Prop} {ts:List (List Int)} {p:Nat} {t:List Int} (h:∀ t∈ts,P t) (ht:P t):∀ u∈ts.set p t,P u:=fun u hu=>by
 rcases List.mem_or_eq_of_mem_set hu with z | z
 ·exact h u z
 ·rw [z]; exact ht
theorem app_all {P:List Int->Prop} {ts:List (List Int)} {t:List Int} (h:∀ t∈ts,P t) (ht:P t):∀ u∈ts++[t],P u:=fun u hu=>by
 rcases List.mem_append.mp hu with z | z
 ·exact h u z
 ·rw [List.mem_singleton.mp z]; exact ht
theorem hang_app {n:Nat} {rs:List Rope} {r:Rope} (h:Hang n rs):Hang n (rs++[r]):=fun S s0 hs p hp=>h S s0 (fun x hx=>hs x (List.mem_append.mpr (.inl hx))) p hp
theorem snoc_at {rs:List Rope} {r x:Rope} {k:Nat} (h:(rs++[r])[k]?=some x):rs[k]?=some x∨(k=rs.length∧x=r):=by
 rcases Nat.lt_trichotomy k rs.length with z | z | z
 ·rw [List.getElem?_append_left z] at h; exact .inl h
 ·subst z; rw [List.getElem?_concat_length] at h; exact .inr ⟨rfl,(Option.some.inj h).symm⟩
 ·have:=(List.getElem?_eq_some_iff.mp h).1
  rw [List.length_append,List.length_singleton] at this; omega
theorem len_snoc (rs:List Rope) (r:Rope):(rs++[r]).length=rs.length+1:=by rw [List.length_append]; rfl
theorem Gi.chord {ts:List (List Int)} {rs:List Rope} (g:Gi ts rs) {p q a b:Nat} {t u:List Int} {e:Rat} (hp:ts[p]?=some t) (hq:(ts.set p (insL t a (2*(rs.length:Int))))[q]?=some u) (he:Sb 10 10 e) (h0:0<e) :
  Gi ((ts.set p (insL t a (2*(rs.length:Int)))).set q (insL u b (2*(rs.length:Int)+1))) (rs++[(p,q,e)]):=by
 have lp:p<ts.length:=(List.getElem?_eq_some_iff.mp hp).1
 have lq:q<ts.length:=by have:=(List.getElem?_eq_some_iff.mp hq).1; rwa [List.length_set] at this
 have tn:∀ x,x∈t->x<2*(rs.length:Int):=fun x hx=>g.less p x ⟨t,hp,hx⟩
 have l1:∀ x r,inT (ts.set p (insL t a (2*(rs.length:Int)))) r x->x<2*(rs.length:Int)+1:=fun x r h=>by
  rcases (inT_ins hp).mp h with z | z
  ·have:=g.less _ _ z; omega
  ·omega
 have un:∀ x,x∈u->x<2*(rs.length:Int)+1:=fun x hx=>l1 x q ⟨u,hq,hx⟩
 have tm:=List.mem_of_getElem? hp
 have nd1:∀ v∈ts.set p (insL t a (2*(rs.length:Int))),v.Nodup:=set_all g.nd (insL_nd (g.nd t tm) fun z=>by have:=tn _ z; omega)
 have ne1:∀ v∈ts.set p (insL t a (2*(rs.length:Int))),v≠[]:=set_all g.ne (fun z=>by have:=congrArg List.length z; rw [insL_len] at this; simp at this)
 have ln1:∀ v∈ts.set p (insL t a (2*(rs.length:Int))),v.length≤2*rs.length+1:=set_all (fun v hv=>by have:=g.lens v hv; omega) (by rw [insL_len]; have:=g.lens t tm; omega)
 have um:=List.mem_of_getElem? hq
 have L:((ts.set p (insL t a (2*(rs.length:Int)))).set q (insL u b (2*(rs.length:Int)+1))).length=ts.length:=by rw [List.length_set,List.length_set]
 refine ⟨by rw [L]; exact g.two,by rw [L,len_snoc]; have:=g.few; omega,?_,?_,by rw [L]; exact hang_app g.hang,?_,?_,?_,?_,?_,?_⟩
 ·intro r hr
  rw [L]
  rcases List.mem_append.mp hr with z | z
  ·exact g.ends r z
  ·rw [List.mem_singleton.mp z]; exact ⟨lp,lq,he⟩
 ·intro r hr
  rcases List.mem_append.mp hr with z | z
  ·exact g.pos r z
  ·rw [List.mem_singleton.mp z]; exact h0
 ·intro k r hk x
  rw [inT_ins hq,inT_ins hp]
  rcases snoc_at hk with z | ⟨z1,z2⟩
  ·have lk:k<rs.length:=(List.getElem?_eq_some_iff.mp z).1
   rw [g.odd k r z x]
   constructor
   ·rintro ((h | ⟨_,h⟩) | ⟨_,h⟩)
    ·exact h
    ·omega
    ·omega
   ·intro h; exact .inl (.inl h)
  ·subst z1 z2
   constructor
   ·rintro ((h | ⟨_,h⟩) | ⟨h,_⟩)
    ·have:=g.less _ _ h; omega
    ·omega
    ·exact h
   ·intro h; exact .inr ⟨h,rfl⟩
 ·intro r x h
  rw [len_snoc]
  rcases (inT_ins hq).mp h with z | z
  ·have:=l1 _ _ z; omega
  ·omega
 ·exact set_all nd1 (insL_nd (nd1 u um) fun z=>by have:=un _ z; omega)
 ·exact set_all ne1 (fun z=>by have:=congrArg List.length z; rw [insL_len] at this; simp at this)
 ·rw [len_snoc]
  exact set_all (fun v hv=>by have:=ln1 v hv; omega) (by rw [insL_len]; have:=ln1 u um; omega)
 ·intro k r hk
  rw [inT_ins hq,inT_ins hp]
  rcases snoc_at hk with z | ⟨z1,z2⟩
  ·exact .inl (.inl (g.even k r z))
  ·subst z1 z2
   exact .inl (.inr ⟨rfl,rfl⟩)
theorem Gi.hung {ts:List (List Int)} {rs:List Rope} (g:Gi ts rs) {p a:Nat} {t:List Int} {e:Rat} (hp:ts[p]?=some t) (he:Sb 10 10 e) (h0:0<e) :
  Gi ((ts++[[2*(rs.length:Int)+1]]).set p (insL t a (2*(rs.length:Int)))) (rs++[(p,ts.length,e)]):=by
 have lp:p<ts.length:=(List.getElem?_eq_some_iff.mp hp).1
 have hp':(ts++[[2*(rs.length:Int)+1]])[p]?=some t:=by rw [List.getElem?_append_left lp]; exact hp
 have tn:∀ x,x∈t->x<2*(rs.length:Int):=fun x hx=>g.less p x ⟨t,hp,hx⟩
 have tm:=List.mem_of_getElem? hp
 have L:((ts++[[2*(rs.length:Int)+1]]).set p (insL t a (2*(rs.length:Int)))).length=ts.length+1:=by rw [List.length_set,List.length_append]; rfl
 have two:=g.two
 refine ⟨by omega,by rw [L,len_snoc]; have:=g.few; omega,?_,?_,?_,?_,?_,?_,?_,?_,?_⟩
 ·intro r hr
  rw [L]
  rcases List.mem_append.mp hr with z | z
  ·obtain ⟨h1,h2,h3⟩:=g.ends r z
   exact ⟨by omega,by omega,h3⟩
  ·rw [List.mem_singleton.mp z]; exact ⟨show p<ts.length+1 by omega,show ts.length<ts.length+1 by omega,he⟩
 ·intro r hr
  rcases List.mem_append.mp hr with z | z
  ·exact g.pos r z
  ·rw [List.mem_singleton.mp z]; exact h0
 ·rw [L]
  intro S s0 hs x hx
  have old:∀ y,y<ts.length->S y:=g.hang S s0 (fun r hr=>hs r (List.mem_append.mpr (.inl hr)))
  rcases Nat.lt_or_ge x ts.length with z | z
  ·exact old x z
  ·obtain rfl:x=ts.length:=by omega
   exact (hs (p,ts.length,e) (List.mem_append.mpr (.inr (List.mem_singleton.mpr rfl)))).mp (old p lp)
 ·intro k r hk x
  rw [inT_ins hp',inT_app]
  rcases snoc_at hk with z | ⟨z1,z2⟩
  ·have lk:k<rs.length:=(List.getElem?_eq_some_iff.mp z).1
   rw [g.odd k r z x]
   constructor
   ·rintro ((h | ⟨_,h⟩) | ⟨_,h⟩)
    ·exact h
    ·rw [List.mem_singleton] at h; omega
    ·omega
   ·intro h; exact .inl (.inl h)
  ·subst z1 z2
   constructor
   ·rintro ((h | ⟨h,_⟩) | ⟨_,h⟩)
    ·have:=g.less _ _ h; omega
    ·exact h
    ·omega
   ·intro h; exact .inl (.inr ⟨h,List.mem_singleton.mpr rfl⟩)
 ·intro r x h
  rw [len_snoc]
  rcases (inT_ins hp').mp h with z | z
  ·rcases inT_app.mp z with z | z
   ·have:=g.less _ _ z; omega
   ·have:=List.mem_singleton.mp z.2; omega
  ·omega
 ·exact set_all (app_all g.nd (by simp)) (insL_nd (g.nd t tm) fun z=>by have:=tn _ z; omega)
 ·exact set_all (app_all g.ne (by simp)) (fun z=>by have:=congrArg List.length z; rw [insL_len] at this; simp at this)
 ·rw [len_snoc]
  exact set_all (app_all (fun v hv=>by have:=g.lens v hv; omega) (by simp; omega)) (by rw [insL_len]; have:=g.lens t tm; omega)
 ·intro k r hk
  rw [inT_ins hp',inT_app]
  rcases snoc_at hk with z | ⟨z1,z2⟩
  ·exact .inl (.inl (g.even k r z))
  ·subst z1 z2
   exact .inr ⟨rfl,rfl⟩
theorem Gi.part {ts:List (List Int)} {rs:List Rope} (g:Gi ts rs) {k a:Nat} {r:Rope} {t:List Int} {e:Rat} (hk:rs[k]?=some r) (hp:ts[r.2.1]?=some t) (ha:t[a]?=some (2*(k:Int)+1)) (he:Sb 10 10 e) (h0:0<e) :
  Gi (ts.set r.2.1 (t.set a (2*(rs.length:Int)+1))++[[2*(k:Int)+1,2*(rs.length:Int)]]) (rs.set k (r.1,ts.length,r.2.2)++[(ts.length,r.2.1,e)]):=by
 have lk:k<rs.length:=(List.getElem?_eq_some_iff.mp hk).1
 have lp:r.2.1<ts.length:=(List.getElem?_eq_some_iff.mp hp).1
 have rm:=List.mem_of_getElem? hk
 have tm:=List.mem_of_getElem? hp
 have tn:∀ x,x∈t->x<2*(rs.length:Int):=fun x hx=>g.less _ x ⟨t,hp,hx⟩
 have L:(ts.set r.2.1 (t.set a (2*(rs.length:Int)+1))++[[2*(k:Int)+1,2*(rs.length:Int)]]).length=ts.length+1:=by rw [List.length_append,List.length_set]; rfl
 have Lr:(rs.set k (r.1,ts.length,r.2.2)++[(ts.length,r.2.1,e)]).length=rs.length+1:=by rw [len_snoc,List.length_set]
 have two:=g.two
 have ne:ts.length≠r.2.1:=by omega
 refine ⟨by omega,by rw [L,Lr]; have:=g.few; omega,?_,?_,?_,?_,?_,?_,?_,?_,?_⟩
 ·intro x hx
  rw [L]
  rcases List.mem_append.mp hx with z | z
  ·rcases List.mem_or_eq_of_mem_set z with w | w
   ·obtain ⟨h1,h2,h3⟩:=g.ends x w
    exact ⟨by omega,by omega,h3⟩
   ·obtain ⟨h1,h2,h3⟩:=g.ends r rm
    rw [w]; exact ⟨show r.1<ts.length+1 by omega,show ts.length<ts.length+1 by omega,h3⟩
  ·rw [List.mem_singleton.mp z]; exact ⟨show ts.length<ts.length+1 by omega,show r.2.1<ts.length+1 by omega,he⟩
 ·intro x hx
  rcases List.mem_append.mp hx with z | z
  ·rcases List.mem_or_eq_of_mem_set z with w | w
   ·exact g.pos x w
   ·rw [w]; exact g.pos r rm
  ·rw [List.mem_singleton.mp z]; exact h0
 ·rw [L]
  intro S s0 hs x hx
  have n1:S r.1↔S ts.length:=hs (r.1,ts.length,r.2.2) (List.mem_append.mpr (.inl (List.mem_of_getElem? (List.getElem?_set_self lk))))
  have n2:S ts.length↔S r.2.1:=hs (ts.length,r.2.1,e) (List.mem_append.mpr (.inr (List.mem_singleton.mpr rfl)))
  have old:∀ y,y<ts.length->S y:=g.hang S s0 (fun q hq=>by
   obtain ⟨j,hj,ej⟩:=List.getElem_of_mem hq
   by_cases z:k=j
   ·subst z
    have:q=r:=by rw [List.getElem?_eq_getElem hj,ej] at hk; exact Option.some.inj hk
    rw [this]; exact n1.trans n2
   ·exact hs q (List.mem_append.mpr (.inl (List.mem_of_getElem? (i:=j) (by rw [List.getElem?_set_ne z,List.getElem?_eq_getElem hj,ej])))))
  rcases Nat.lt_or_ge x ts.length with z | z
  ·exact old x z
  ·obtain rfl:x=ts.length:=by omega
   exact n2.mpr (old _ lp)
 ·intro j q hj x
  rw [inT_app,inT_set hp (g.nd t tm) ha,List.length_set]
  rcases snoc_at hj with z | ⟨z1,z2⟩
  ·have lj:j<rs.length:=by have:=(List.getElem?_eq_some_iff.mp z).1; rwa [List.length_set] at this
   by_cases w:k=j
   ·subst w
    rw [List.getElem?_set_self lk] at z
    cases z
    constructor
    ·rintro ((⟨h1,h2⟩ | ⟨_,h⟩) | ⟨h,_⟩)
     ·exact absurd ⟨(g.odd k r hk x).mp h1,rfl⟩ h2
     ·omega
     ·exact h
    ·intro h; exact .inr ⟨h,List.mem_cons.mpr (.inl rfl)⟩
   ·rw [List.getElem?_set_ne w] at z
    rw [g.odd j q z x]
    constructor
    ·rintro ((⟨h1,_⟩ | ⟨_,h⟩) | ⟨_,h⟩)
     ·exact h1
     ·omega
     ·simp only [List.mem_cons,List.not_mem_nil,or_false] at h; omega
    ·intro h; exact .inl (.inl ⟨h,fun y=>by omega⟩)
  ·rw [List.length_set] at z1
   subst z1 z2
   constructor
   ·rintro ((⟨h1,_⟩ | ⟨h,_⟩) | ⟨_,h⟩)
    ·have:=g.less _ _ h1; omega
    ·exact h
    ·simp only [List.mem_cons,List.not_mem_nil,or_false] at h; omega
   ·intro h; exact .inl (.inr ⟨h,rfl⟩)
 ·intro p x h
  rw [Lr]
  rcases inT_app.mp h with z | z
  ·rcases (inT_set hp (g.nd t tm) ha).mp z with w | w
   ·have:=g.less _ _ w.1; omega
   ·omega
  ·have:=z.2
   simp only [List.mem_cons,List.not_mem_nil,or_false] at this; omega
 ·refine app_all (set_all g.nd (set_nd (g.nd t tm) fun z=>by have:=tn _ z; omega)) ?_
  simp; omega
 ·refine app_all (set_all g.ne (fun z=>?_)) (by simp)
  have:=congrArg List.length z
  rw [List.length_set] at this
  exact g.ne t tm (List.length_eq_zero_iff.mp this)
 ·rw [Lr]
  refine app_all (set_all (fun v hv=>by have:=g.lens v hv; omega) (by rw [List.length_set]; have:=g.lens t tm; omega)) (by simp; omega)
 ·intro j q hj
  rw [inT_app,inT_set hp (g.nd t tm) ha,List.length_set]
  rcases snoc_at hj with z | ⟨z1,z2⟩
  ·by_cases w:k=j
   ·subst w
    rw [List.getElem?_set_self lk] at z
    cases z
    exact .inl (.inl ⟨g.even k r hk,fun y=>by omega⟩)
   ·rw [List.getElem?_set_ne w] at z
    exact .inl (.inl ⟨g.even j q z,fun y=>by omega⟩)
  ·rw [List.length_set] at z1
   subst z1 z2
   exact .inr ⟨rfl,List.mem_cons.mpr (.inr (List.mem_singleton.mpr rfl))⟩
theorem Gi.first {e:Rat} (he:Sb 10 10 e) (h0:0<e):Gi [[0,-2],[1,-1]] [(0,1,e)]:=by
 have cases2:∀ p (x:Int),inT [[0,-2],[1,-1]] p x↔(p=0∧(x=0∨x=-2))∨(p=1∧(x=1∨x=-1)):=by
  intro p x
  unfold inT
  match p with
  | 0=>simp
  | 1=>simp
  | p+2=>simp
 refine ⟨by simp,by simp,?_,?_,?_,?_,?_,by simp,by simp,by simp,?_⟩
 ·intro r hr
  rw [List.mem_singleton.mp hr]
  exact ⟨by simp,by simp,he⟩
 ·intro r hr
  rw [List.mem_singleton.mp hr]; exact h0
 ·intro S s0 hs p hp
  have:=(hs (0,1,e) (by simp)).mp s0
  match p,hp with
  | 0,_=>exact s0
  | 1,_=>exact this
  | p+2,hp=>simp at hp; omega
 ·intro k r hk p
  have:k=0:=by have:=(List.getElem?_eq_some_iff.mp hk).1; simpa using this
  subst this
  simp only [List.getElem?_cons_zero] at hk
  cases hk
  rw [cases2]
  simp
 ·intro p x h
  rw [cases2] at h
  simp
  omega
 ·intro k r hk
  have:k=0:=by have:=(List.getElem?_eq_some_iff.mp hk).1; simpa using this
  subst this
  simp only [List.getElem?_cons_zero] at hk
  cases hk
  rw [cases2]
  simp
end Wd
namespace Mth
theorem take_snoc {α:Type} {R:List α} {j:Nat} {r:α} (h:R[j]?=some r):R.take (j+1)=R.take j++[r]:=by
 rw [List.take_add_one,h]
 rfl
end Mth
namespace Mth
theorem len_le:∀ (n:Nat) (l:List Int),l.Nodup->(∀ x∈l,0≤x∧x<n)->l.length≤n
 | 0,l,_,h=>by
  cases l with
  | nil=>exact Nat.le_refl _
  | cons a r =>
   have:=h a (List.mem_cons_self ..)
   omega
 | n+1,l,hn,h=>by
  by_cases hm:(n:Int)∈l
  ·have h1:=len_le n (l.erase (n:Int)) (hn.erase _) (fun x hx=>by
    have hx1:=List.mem_of_mem_erase hx
    have hx2:x≠(n:Int):=fun z=>by
     rw [z] at hx
     exact (List.Nodup.not_mem_erase hn) hx
    have:=h x hx1
    omega)
   have h2:=List.length_erase_of_mem hm
   have:0<l.length:=List.length_pos_of_mem hm
   omega
  ·have h1:=len_le n l hn (fun x hx=>by
    have hx2:x≠(n:Int):=fun z=>hm (z ▸ hx)
    have:=h x hx
    omega)
   omega
abbrev InR (n:Nat) (e:Int):Prop:=0≤e∧e<n
end Mth
namespace Mth
def lk (L:List (Int×Int)) (e:Int):Option Int:=(L.find? fun p=>decide (p.1=e)).map (·.2)
theorem lk_mem {L:List (Int×Int)} {e v:Int} (h:lk L e=some v):(e,v)∈L:=by
 unfold lk at h
 cases q:L.find? fun p=>decide (p.1=e) with
 | none=>rw [q] at h; cases h
 | some p =>
  rw [q] at h
  have h1:=List.mem_of_find?_eq_some q
  have h2:=List.find?_some q
  have h3:p.1=e:=of_decide_eq_true h2
  have h4:p.2=v:=Option.some.inj h
  rw [←h3,←h4]
  exact h1
theorem lk_some {L:List (Int×Int)} {e:Int} (h:e∈L.map (·.1)):∃ v,lk L e=some v:=by
 obtain ⟨p,hp,e1⟩:=List.mem_map.mp h
 unfold lk
 cases q:L.find? fun p=>decide (p.1=e) with
 | none =>
  have:=List.find?_eq_none.mp q p hp
  exact absurd (decide_eq_true e1) this
 | some p=>exact ⟨p.2,rfl⟩
theorem lk_none {L:List (Int×Int)} {e:Int} (h:e∉L.map (·.1)):lk L e=none:=by
 cases q:lk L e with
 | none=>rfl
 | some v=>exact absurd (List.mem_map.mpr ⟨_,lk_mem q,rfl⟩) h
end Mth
namespace Wd
open Mth
section
variable {n:Nat} {rs:List Rope} {X Y W:Nat->Rat}
theorem sumQ_neg (f:Nat->Rat):∀ n,sumQ (fun i=>(-1)*f i) n=(-1)*sumQ f n:=by
 intro n
 induction n with
 | zero=>unfold sumQ; grind
 | succ n ih=>unfold sumQ; rw [ih]; grind
theorem dot_pole (y0:Y 0=1) (y1:Y 1=0) (bal:∀ i,2≤i->i<n+2->outs X rs i=0):sumQ (fun i=>Y i*outs X rs i) (n+2)=outs X rs 0:=by
 rw [sumQ_one (i:=0) (by omega) (fun l hl h=>?_),y0,Rat.one_mul]
 rcases Nat.lt_or_ge l 2 with z | z
 ·obtain rfl:l=1:=by omega
  rw [y1,Rat.zero_mul]
 ·rw [bal l z hl,Rat.mul_zero]
theorem clip_term (a b:Rat):((if a<0 then a else 0)-(if b<0 then b else 0))*((if a<0 then a else 0)-(if b<0 then b else 0))≤(a-b)*((if a<0 then a else 0)-(if b<0 then b else 0)):=by
 by_cases ha:a<0 <;> by_cases hb:b<0
 ·rw [if_pos ha,if_pos hb]; exact Rat.le_refl
 ·rw [if_pos ha,if_neg hb]
  have h1:0≤b:=Rat.not_lt.mp hb
  have h2:0≤-a:=by grind
  have:=Rat.mul_nonneg h1 h2
  grind
 ·rw [if_neg ha,if_pos hb]
  have h1:0≤a:=Rat.not_lt.mp ha
  have h2:0≤-b:=by grind
  have:=Rat.mul_nonneg h1 h2
  grind
 ·rw [if_neg ha,if_neg hb]; grind
theorem sq_zero {x:Rat} (h:x*x=0):x=0:=by rcases Rat.mul_eq_zero.mp h with z | z <;> exact z
theorem sq_le0 {x:Rat} (h:x*x≤0):x=0:=sq_zero (Rat.le_antisymm h (sq_nn x))
theorem ht_nn (h:∀ r∈rs,r.1<n+2∧r.2.1<n+2∧0<r.2.2) (g:Hang (n+2) rs) (w0:0≤W 0) (w1:0≤W 1) (bal:∀ i,2≤i->i<n+2->outs W rs i=0):∀ i,i<n+2->0≤W i:=by
 obtain ⟨Y,hY⟩:∃ Y:Nat->Rat,∀ i,Y i=if W i<0 then W i else 0:=⟨_,fun _=>rfl⟩
 have y0:∀ i,0≤W i->Y i=0:=fun i hi=>by rw [hY,if_neg (Rat.not_lt.mpr hi)]
 have e1:=outs_sum (fun r hr=>⟨(h r hr).1,(h r hr).2.1⟩) W Y
 rw [sumQ_zero (fun i hi=>?_)] at e1
 ·have tm:∀ r∈rs,(Y r.1-Y r.2.1)*(Y r.1-Y r.2.1)≤(W r.1-W r.2.1)*(Y r.1-Y r.2.1):=fun r _=>by
   rw [hY,hY]; exact clip_term _ _
  have nn:∀ r∈rs,0≤runs W r*(Y r.1-Y r.2.1):=fun r hr=>by
   have a:=Rat.le_trans (sq_nn _) (tm r hr)
   have b:=Rat.mul_nonneg (Rat.le_of_lt (h r hr).2.2) a
   unfold runs; grind
  have e2:=sum_nn0 nn e1.symm
  have cst:∀ p,p<n+2->Y p=0:=by
   refine g (fun p=>Y p=0) (y0 0 w0) (fun r hr=>?_)
   have e3:=e2 r hr
   unfold runs at e3
   have pe:r.2.2≠0:=fun z=>by have:=(h r hr).2.2; rw [z] at this; exact absurd this (Rat.lt_irrefl)
   have e4:r.2.2*((W r.1-W r.2.1)*(Y r.1-Y r.2.1))=0:=by grind
   have e5:=(Rat.mul_eq_zero.mp e4).resolve_left pe
   have t:=tm r hr
   rw [e5] at t
   have e6:=sq_le0 t
   have e7:Y r.1=Y r.2.1:=by grind
   rw [e7]
  intro i hi
  have c:=cst i hi
  rw [hY] at c
  by_cases z:W i<0
  ·rw [if_pos z] at c; rw [c]; exact Rat.le_refl
  ·exact Rat.not_lt.mp z
 ·rcases Nat.lt_or_ge i 2 with z | z
  ·have:Y i=0:=by
    rcases (show i=0∨i=1 by omega) with rfl | rfl
    ·exact y0 0 w0
    ·exact y0 1 w1
   rw [this,Rat.zero_mul]
  ·rw [bal i z hi,Rat.mul_zero]
theorem away_lin (a b:Rat) (X Y:Nat->Rat) (i:Nat) (r:Rope):away (fun j=>a*X j+b*Y j) i r=a*away X i r+b*away Y i r:=by
 unfold away runs
 by_cases h1:i=r.1 <;> by_cases h2:i=r.2.1 <;> simp only [h1,h2,if_true,if_false] <;> grind
theorem outs_lin (a b:Rat) (X Y:Nat->Rat) (i:Nat):∀ rs:List Rope,outs (fun j=>a*X j+b*Y j) rs i=a*outs X rs i+b*outs Y rs i
 | []=>by unfold outs; simp; grind
 | r :: rs=>by
  have:=outs_lin a b X Y i rs
  unfold outs at this ⊢
  rw [List.map_cons,List.sum_cons,List.map_cons,List.sum_cons,List.map_cons,List.sum_cons,this,away_lin]
  grind
theorem away_one (i:Nat) (r:Rope):away (fun _=>1) i r=0:=by
 unfold away runs
 split <;> split <;> grind
theorem outs_one (i:Nat):∀ rs:List Rope,outs (fun _=>1) rs i=0
 | []=>rfl
 | r :: rs=>by
  have:=outs_one i rs
  unfold outs at this ⊢
  rw [List.map_cons,List.sum_cons,this,away_one]; grind
theorem ht_in (h:∀ r∈rs,r.1<n+2∧r.2.1<n+2∧0<r.2.2) (g:Hang (n+2) rs) (x0:X 0=1) (x1:X 1=0) (bal:∀ i,2≤i->i<n+2->outs X rs i=0):∀ i,i<n+2->0≤X i∧X i≤1:=fun i hi=>by
 have a:=ht_nn h g (W:=X) (by rw [x0]; decide) (by rw [x1]; exact Rat.le_refl) bal i hi
 have b:=ht_nn h g (W:=fun j=>1*(1:Rat)+(-1)*X j) (by show 0≤1*(1:Rat)+(-1)*X 0; rw [x0]; grind) (by show 0≤1*(1:Rat)+(-1)*X 1; rw [x1]; grind)
  (fun i h1 h2=>by rw [outs_lin 1 (-1) (fun _=>1) X i rs,outs_one,bal i h1 h2]; grind) i hi
 exact ⟨a,by grind⟩
theorem ease_pos (h:∀ r∈rs,r.1<n+2∧r.2.1<n+2∧0<r.2.2) (g:Hang (n+2) rs) (x0:X 0=1) (x1:X 1=0) (bal:∀ i,2≤i->i<n+2->outs X rs i=0):0<outs X rs 0:=by
 have e:=outs_sum (fun r hr=>⟨(h r hr).1,(h r hr).2.1⟩) X X
 rw [dot_pole x0 x1 bal] at e
 have nn:∀ r∈rs,0≤runs X r*(X r.1-X r.2.1):=fun r hr=>by
  have b:=Rat.mul_nonneg (Rat.le_of_lt (h r hr).2.2) (sq_nn (X r.1-X r.2.1))
  unfold runs; grind
 have s:=sum_nn nn
 rw [e]
 refine Rat.lt_of_le_of_ne s fun z=>?_
 have e2:=sum_nn0 nn z.symm
 have c:=g (fun p=>X p=1) x0 (fun r hr=>by
  have e3:=e2 r hr
  unfold runs at e3
  have pe:r.2.2≠0:=fun z=>by have:=(h r hr).2.2; rw [z] at this; exact absurd this (Rat.lt_irrefl)
  have e4:r.2.2*((X r.1-X r.2.1)*(X r.1-X r.2.1))=0:=by grind
  have e6:=sq_zero ((Rat.mul_eq_zero.mp e4).resolve_left pe)
  have e7:X r.1=X r.2.1:=by grind
  rw [e7]) 1 (by omega)
 have c':X 1=1:=c
 rw [x1] at c'
 exact absurd c' (by decide)
end
section
variable {n:Nat} {rs rs':List Rope} {X X':Nat->Rat} {b:Rope}
theorem ray (h:∀ r∈rs,r.1<n+2∧r.2.1<n+2∧0<r.2.2) (g:Hang (n+2) rs) (hb:b.1<n+2∧b.2.1<n+2∧0<b.2.2) (hO:∀ (Y:Nat->Rat) (i:Nat),outs Y rs' i=outs Y rs i+away Y i b)
  (x0:X 0=1) (x1:X 1=0) (bal:∀ i,2≤i->i<n+2->outs X rs i=0) (x0':X' 0=1) (x1':X' 1=0) (bal':∀ i,2≤i->i<n+2->outs X' rs' i=0) :
  outs X' rs' 0=outs X rs 0+b.2.2*((X b.1-X b.2.1)*(X' b.1-X' b.2.1))∧(X' b.1-X' b.2.1)*(X' b.1-X' b.2.1)≤(X b.1-X b.2.1)*(X' b.1-X' b.2.1)∧(X' b.1-X' b.2.1=0->X b.1-X b.2.1=0):=by
 have h2:∀ r∈rs,r.1<n+2∧r.2.1<n+2:=fun r hr=>⟨(h r hr).1,(h r hr).2.1⟩
 refine ⟨?_,?_,?_⟩
 ·have e1:=dot_pole (Y:=X) x0 x1 bal'
  have e2:sumQ (fun i=>X i*outs X' rs' i) (n+2)=sumQ (fun i=>X i*outs X' rs i) (n+2)+sumQ (fun i=>X i*away X' i b) (n+2):=by
   rw [←sumQ_add]
   exact sumQ_congr fun i _=>by rw [hO]; grind
  have e3:=outs_sum h2 X' X
  have e4:=outs_sum h2 X X'
  rw [dot_pole x0' x1' bal] at e4
  have e5:(rs.map fun r=>runs X' r*(X r.1-X r.2.1)).sum=(rs.map fun r=>runs X r*(X' r.1-X' r.2.1)).sum:=sum_congr fun r _=>by unfold runs; grind
  rw [away_sum hb.1 hb.2.1,e3,e5,←e4] at e2
  unfold runs at e2
  grind
 ·have z0:∀ i,i<2->X' i-X i=0:=fun i hi=>by
   rcases (show i=0∨i=1 by omega) with rfl | rfl
   ·rw [x0,x0']; grind
   ·rw [x1,x1']; grind
  have ol:∀ i,outs (fun j=>1*X' j+(-1)*X j) rs i=outs X' rs i-outs X rs i:=fun i=>by rw [outs_lin]; grind
  have e1:=outs_sum h2 (fun j=>1*X' j+(-1)*X j) (fun j=>1*X' j+(-1)*X j)
  have e2:sumQ (fun i=>(fun j=>1*X' j+(-1)*X j) i*outs (fun j=>1*X' j+(-1)*X j) rs i) (n+2)=sumQ (fun i=>(-1)*((fun j=>1*X' j+(-1)*X j) i*away X' i b)) (n+2):=sumQ_congr fun i hi=>by
   show (1*X' i+(-1)*X i)*_=(-1)*((1*X' i+(-1)*X i)*_)
   rcases Nat.lt_or_ge i 2 with z | z
   ·have:(1*X' i+(-1)*X i)=0:=by have:=z0 i z; grind
    rw [this]; grind
   ·rw [ol,bal i z hi]
    have:=bal' i z hi
    rw [hO] at this
    have e:outs X' rs i=- away X' i b:=by grind
    rw [e]; grind
  have e3:=away_sum hb.1 hb.2.1 X' (fun j=>1*X' j+(-1)*X j)
  have e4:sumQ (fun i=>(-1)*((fun j=>1*X' j+(-1)*X j) i*away X' i b)) (n+2)=(-1)*sumQ (fun i=>(fun j=>1*X' j+(-1)*X j) i*away X' i b) (n+2):=sumQ_neg _ _
  have nn:0≤(rs.map fun r=>runs (fun j=>1*X' j+(-1)*X j) r*((fun j=>1*X' j+(-1)*X j) r.1-(fun j=>1*X' j+(-1)*X j) r.2.1)).sum:=sum_nn fun r hr=>by
   have c:=Rat.mul_nonneg (Rat.le_of_lt (h r hr).2.2) (sq_nn ((fun j=>1*X' j+(-1)*X j) r.1-(fun j=>1*X' j+(-1)*X j) r.2.1))
   unfold runs; grind
  rw [←e1,e2,e4,e3] at nn
  unfold runs at nn
  obtain ⟨d,hd⟩:∃ d,X b.1-X b.2.1=d:=⟨_,rfl⟩
  obtain ⟨d',hd'⟩:∃ d',X' b.1-X' b.2.1=d':=⟨_,rfl⟩
  rw [hd,hd']
  have n2:0≤b.2.2*(d*d' - d' * d'):=by
   have:(-1)*(b.2.2*(X' b.1-X' b.2.1)*((fun j=>1*X' j+(-1)*X j) b.1-(fun j=>1*X' j+(-1)*X j) b.2.1))=b.2.2*(d*d' - d' * d'):=by
    show (-1)*(b.2.2*(X' b.1-X' b.2.1)*((1*X' b.1+(-1)*X b.1)-(1*X' b.2.1+(-1)*X b.2.1)))=_
    rw [←hd,←hd']; grind
   rw [←this]; exact nn
  rcases Rat.le_total (a:=d' * d') (b:=d*d') with z | z
  ·exact z
  ·have y:0≤d' * d' - d*d':=by grind
   have:=Rat.mul_nonneg (Rat.le_of_lt hb.2.2) y
   have e0:b.2.2*(d' * d' - d*d')=0:=by grind
   have pe:b.2.2≠0:=fun z=>by have:=hb.2.2; rw [z] at this; exact absurd this (Rat.lt_irrefl)
   have:=(Rat.mul_eq_zero.mp e0).resolve_left pe
   grind
 ·intro hd
  have aw:∀ i,away X' i b=0:=fun i=>by unfold away runs; rw [hd]; split <;> split <;> grind
  have ol:∀ i,outs (fun j=>1*X' j+(-1)*X j) rs i=outs X' rs i-outs X rs i:=fun i=>by rw [outs_lin]; grind
  have hz:=harm_zero h g (X:=fun j=>1*X' j+(-1)*X j) (by show 1*X' 0+(-1)*X 0=0; rw [x0,x0']; grind) fun i hi=>by
   rcases Nat.lt_or_ge i 2 with z | z
   ·left
    show 1*X' i+(-1)*X i=0
    rcases (show i=0∨i=1 by omega) with rfl | rfl
    ·rw [x0,x0']; grind
    ·rw [x1,x1']; grind
   ·right
    have:=bal' i z hi
    rw [hO,aw] at this
    rw [ol,bal i z hi]; grind
  have z1:1*X' b.1+(-1)*X b.1=0:=hz b.1 hb.1
  have z2:1*X' b.2.1+(-1)*X b.2.1=0:=hz b.2.1 hb.2.1
  grind
end
theorem away_ease (Y:Nat->Rat) (i p q:Nat) (e d:Rat):away Y i (p,q,e+d)=away Y i (p,q,e)+away Y i (p,q,d):=by
 unfold away runs
 by_cases h1:i=p <;> by_cases h2:i=q <;> simp only [h1,h2,if_true,if_false] <;> grind
theorem outs_at {rs:List Rope} {k:Nat} {r:Rope} (hk:rs[k]?=some r) (Y:Nat->Rat) (i:Nat):outs Y rs i=outs Y (rs.take k++rs.drop (k+1)) i+away Y i r:=by
 obtain ⟨hl,e⟩:=List.getElem?_eq_some_iff.mp hk
 have:rs=rs.take k++r :: rs.drop (k+1):=by rw [←e,←List.drop_eq_getElem_cons hl]; exact (List.take_append_drop k rs).symm
 unfold outs
 conv=>lhs; rw [this]
 simp only [List.map_append,List.map_cons,List.sum_append,List.sum_cons]
 grind
theorem outs_set {rs:List Rope} {k p q:Nat} {e:Rat} (hk:rs[k]?=some (p,q,e)) (d:Rat) (Y:Nat->Rat) (i:Nat):outs Y (rs.set k (p,q,e+d)) i=outs Y rs i+away Y i (p,q,d):=by
 have hl:=(List.getElem?_eq_some_iff.mp hk).1
 rw [outs_at (rs:=rs.set k (p,q,e+d)) (List.getElem?_set_self hl) Y i,outs_at hk Y i,away_ease]
 rw [List.take_set_of_le (Nat.le_refl _),List.drop_set_of_lt (by omega)]
 grind
end Wd
namespace Wd
open Mth
def ix (ps:List Int) (a:Nat):Nat:=ps.idxOf (a:Int)
def RenR (ps:List Int) (r r':Rope):Prop:=r'=(ix ps r.1,ix ps r.2.1,r.2.2)∨r'=(ix ps r.2.1,ix ps r.1,r.2.2)
def nats (n:Nat):List Int:=(List.range n).map fun i:Nat=>(i:Int)
theorem nats_mem {n:Nat} {x:Int}:x∈nats n↔∃ k:Nat,k<n∧x=(k:Int):=by
 unfold nats
 rw [List.mem_map]
 constructor
 ·rintro ⟨k,h,e⟩; exact ⟨k,List.mem_range.mp h,e.symm⟩
 ·rintro ⟨k,h,e⟩; exact ⟨k,List.mem_range.mpr h,e.symm⟩
theorem nats_nd (n:Nat):(nats n).Nodup:=by
 unfold nats
 rw [List.Nodup,List.pairwise_map]
 exact List.Pairwise.imp (fun h e=>h (by omega)) List.nodup_range
theorem nats_len (n:Nat):(nats n).length=n:=by unfold nats; rw [List.length_map,List.length_range]
section
variable {n:Nat} {ps:List Int} (hp:ps.Perm (nats n))
include hp
theorem ps_len:ps.length=n:=by rw [hp.length_eq,nats_len]
theorem ps_nd:ps.Nodup:=hp.nodup_iff.mpr (nats_nd n)
theorem ps_mem {a:Nat} (h:a<n):(a:Int)∈ps:=hp.mem_iff.mpr (nats_mem.mpr ⟨a,h,rfl⟩)
theorem ix_lt {a:Nat} (h:a<n):ix ps a<n:=by
 have:=List.idxOf_lt_length_iff.mpr (ps_mem hp h)
 rwa [ps_len hp] at this
theorem ps_at {k:Nat} (h:k<n):∃ j:Nat,j<n∧ps[k]?=some (j:Int):=by
 have hk:k<ps.length:=by rw [ps_len hp]; exact h
 obtain ⟨j,hj,e⟩:=nats_mem.mp (hp.mem_iff.mp (List.getElem_mem hk))
 exact ⟨j,hj,by rw [List.getElem?_eq_getElem hk,e]⟩
theorem ix_at {k j:Nat} (h:ps[k]?=some (j:Int)):ix ps j=k:=by
 have hm:(j:Int)∈ps:=List.mem_of_getElem? h
 have hl:=List.idxOf_lt_length_iff.mpr hm
 have e:ps[ps.idxOf (j:Int)]?=some (j:Int):=by rw [List.getElem?_eq_getElem hl,List.getElem_idxOf hl]
 exact nd_ix (ps_nd hp) e h
theorem hang_ren {rs rs':List Rope} (h:Hang n rs) (h0:ps[0]?=some 0) (hr:∀ r∈rs,∃ r'∈rs',RenR ps r r'):Hang n rs':=by
 intro S s0 hs p hpn
 have e0:ix ps 0=0:=ix_at hp h0
 have key:∀ q,q<n->S (ix ps q):=by
  refine h (fun x=>S (ix ps x)) (by show S (ix ps 0); rw [e0]; exact s0) (fun r hrm=>?_)
  obtain ⟨r',m,e | e⟩:=hr r hrm
  ·have:=hs r' m
   rw [e] at this
   exact this
  ·have:=hs r' m
   rw [e] at this
   exact this.symm
 obtain ⟨j,hj,e⟩:=ps_at hp hpn
 have:=key j hj
 rwa [ix_at hp e] at this
end
theorem take_fresh {ps:List Int} (nd:ps.Nodup) {i:Nat} {x:Int} (h:ps[i]?=some x):x∉ps.take i:=by
 intro hm
 obtain ⟨k,hk,e⟩:=List.getElem_of_mem hm
 rw [List.length_take] at hk
 rw [List.getElem_take] at e
 have:ps[k]?=some x:=by rw [List.getElem?_eq_getElem (by omega),e]
 have:=nd_ix nd this h
 omega
theorem spots_perm {n:Nat} {os:List Int} (h2:2≤n) (h:os.Perm ((List.range (n-2)).map fun i:Nat=>(2+(i:Int)))):([0,1]++os).Perm (nats n):=by
 have e:nats n=[0,1]++(List.range (n-2)).map fun i:Nat=>(2+(i:Int)):=by
  obtain ⟨m,rfl⟩:∃ m,n=m+2:=⟨n-2,by omega⟩
  show (List.range (m+2)).map _=0 :: 1 :: (List.range m).map _
  rw [List.range_succ_eq_map,List.map_cons,List.range_succ_eq_map,List.map_cons,List.map_cons,List.map_map,List.map_map]
  refine congrArg (fun l:List Int=>(0:Int) :: (1:Int) :: l) (List.map_congr_left fun i _=>?_)
  simp only [Function.comp]
  omega
 rw [e]
 exact h.append_left _
end Wd
namespace My
open PySem L2 Mth
theorem same_new {H:Hp} {p:Addr} (h:H p=none) (o:HO):Same H (upd H p o):=fun b u q=>by rw [upd_ne (ne_of_none q h)]; exact q
def SameB (x:Addr) (H H':Hp):Prop:=∀ b o,b≠x->H b=some o->H' b=some o
theorem SameB.refl (x:Addr) (H:Hp):SameB x H H:=fun _ _ _ h=>h
theorem SameB.put {x:Addr} {H H':Hp} (h:SameB x H H') (o:HO):SameB x H (upd H' x o):=fun b u n q=>by rw [upd_ne n]; exact h b u n q
theorem SameB.trans {x:Addr} {H H1 H2:Hp} (a:SameB x H H1) (b:SameB x H1 H2):SameB x H H2:=fun c o n h=>b c o n (a c o n h)
theorem _root_.L2.Same.b {x:Addr} {H H':Hp} (h:Same H H'):SameB x H H':=fun b o _ q=>h b o q
theorem SameB.same {x:Addr} {H0 H H':Hp} (h:SameB x H H') (s:Same H0 H) (n:H0 x=none):Same H0 H':=fun b o q=>h b o (ne_of_none q n) (s b o q)
theorem SameB.one {x:Addr} {H:Hp} {o:HO}:SameB x H (upd H x o):=(SameB.refl x H).put o
theorem _root_.L2.Same.up {x:Addr} {H0 H:Hp} (s:Same H0 H) (n:H0 x=none) (o:HO):Same H0 (upd H x o):=SameB.one.same s n
theorem iteNN {c A B:Prop} [Decidable c] (hc:¬ c) (h:A):if (!decide c)=true then A else B:=by
 rw [decide_eq_false hc]
 exact iteT h
theorem iteDT {c A B:Prop} [Decidable c] (hc:c) (h:A):if decide c=true then A else B:=by
 rw [decide_eq_true hc]
 exact iteT h
theorem iteDF {c A B:Prop} [Decidable c] (hc:¬ c) (h:B):if decide c=true then A else B:=by
 rw [decide_eq_false hc]
 exact iteF h
theorem iv {a b:Int} (h:a=b):V.int a=V.int b:=by rw [h]
theorem ivn {a b:Int} (h:a≠b):¬ V.int a=V.int b:=fun z=>h (V.int.inj z)
theorem szl {n:Nat} (h:n≤100000):n<sizeLine:=by rw [sizeLine_eq]; omega
abbrev kvI (L:List (Int×Int)):List (Key×V):=L.map fun p=>(Sum.inl p.1,V.int p.2)
theorem val_kvI (e:Int):∀ L:List (Int×Int),valV (kvI L) (Sum.inl e:Key)=(lk L e).map V.int
 | []=>rfl
 | p :: L=>by
  show valV ((Sum.inl p.1,V.int p.2) :: kvI L) (Sum.inl e:Key)=_
  by_cases h:p.1=e
  ·rw [valV_pos (p:=((Sum.inl p.1:Key),V.int p.2)) (by rw [h])]
   unfold lk
   rw [List.find?_cons_of_pos (by simpa using h)]
   rfl
  ·rw [valV_neg (p:=((Sum.inl p.1:Key),V.int p.2)) (fun z=>h (Sum.inl.inj z)),val_kvI e L]
   unfold lk
   rw [List.find?_cons_of_neg (by simpa using h)]
theorem put_new {kvs:List (Key×V)} {k:Key} {v:V} (h:valV kvs k=none):putK kvs k v=kvs++[(k,v)]:=by
 unfold putK
 rw [valV_any,h]
 rfl
theorem put_kvI {L:List (Int×Int)} {e v:Int} (h:e∉L.map (·.1)):putK (kvI L) (Sum.inl e:Key) (.int v)=kvI (L++[(e,v)]):=by
 rw [put_new (by rw [val_kvI,lk_none h]; rfl)]
 simp
abbrev kvT (l:List Int):List (Key×V):=l.map fun e=>(Sum.inl e,V.bl true)
theorem val_kvT (e:Int):∀ l:List Int,valV (kvT l) (Sum.inl e:Key)=if e∈l then some (V.bl true) else none
 | []=>rfl
 | p :: L=>by
  show valV ((Sum.inl p,V.bl true) :: kvT L) (Sum.inl e:Key)=_
  by_cases h:p=e
  ·rw [valV_pos (p:=((Sum.inl p:Key),V.bl true)) (by rw [h]),if_pos (by simp [h])]
  ·rw [valV_neg (p:=((Sum.inl p:Key),V.bl true)) (fun z=>h (Sum.inl.inj z)),val_kvT e L]
   have:e∈p :: L↔e∈L:=by simp [Ne.symm h]
   by_cases q:e∈L
   ·rw [if_pos q,if_pos (this.mpr q)]
   ·rw [if_neg q,if_neg fun z=>q (this.mp z)]
theorem put_kvT {l:List Int} {e:Int} (h:e∉l):putK (kvT l) (Sum.inl e:Key) (.bl true)=kvT (l++[e]):=by
 rw [put_new (by rw [val_kvT,if_neg h])]
 simp
theorem get_kvI {H:Hp} {d:Addr} {L:List (Int×Int)} {e v:Int} (h:H d=some (.dK (kvI L))) (q:lk L e=some v):DGet H d (.int e) (some (.int v)):=by
 have:=DGet.k (k:=Sum.inl e) h
 rw [val_kvI,q] at this
 exact this
def TsA (H:Hp) (a:Addr) (bs:List Addr) (ts:List (List Int)):Prop :=
 H a=some (.tup (bs.map V.ref))∧bs.length=ts.length∧∀ (i:Nat) (b:Addr) (row:List Int),bs[i]?=some b->ts[i]?=some row->H b=some (.tup (row.map V.int))
theorem TsA.keep {H H':Hp} {a:Addr} {bs:List Addr} {ts:List (List Int)} (h:TsA H a bs ts) (s:Same H H'):TsA H' a bs ts :=
 ⟨s _ _ h.1,h.2.1,fun i b row e1 e2=>s _ _ (h.2.2 i b row e1 e2)⟩
theorem t3_0 (x y z:V):atI [x,y,z] 0=some x:=atI_nat (j:=0) rfl
theorem t3_1 (x y z:V):atI [x,y,z] 1=some y:=atI_nat (j:=1) rfl
theorem t3_2 (x y z:V):atI [x,y,z] 2=some z:=atI_nat (j:=2) rfl
theorem at0 {x y:V}:atI [x,y] 0=some x:=atI_nat (j:=0) rfl
theorem at1 {x y:V}:atI [x,y] 1=some y:=atI_nat (j:=1) rfl
theorem cut_take (xs:List V) {j:Nat} (h:j≤xs.length):cutV xs none (some (j:Int))=xs.take j:=by
 unfold cutV
 have e1:HT.sIx xs.length 0 none=0:=rfl
 have e2:HT.sIx xs.length xs.length (some (j:Int))=j:=by simp [HT.sIx]; rw [if_neg (by omega)]; omega
 rw [e1,e2]; simp
theorem cut_drop (xs:List V) {j:Nat} (h:j≤xs.length):cutV xs (some (j:Int)) none=xs.drop j:=by
 unfold cutV
 have e1:HT.sIx xs.length 0 (some (j:Int))=j:=by simp [HT.sIx]; rw [if_neg (by omega)]; omega
 have e2:HT.sIx xs.length xs.length none=xs.length:=rfl
 rw [e1,e2,List.take_of_length_le]; simp
theorem szle {n:Nat} (h:n≤100000):n≤sizeLine:=Nat.le_of_lt (szl h)
theorem sIx_nat {n j d:Nat} (h:j≤n):HT.sIx n d (some (j:Int))=j:=by simp [HT.sIx]; rw [if_neg (by omega)]; omega
def IntsT (H:Hp) (b:Addr) (ns:List Int):Prop:=H b=some (.tup (ns.map V.int))
theorem mo_intsT:Mo IntsT:=fun s h=>s _ _ h
theorem IntsT.del {H:Hp} {a b:Addr} {t:List Int} {ys:List V} (h:IntsT H b t) (e:H a=some (.lst ys)):IntsT (del H a) b t:=del_at h fun z=>by rw [z] at h; unfold IntsT at h; rw [e] at h; cases h
theorem ixN_nat' {n j:Nat} (h:j<n):ixN n ((j:Nat):Int)=some j:=by unfold ixN; rw [if_pos (by omega),if_pos (by omega)]; simp
abbrev ScA (K:PySem.W.Frag) (H:Hp) (a:Addr) (ns:List Int):Prop:=SqL K H a (ns.map V.int)∧ns.length≤63
end My
namespace My
open PySem
def top (i:Nat):Stmt:=PySem.Challenge.pw_currentfloor_k16_whole_between_and_easie.main.body.getD i (.Pass ⟨0,0,0,0⟩)
abbrev sLInit:Stmt:=L2.inClass (top 3) 0
abbrev sCommon:Stmt:=top 7
abbrev sFraction:Stmt:=top 8
abbrev sPlus:Stmt:=top 9
abbrev sMinus:Stmt:=top 10
abbrev sTimes:Stmt:=top 11
abbrev sCBot:Stmt:=top 12
abbrev sWholes:Stmt:=top 13
abbrev sLed:Stmt:=top 15
abbrev sSweptRow:Stmt:=top 16
abbrev sSwept:Stmt:=top 17
abbrev sBack:Stmt:=top 18
abbrev sAnswer:Stmt:=top 19
abbrev sEaseTable:Stmt:=top 21
abbrev sPoleless:Stmt:=top 22
abbrev sHeights:Stmt:=top 23
abbrev sFallOf:Stmt:=top 24
abbrev sRunBy:Stmt:=top 25
abbrev sRunnings:Stmt:=top 26
abbrev sEaseOf:Stmt:=top 27
abbrev s_is_ease:Stmt:=top 29
abbrev s_led_to:Stmt:=top 30
abbrev s_check_hanging:Stmt:=top 31
abbrev s_begun_least:Stmt:=top 32
abbrev s_told_turns:Stmt:=top 33
abbrev s_check_rope_number:Stmt:=top 34
abbrev s_eased:Stmt:=top 35
abbrev s_turn_without:Stmt:=top 36
abbrev s_taken_out:Stmt:=top 37
abbrev sCellAt:Stmt:=top 39
abbrev sLow:Stmt:=top 40
abbrev sLAdd:Stmt:=top 41
abbrev sLTake:Stmt:=top 42
abbrev sLEase:Stmt:=top 44
abbrev sSpot:Stmt:=top 45
abbrev sNext:Stmt:=top 46
abbrev sPut:Stmt:=top 47
abbrev sGrow:Stmt:=top 48
abbrev s_law_order:Stmt:=top 49
abbrev s_law_named:Stmt:=top 50
abbrev sNet:Stmt:=top 51
abbrev sSomeNet:Stmt:=top 52
abbrev s_law_grew:Stmt:=top 53
abbrev s_law_without:Stmt:=top 54
abbrev sLaw:Stmt:=top 55
end My
namespace My
open PySem L2 Mth
section
variable {P:Program} {w:World} {K:PySem.W.Frag} {mg:Str->Option Value} {base:Heap}
inductive SpGcdR (vs:List V) (H:Hp) (Q:VK):Prop
 | mk (a b:Int) (h_0:vs=[.int a,.int b]) (h_1:Q (.int (Int.gcd a b:Int)) H):SpGcdR vs H Q
def spGcd:Sp:=fun vs H Q _=>SpGcdR vs H Q
theorem abs_gcd {x:Int} {n:Nat} (h:Int.gcd x 0=n):(if x<0 then -x else x)=(n:Int):=by
 rw [←h,Int.gcd_zero_right]
 split <;> omega
theorem scCP:FnScope ["one","other","rest"] ["one","other"] (defScope sCommon):=⟨rfl,rfl,rfl,by decide +kernel,rfl,by decide +kernel,by decide +kernel⟩
theorem ok_common {f:Addr} {fd:FuncData} (F:Fun K "common_part" "common_part" sCommon f fd) (ma:mg "abs" = none):FnOk P w K mg base CX0 1 f fd ["one","other"] spGcd:=by
 refine F.ok scCP (fun vs H Q E h=>?_) (fun cdv A outer s H vs Q E hr h=>?_)
 ·obtain ⟨a,b,rfl,_⟩:=h
  rfl
 obtain ⟨a,b,rfl,q⟩:=h
 refine ⟨_,pss_cons (ps_while PassesOwn.never (pt_cmpR op_ne (pv 1) pe_int (nomark _))
   (pss_cons (ps_set (i:=2) scCP.nd rfl (Or.inl rfl) (pe_op op_modN (pv 0) (pv 1)))
   (pss_cons (ps_set (i:=0) scCP.nd rfl (Or.inl rfl) (pv 1))
   (pss_one (ps_set (i:=1) scCP.nd rfl (Or.inl rfl) (pv 2))))))
  (pss_one (ps_ret (pe_callB call_abs (by rfl) ma PyProof.Rows.boot_abs (pa_cons (pv 0) pa_nil)))),?_⟩
 refine while_by (fun σ H2=>∃ x y r,σ=[some (.int x),some (.int y),r]∧H2=H∧Int.gcd x y=Int.gcd a b) (fun σ _=>match σ with | [_,some (.int y),_]=>y.natAbs | _=>0) ⟨a,b,none,rfl,rfl,rfl⟩ ?_ ?_
 ·rintro σ H2 ⟨x,y,r,rfl,rfl,g⟩
  refine ⟨_,rfl,rfl,_,rfl,?_⟩
  by_cases hy:y=0
  ·refine iteNS (iv hy) ?_
   subst hy
   refine ⟨_,rfl,x,rfl,?_⟩
   rw [abs_gcd g]
   exact q
  ·refine iteNN (ivn hy) ?_
   exact ⟨_,rfl,_,rfl,_,_,rfl,rfl,hy,_,rfl,_,rfl,⟨y,x.fmod y,some (.int (x.fmod y)),rfl,rfl,(gcd_fmod x y).trans g⟩,fmod_lt x y hy⟩
 ·rintro σ H2 Q1 Q2 hq ⟨v,e,sc,b,eb,z⟩
  exact ⟨v,e,sc,b,eb,hq _ _ z⟩
theorem ps_never {X:Cx} {st:Stmt}:PS X st (fun _ _ _=>False):=by
 intro pins s σ H D I h
 exact False.elim h
inductive SpFracR (C:Addr) (vs:List V) (H:Hp) (Q:VK) (E:XK):Prop
 | mk (t b:Int) (h_0:vs=[.int t,.int b]) (h_1:Big b) (h_2:(b=0->False)) (h_3:(b≠0->∀ p,H p=none->Q (.ref p) (upd H p (.tup [.int (frac t b).1,.int (frac t b).2])))):SpFracR C vs H Q E
def spFrac (C:Addr):Sp:=fun vs H Q E=>SpFracR C vs H Q E
theorem scF:FnScope ["top","bottom","part"] ["top","bottom"] (defScope sFraction):=⟨rfl,rfl,rfl,by decide +kernel,rfl,by decide +kernel,by decide +kernel⟩
theorem ok_fraction {f g C:Addr} {fd gd:FuncData} (F:Fun K "fraction" "fraction" sFraction f fd) (G:FnOk P w K mg base CX0 1 g gd ["one","other"] spGcd) (bG:Binds K gd ["one","other"] []) (kG:PySem.W.keepIn K (.ref g)=true) (mG:mg "common_part" = some (.ref g)):FnOk P w K mg base CX0 2 f fd ["top","bottom"] (spFrac C):=by
 refine F.ok scF (fun vs H Q E h=>?_) (fun cdv A outer s H vs Q E hr h=>?_)
 ·obtain ⟨a,b,rfl,_⟩:=h
  rfl
 obtain ⟨t,b,rfl,hb,h0,h1⟩:=h
 refine ⟨_,pss_cons (ps_if (pt_cmpR op_eq (pv 1) pe_int (nomark _)) (pss_one ps_never) pss_nil)
  (pss_cons (ps_set (i:=2) scF.nd rfl (Or.inl rfl) (pe_call (CX:=CX0) G hr (by rfl) mG kG bG .nil (pass0 (X:=_)) (pa_cons (pv 0) (pa_cons (pv 1) pa_nil))))
  (pss_cons (ps_if (pt_cmpR op_lt (pv 1) pe_int (nomark _)) (pss_one (ps_set (i:=2) scF.nd rfl (Or.inl rfl) (pe_un un_neg (pv 2)))) pss_nil)
  (pss_one (ps_ret (pe_tup (pa_cons (pe_op op_fdivB (pv 0) (pv 2)) (pa_cons (pe_op op_fdivB (pv 1) (pv 2)) pa_nil))))))),?_⟩
 refine ⟨_,rfl,rfl,_,rfl,?_⟩
 by_cases hz:b=0
 ·refine iteDT (iv hz) ?_
  exact (h0 hz).elim
 refine iteDF (ivn hz) ?_
 refine ⟨_,rfl,_,rfl,t,b,rfl,?_⟩
 refine ⟨_,rfl,_,_,rfl,rfl,_,rfl,?_⟩
 have fin:∀ part,part=Mth.part t b->tRet (tTup (tCons (tOp (rI CDivB fun i j=>V.int (i.fdiv j)) (tVar 0) (tVar 2)) (tCons (tOp (rI CDivB fun i j=>V.int (i.fdiv j)) (tVar 1) (tVar 2)) tNil)))
   { nx:=fun _ H'=>Q .non H',rt:=Q } [some (.int t),some (.int b),some (.int part)] H:=by
  rintro part rfl
  have hp:CDivB t (Mth.part t b):=⟨part_ne t b hz,Nat.lt_of_le_of_lt (part_le t b hz) hb⟩
  exact ⟨_,rfl,_,rfl,_,_,rfl,rfl,hp,_,rfl,_,rfl,_,_,rfl,rfl,hp,by show 2≤sizeLine; decide,h1 hz⟩
 by_cases hn:b<0
 ·refine iteDT hn ?_
  exact ⟨_,rfl,_,rfl,fin _ (by unfold Mth.part; rw [if_pos hn])⟩
 ·refine iteDF hn ?_
  exact fin _ (by unfold Mth.part; rw [if_neg hn])
end
end My
namespace My
open PySem L2 Mth Wd
theorem same_up {x:Addr} {H0 H:Hp} (s:Same H0 H) (n:H0 x=none) (o:HO):Same H0 (upd H x o):=fun b u q=>by rw [upd_ne (ne_of_none q n)]; exact s b u q
theorem big2 {i:Int} {n:Nat} (h:i.natAbs≤2 ^ n) (hn:n<8000):Big i:=Nat.lt_of_le_of_lt h (Nat.pow_lt_pow_right (by decide) hn)
theorem ints_at {ns:List Int} {i:Nat} {v:V} (h:(ns.map V.int)[i]?=some v):∃ e,v=.int e∧ns[i]?=some e:=by
 rw [List.getElem?_map] at h
 cases q:ns[i]? with
 | none=>rw [q] at h; cases h
 | some e=>rw [q] at h; exact ⟨e,(Option.some.inj h).symm,rfl⟩
theorem at_ints {ns:List Int} {i:Nat} (h:i<ns.length):atI (ns.map V.int) (i:Int)=some (.int (ns.getD i 0)):=by
 refine atI_nat ?_
 rw [List.getElem?_map,List.getElem?_eq_getElem h,List.getD_eq_getElem?_getD,List.getElem?_eq_getElem h]; rfl
theorem take_succ_of {α:Type} {xs:List α} {i:Nat} {x:α} (h:xs[i]?=some x):xs.take (i+1)=xs.take i++[x]:=by
 rw [List.take_add_one,h]; rfl
section
variable {P:Program} {w:World} {K:PySem.W.Frag} {mg:Str->Option Value} {base:Heap} {f g h C:Addr} {fd gd hd:FuncData}
inductive SpCBR (vs:List V) (H:Hp) (Q:VK):Prop
 | mk (a:Addr) (qs:List Rat) (d:Nat) (h_0:vs=[.ref a]) (h_1:TupR FrR H a qs) (h_2:(∀ q∈qs,q.den≤2 ^ d)) (h_3:d*qs.length+d<8000) (h_4:Q (.int (cb qs)) H):SpCBR vs H Q
def spCB:Sp:=fun vs H Q _=>SpCBR vs H Q
theorem scCB:FnScope ["row","common","one"] ["row"] (defScope sCBot):=⟨rfl,rfl,rfl,by decide +kernel,rfl,by decide +kernel,by decide +kernel⟩
theorem ok_cbot (F:Fun K "common_bottom" "common_bottom" sCBot f fd) (G:FnOk P w K mg base CX0 1 g gd ["one","other"] spGcd) (bG:Binds K gd ["one","other"] []) (kG:PySem.W.keepIn K (.ref g)=true) (mG:mg "common_part" = some (.ref g)) :
  FnOk P w K mg base CX0 2 f fd ["row"] spCB:=by
 refine F.ok scCB (fun vs H Q E h=>?_) (fun cdv A outer s H vs Q E hr h=>?_)
 ·obtain ⟨a,qs,d,rfl,_⟩:=h
  rfl
 obtain ⟨a,qs,d,rfl,⟨bs,ha,hA⟩,hd,hsz,q⟩:=h
 refine ⟨_,pss_cons (ps_set (i:=1) scCB.nd rfl (Or.inl rfl) pe_int)
  (pss_cons (ps_for PassesOwn.never rfl (pi_tup (pv 0)) (pg_name (i:=2) scCB.nd rfl (Or.inl rfl))
   (pss_one (ps_set (i:=1) scCB.nd rfl (Or.inl rfl) (pe_op op_mulB (pe_op op_fdivB (pv 1) (pe_call G hr (by rfl) mG kG bG .nil pass0 (pa_cons (pv 1) (pa_cons (pe_ix ix_tup (pv 2) pe_int (fun _ _=>rfl)) pa_nil)))) (pe_ix ix_tup (pv 2) pe_int (fun _ _=>rfl))))))
  (pss_one (ps_ret (pv 1)))),?_⟩
 refine ⟨_,rfl,a,rfl,⟨_,SqT.of ha⟩,?_⟩
 refine for_tup (xs:=bs.map V.ref) (fun i σ H2=>∃ u,H2=H∧σ=[some (.ref a),some (.int ((qs.take i).foldl cb1 1)),u]) ⟨none,rfl,rfl⟩ (fun i σ H2 _ ⟨_,e,_⟩=>by rw [e]; exact SqT.of ha) ?_ ?_
 ·rintro i x σ H2 hx ⟨u,rfl,rfl⟩
  obtain ⟨b,y,rfl,_,hy,hB⟩:=hA.ref hx
  have hi:i<qs.length:=(List.getElem?_eq_some_iff.mp hy).1
  have ym:y∈qs:=List.mem_of_getElem? hy
  obtain ⟨c1,c2,c3,c4⟩:=cb_ok (qs.take i) (c:=1) (D:=0) (d:=d) (by decide) (by decide) (fun p hp=>hd p (List.mem_of_mem_take hp))
  generalize hc:(qs.take i).foldl cb1 1=c at *
  have lt:(qs.take i).length≤qs.length:=by simp; omega
  have mle:d*(qs.take i).length≤d*qs.length:=Nat.mul_le_mul_left d lt
  have hdn:y.den≤2 ^ d:=hd y ym
  have hg0:(Int.gcd c y.den:Int)≠0:=by have:=Int.gcd_pos_of_ne_zero_left (y.den:Int) (show c≠0 by omega); omega
  have hgb:Big (Int.gcd c y.den:Int):=by
   refine big2 (n:=d) ?_ (by omega)
   rw [Int.natAbs_natCast]
   refine Nat.le_trans (Nat.le_of_dvd ?_ (Int.ofNat_dvd_left.mp (Int.gcd_dvd_right c (y.den:Int)))) ?_
   ·have:=y.den_nz; omega
   ·simpa using hdn
  have hb1:Big (c.fdiv (Int.gcd c y.den:Int)):=by
   refine big2 (n:=0+d*(qs.take i).length) (Nat.le_trans ?_ c4) (by omega)
   rw [Int.fdiv_eq_ediv_of_dvd (Int.gcd_dvd_left c _)]
   exact Int.natAbs_ediv_le_natAbs c _
  have hb2:Big (y.den:Int):=big2 (n:=d) (by simpa using hdn) (by omega)
  refine ⟨_,rfl,_,rfl,_,rfl,b,_,_,_,rfl,rfl,SqT.of hB,at1,c,y.den,rfl,_,_,rfl,rfl,⟨hg0,hgb⟩,_,rfl,b,_,_,_,rfl,rfl,SqT.of hB,at1,_,_,rfl,rfl,⟨hb1,hb2⟩,?_⟩
  refine ⟨some (.ref b),rfl,?_⟩
  rw [take_succ_of hy,List.foldl_append]
  show _=[some (V.ref a),some (.int (cb1 ((qs.take i).foldl cb1 1) y)),some (.ref b)]
  rw [hc]; rfl
 ·rintro σ H2 ⟨u,rfl,rfl⟩
  refine ⟨_,rfl,?_⟩
  rw [List.length_map,hA.1,List.take_length]
  exact q
inductive SpWholesR (vs:List V) (H:Hp) (Q:VK):Prop
 | mk (a:Addr) (qs:List Rat) (b:Int) (h_0:vs=[.ref a,.int b]) (h_1:TupR FrR H a qs) (h_2:qs.length≤1000) (h_3:(∀ q∈qs,Big q.num∧Big (q.den:Int)∧Big (b.fdiv q.den))) (h_4:∀ p H',Same H H'->H p=none->IntsL H' p (qs.map (wh b))->Q (.ref p) H'):SpWholesR vs H Q
def spWholes:Sp:=fun vs H Q _=>SpWholesR vs H Q
theorem scWs:FnScope ["row","bottom"] ["row","bottom"] (defScope sWholes):=⟨rfl,rfl,rfl,by decide +kernel,rfl,by decide +kernel,by decide +kernel⟩
theorem ndWs:(["one","bottom"]:List Str).Nodup:=by decide +kernel
theorem ok_wholes (F:Fun K "wholes" "wholes" sWholes f fd):FnOk P w K mg base CX0 1 f fd ["row","bottom"] spWholes:=by
 refine F.ok scWs (fun vs H Q E h=>?_) (fun cdv A outer s H vs Q E hr h=>?_)
 ·obtain ⟨a,qs,b,rfl,_⟩:=h
  rfl
 obtain ⟨a,qs,b,rfl,⟨bs,ha,hA⟩,hn,hsz,q⟩:=h
 refine ⟨_,pss_one (ps_ret (pe_comp (Nc:=["one","bottom"]) (cap:=[(1,1)]) (g:=gName 0) (te:=tOp (rI CMulB fun i j=>.int (i*j)) (tOp (rIxT K) (tVar 0) (tC (.int 0))) (tOp (rI CDivB fun i j=>.int (i.fdiv j)) (tVar 1) (tOp (rIxT K) (tVar 0) (tC (.int 1))))) rfl (pi_tup (pv 0))
   (comp_mk rfl rfl (by decide +kernel) (by decide +kernel) (List.forall_mem_cons.mpr ⟨⟨rfl,rfl⟩,List.forall_mem_nil _⟩) rfl (List.forall_mem_cons.mpr ⟨⟨_,_,rfl,rfl,rfl,rfl,rfl⟩,List.forall_mem_nil _⟩))
   (fun C fp pins s' H'=>pg_name (i:=0) ndWs rfl (Or.inl rfl)) (fun C fp pins s' H'=>pe_op op_mulB (pe_ix ix_tup (pv 0) pe_int (fun _ _=>rfl)) (pe_op op_fdivB (pv 1) (pe_ix ix_tup (pv 0) pe_int (fun _ _=>rfl)))))),?_⟩
 refine ⟨_,rfl,a,rfl,⟨_,SqT.of ha⟩,fun acc hacc=>?_⟩
 refine comp_run (run_tup ha) (by rw [List.length_map,hA.1]; exact hn) hacc (fun i ys σ _=>ys=((qs.take i).map (wh b)).map V.int∧∃ u,σ=[u,some (.int b)]) ⟨rfl,none,rfl⟩ ?_ ?_
 ·rintro i ys σ H2 x H3 hi sm hacc2 ⟨hys,u,rfl⟩ ⟨rfl,hx⟩ C hC
  obtain ⟨c,y,rfl,_,hy,hB⟩:=hA.ref hx
  obtain ⟨s1,s2,s3⟩:=hsz y (List.mem_of_getElem? hy)
  have hB3:=mo_fr sm hB
  have yd:=y.den_nz
  refine ⟨_,rfl,c,_,_,_,rfl,rfl,SqT.of hB3,at0,_,rfl,_,rfl,c,_,_,_,rfl,rfl,SqT.of hB3,at1,_,_,rfl,rfl,⟨by omega,s2⟩,_,_,rfl,rfl,⟨s1,s3⟩,?_⟩
  refine hC _ _ _ (Same.refl _) ⟨?_,_,rfl⟩
  rw [hys,take_succ_of hy,List.map_append,List.map_append]; rfl
 ·rintro ys σ H2 sm ha2 hl ⟨hys,_⟩
  refine q acc H2 sm hacc ?_
  rw [List.length_map,hA.1,List.take_length] at hys
  unfold IntsL
  rw [ha2,hys]
inductive SpLedR (vs:List V) (H:Hp) (Q:VK):Prop
 | mk (a:Addr) (R:List (List Int)) (k m:Nat) (h_0:vs=[.ref a,.int k]) (h_1:LstR IntsL H a R) (h_2:k<R.length) (h_3:R.length≤1000) (h_4:(∀ r∈R,r.length=m)) (h_5:k<m) (h_6:m≤1000) (h_7:((∀ i,k≤i->i<R.length->(R.getD i []).getD k 0=0)->Q .non H)) (h_8:∀ i p H',k≤i->i<R.length->(R.getD i []).getD k 0≠0->Same H H'->H p=none->LstR IntsL H' p (ledR R k i)->Q (.ref p) H'):SpLedR vs H Q
def spLed:Sp:=fun vs H Q _=>SpLedR vs H Q
theorem scLe:FnScope ["rows","k","place","exchanged"] ["rows","k"] (defScope sLed):=⟨rfl,rfl,rfl,by decide +kernel,rfl,by decide +kernel,by decide +kernel⟩
theorem ndNu:(["number"]:List Str).Nodup:=by decide +kernel
theorem getD_some {α:Type} {xs:List α} {i:Nat} {x d:α} (h:xs[i]?=some x):xs.getD i d=x:=by rw [List.getD_eq_getElem?_getD,h]; rfl
theorem bt_list:bootBuiltins "list" = some (.type "list"):=by decide +kernel
theorem ixN_nat {n j:Nat} (h:j<n):ixN n (j:Int)=some j:=by
 unfold ixN
 rw [if_pos (by omega),if_pos (by omega)]; simp
theorem ok_led (F:Fun K "led" "led" sLed f fd) (ml:mg "len" = none) (mr:mg "range" = none) (mli:mg "list" = none):FnOk P w K mg base CX0 1 f fd ["rows","k"] spLed:=by
 refine F.ok scLe (fun vs H Q E h=>?_) (fun cdv A outer s H vs Q E hr h=>?_)
 ·obtain ⟨a,R,k,m,rfl,_⟩:=h
  rfl
 obtain ⟨a,R,k,m,rfl,⟨bs,ha,hA⟩,hk,hR,hm,hkm,hm1,qn,qs⟩:=h
 refine ⟨_,pss_cons (ps_for PassesOwn.never rfl (pi_range2 (by rfl) mr (pa_cons (pv 1) (pa_cons (pe_callB call_len_seq (by rfl) ml bt_len (pa_cons (pv 0) pa_nil)) pa_nil))) (pg_name (i:=2) scLe.nd rfl (Or.inl rfl))
   (pss_one (ps_if (pt_cmpR op_ne (pe_ix ix_list (pe_ix ix_list (pv 0) (pv 2) (fun _ _=>rfl)) (pv 1) (fun _ _=>rfl)) pe_int (nomark _))
    (pss_cons (ps_set (i:=3) scLe.nd rfl (Or.inl rfl) (pe_callTy call_list_of (by rfl) mli bt_list (pa_cons (pv 0) pa_nil)))
    (pss_cons (ps_if (pt_cmpR op_ne (pv 2) (pv 1) (nomark _))
     (pss_cons (ps_asg (pe_ix ix_list (pv 0) (pv 2) (fun _ _=>rfl)) (pg_sub (pv 3) (pv 1) set_list))
     (pss_one (ps_asg (pe_comp (Nc:=["number"]) (cap:=[]) (g:=gName 0) (te:=tUn (rU fun i=>.int (-i)) (tVar 0)) rfl (pi_list (pe_ix ix_list (pv 0) (pv 1) (fun _ _=>rfl)))
      (comp_mk rfl rfl (by decide +kernel) (by decide +kernel) (List.forall_mem_nil _) rfl (List.forall_mem_nil _)) (fun C fp pins s' H'=>pg_name (i:=0) ndNu rfl (Or.inl rfl)) (fun C fp pins s' H'=>pe_un un_neg (pv 0))) (pg_sub (pv 3) (pv 2) set_list)))) pss_nil)
    (pss_one (ps_ret (pv 3))))) pss_nil)))
  (pss_one (ps_ret pe_non)),?_⟩
 have hbl:bs.length=R.length:=hA.1
 refine ⟨_,rfl,_,rfl,a,_,rfl,.inl (SqL.of ha),_,_,rfl,⟨by omega,by omega,by rw [List.length_map]; omega,by rw [List.length_map]; omega⟩,?_⟩
 rw [List.length_map,show ((bs.length:Int)-(k:Int)).toNat=R.length-k by omega]
 refine for_range (n:=R.length-k) (fun i σ H2=>H2=H∧(∃ u v,σ=[some (.ref a),some (.int k),u,v])∧∀ j,k≤j->j<k+i->(R.getD j []).getD k 0=0) ⟨rfl,⟨none,none,rfl⟩,fun j h1 h2=>by omega⟩ ?_ ?_
 ·rintro i σ H2 hi ⟨rfl,⟨u,v,rfl⟩,hz⟩
  have hki:k+i<R.length:=by omega
  have ei:R[k+i]?=some R[k+i]:=List.getElem?_eq_getElem hki
  obtain ⟨b,hb,hB⟩:=hA.get ei
  have rl:R[k+i].length=m:=hm _ (List.getElem_mem hki)
  have gi:R.getD (k+i) []=R[k+i]:=getD_some ei
  have cst:(k:Int)+(i:Int)=((k+i:Nat):Int):=by omega
  refine ⟨_,rfl,_,rfl,a,_,_,_,rfl,rfl,SqL.of ha,by rw [cst]; exact atI_nat (ref_at hb),_,rfl,b,_,_,_,rfl,rfl,SqL.of hB,at_ints (by omega),rfl,_,rfl,?_⟩
  by_cases hv:R[k+i].getD k 0=0
  ·refine iteNS (iv hv) ⟨rfl,⟨_,_,rfl⟩,fun j h1 h2=>?_⟩
   rcases Nat.lt_or_ge j (k+i) with h3 | h3
   ·exact hz j h1 h3
   ·obtain rfl:j=k+i:=by omega
    rw [gi]; exact hv
  ·refine iteNN (ivn hv) ?_
   refine ⟨_,rfl,a,_,rfl,.inl (SqL.of ha),fun l hl=>?_⟩
   refine ⟨_,rfl,_,rfl,rfl,_,rfl,?_⟩
   by_cases hi0:i=0
   ·subst hi0
    refine iteNS (iv (by omega)) ?_
    refine ⟨_,rfl,qs (k+0) l _ (by omega) hki (by rw [gi]; exact hv) (same_new hl _) hl ?_⟩
    unfold ledR
    rw [if_pos (by omega)]
    exact ⟨bs,upd_same,hA.keep mo_ints (same_new hl _)⟩
   ·refine iteNN (ivn (by omega)) ?_
    have ek:R[k]?=some R[k]:=List.getElem?_eq_getElem hk
    obtain ⟨c,hc,hCk⟩:=hA.get ek
    have gk:R.getD k []=R[k]:=getD_some ek
    have al:a≠l:=ne_of_none ha hl
    have s1:Same H2 (upd H2 l (.lst (bs.map V.ref))):=same_new hl _
    refine ⟨_,rfl,_,rfl,a,_,_,_,rfl,rfl,SqL.of (s1 _ _ ha),by rw [cst]; exact atI_nat (ref_at hb),_,rfl,_,rfl,l,_,_,_,rfl,rfl,upd_same,ixN_nat (j:=k) (by rw [List.length_map]; omega),?_⟩
    have s2:Same H2 (upd (upd H2 l (.lst (bs.map V.ref))) l (.lst ((bs.map V.ref).set k (.ref b)))):=same_up s1 hl _
    refine ⟨_,rfl,_,rfl,a,_,_,_,rfl,rfl,SqL.of (s2 _ _ ha),atI_nat (ref_at hc),c,rfl,⟨_,SqL.of (s2 _ _ hCk)⟩,fun acc hacc=>?_⟩
    have hCk2:=s2 _ _ hCk
    generalize hH3:upd (upd H2 l (.lst (bs.map V.ref))) l (.lst ((bs.map V.ref).set k (.ref b)))=H3 at *
    have hl3:H3 l=some (.lst ((bs.map V.ref).set k (.ref b))):=by rw [←hH3]; exact upd_same
    have rk:R[k].length=m:=hm _ (List.getElem_mem hk)
    refine comp_run (run_list hCk2) (by rw [List.length_map]; omega) hacc (fun j ys σ _=>ys=((R[k].take j).map fun x=>-x).map V.int∧∃ u,σ=[u]) ⟨rfl,none,rfl⟩ ?_ ?_
    ·rintro j ys σ H4 x H5 hj sm hacc2 ⟨hys,u4,rfl⟩ ⟨rfl,hx⟩ C hC
     obtain ⟨e,rfl,he⟩:=ints_at hx
     refine ⟨_,rfl,_,rfl,hC _ _ _ (Same.refl _) ⟨?_,_,rfl⟩⟩
     rw [hys,take_succ_of he,List.map_append,List.map_append]; rfl
    ·rintro ys σ H4 sm ha4 hlen ⟨hys,_⟩
     rw [List.length_map,List.take_length] at hys
     refine ⟨_,rfl,_,rfl,l,_,_,_,rfl,rfl,sm _ _ hl3,by rw [cst]; exact ixN_nat (j:=k+i) (by rw [List.length_set,List.length_map]; omega),?_⟩
     have acl:acc≠l:=fun z=>by rw [z,hl3] at hacc; cases hacc
     have s5:Same H2 (upd H4 l (.lst (((bs.map V.ref).set k (.ref b)).set (k+i) (.ref acc)))):=same_up (s2.trans sm) hl _
     refine ⟨_,rfl,qs (k+i) l _ (by omega) hki (by rw [gi]; exact hv) s5 hl ?_⟩
     unfold ledR
     rw [if_neg (by omega),gi,gk]
     refine ⟨(bs.set k b).set (k+i) acc,?_,?_⟩
     ·rw [upd_same,List.map_set,List.map_set]
     ·refine ((hA.keep mo_ints s5).set k (mo_ints s5 hB)).set (k+i) ?_
      show upd H4 l _ acc=_
      rw [upd_ne acl,ha4,hys]
 ·rintro σ H2 ⟨rfl,⟨u,v,rfl⟩,hz⟩
  exact qn fun i h1 h2=>hz i h1 (by omega)
inductive SpSwrR (vs:List V) (H:Hp) (Q:VK):Prop
 | mk (a b:Addr) (row lead:List Int) (k m:Nat) (p:Int) (h_0:vs=[.ref a,.ref b,.int k,.int p]) (h_1:IntsL H a row) (h_2:IntsL H b lead) (h_3:row.length=m) (h_4:lead.length=m) (h_5:k<m) (h_6:m≤1000) (h_7:p≠0) (h_8:Big p) (h_9:(∀ x∈row,Big x)) (h_10:(∀ x∈lead,Big x)) (h_11:∀ q H',Same H H'->H q=none->IntsL H' q (swr row lead k p)->Q (.ref q) H'):SpSwrR vs H Q
def spSwr:Sp:=fun vs H Q _=>SpSwrR vs H Q
theorem scSr:FnScope ["row","lead","k","before"] ["row","lead","k","before"] (defScope sSweptRow):=⟨rfl,rfl,rfl,by decide +kernel,rfl,by decide +kernel,by decide +kernel⟩
theorem ndSr:(["number","other","row","lead","k","before"]:List Str).Nodup:=by decide +kernel
def teSr (K:PySem.W.Frag):TE:=tOp (rI CDivB fun i j=>.int (i.fdiv j)) (tOp (rI0 fun i j=>.int (i-j)) (tOp (rI CMulB fun i j=>.int (i*j)) (tOp (rIxL K) (tVar 3) (tVar 4)) (tVar 0)) (tOp (rI CMulB fun i j=>.int (i*j)) (tOp (rIxL K) (tVar 2) (tVar 4)) (tVar 1))) (tVar 5)
theorem ok_sweptRow (F:Fun K "swept_row" "swept_row" sSweptRow f fd) (mz:mg "zip" = none):FnOk P w K mg base CX0 1 f fd ["row","lead","k","before"] spSwr:=by
 refine F.ok scSr (fun vs H Q E h=>?_) (fun cdv A outer s H vs Q E hr h=>?_)
 ·obtain ⟨a,b,row,lead,k,m,p,rfl,_⟩:=h
  rfl
 obtain ⟨a,b,row,lead,k,m,p,rfl,ha,hb,hr1,hl1,hk,hm,hp,bp,br,bl,q⟩:=h
 refine ⟨_,pss_one (ps_ret (pe_comp (Nc:=["number","other","row","lead","k","before"]) (cap:=[(2,0),(3,1),(4,2),(5,3)]) (g:=gTup K 2 (gCons (gName 0) (gCons (gName 1) gNil))) (te:=teSr K) rfl (pi_zipK (t1:=false) (t2:=false) (by rfl) mz (pa_cons (pv 0) (pa_cons (pv 1) pa_nil)))
   (comp_mk rfl rfl (by decide +kernel) (by decide +kernel) (List.forall_mem_cons.mpr ⟨⟨rfl,rfl⟩,List.forall_mem_cons.mpr ⟨⟨rfl,rfl⟩,List.forall_mem_cons.mpr ⟨⟨rfl,rfl⟩,List.forall_mem_cons.mpr ⟨⟨rfl,rfl⟩,List.forall_mem_nil _⟩⟩⟩⟩) rfl
    (List.forall_mem_cons.mpr ⟨⟨_,_,rfl,rfl,rfl,rfl,rfl⟩,List.forall_mem_cons.mpr ⟨⟨_,_,rfl,rfl,rfl,rfl,rfl⟩,List.forall_mem_cons.mpr ⟨⟨_,_,rfl,rfl,rfl,rfl,rfl⟩,List.forall_mem_cons.mpr ⟨⟨_,_,rfl,rfl,rfl,rfl,rfl⟩,List.forall_mem_nil _⟩⟩⟩⟩))
   (fun C fp pins s' H'=>pg_tup rfl (pgs_cons (pg_name (i:=0) ndSr rfl (Or.inl rfl)) (pgs_cons (pg_name (i:=1) ndSr rfl (Or.inl rfl)) pgs_nil)))
   (fun C fp pins s' H'=>pe_op op_fdivB (pe_op op_sub (pe_op op_mulB (pe_ix ix_list (pv 3) (pv 4) (fun _ _=>rfl)) (pv 0)) (pe_op op_mulB (pe_ix ix_list (pv 2) (pv 4) (fun _ _=>rfl)) (pv 1))) (pv 5)))),?_⟩
 refine ⟨_,rfl,_,rfl,a,b,rfl,⟨_,SqS.l ha⟩,⟨_,SqS.l hb⟩,fun acc hacc=>?_⟩
 refine comp_run (run_zip (xs:=row.map V.int) (ys:=lead.map V.int) (fun H2 s=>SqS.l (s _ _ ha)) (fun H2 s=>SqS.l (s _ _ hb)) (by rw [List.length_map,List.length_map]; omega)) (by rw [List.length_map]; omega) hacc
  (fun i ys σ _=>ys=((swr row lead k p).take i).map V.int∧∃ u v,σ=[u,v,some (.ref a),some (.ref b),some (.int k),some (.int p)]) ⟨rfl,none,none,rfl⟩ ?_ ?_
 ·rintro i ys σ H2 x H3 hi sm hacc2 ⟨hys,u,v,rfl⟩ ⟨t,n1,n2,rfl,ht,rfl,hn1,hn2⟩ C hC
  obtain ⟨x1,rfl,hx1⟩:=ints_at hn1
  obtain ⟨x2,rfl,hx2⟩:=ints_at hn2
  have s3:Same H2 (upd H2 t (.tup [.int x1,.int x2])):=same_new ht _
  have gm:∀ (l:List Int) (j:Nat),j<l.length->(∀ x∈l,Big x)->Big (l.getD j 0):=fun l j hj hb=>by
   rw [List.getD_eq_getElem?_getD,List.getElem?_eq_getElem hj]; exact hb _ (List.getElem_mem hj)
  refine ⟨t,_,rfl,SqT.of upd_same,rfl,_,_,rfl,_,_,rfl,rfl,?_⟩
  refine ⟨_,rfl,_,rfl,b,_,_,_,rfl,rfl,SqL.of (s3 _ _ (sm _ _ hb)),at_ints (by omega),_,rfl,_,_,rfl,rfl,⟨gm _ _ (by omega) bl,br _ (List.mem_of_getElem? hx1)⟩,
   _,rfl,_,rfl,a,_,_,_,rfl,rfl,SqL.of (s3 _ _ (sm _ _ ha)),at_ints (by omega),_,rfl,_,_,rfl,rfl,⟨gm _ _ (by omega) br,bl _ (List.mem_of_getElem? hx2)⟩,_,_,rfl,rfl,_,rfl,_,_,rfl,rfl,⟨hp,bp⟩,?_⟩
  refine hC _ _ _ s3 ⟨?_,_,_,rfl⟩
  have e:(swr row lead k p)[i]?=some ((lead.getD k 0*x1-row.getD k 0*x2).fdiv p):=by
   unfold swr
   rw [List.getElem?_zipWith,hx1,hx2]
  rw [hys,take_succ_of e,List.map_append]; rfl
 ·rintro ys σ H2 sm ha2 hl ⟨hys,_⟩
  refine q acc H2 sm hacc ?_
  rw [List.length_map] at hys
  have:(swr row lead k p).length=m:=swr_len hr1 hl1
  rw [List.take_of_length_le (by omega)] at hys
  unfold IntsL
  rw [ha2,hys]
end
end My
namespace My
open PySem L2 Mth Wd
section
variable {P:Program} {w:World} {K:PySem.W.Frag} {mg:Str->Option Value} {base:Heap} {f g h C:Addr} {fd gd hd:FuncData}
inductive SpSweptR (vs:List V) (H:Hp) (Q:VK):Prop
 | mk (a:Addr) (R:List (List Int)) (n m B0:Nat) (h_0:vs=[.ref a]) (h_1:LstR IntsL H a R) (h_2:R.length=n) (h_3:n≤m) (h_4:m≤100) (h_5:(∀ r∈R,r.length=m)) (h_6:1≤B0) (h_7:(∀ r∈R,∀ x∈r,x.natAbs≤B0)) (h_8:(m*B0) ^ n<2 ^ 8000) (h_9:(∀ H',Same H H'->ld n m (wgs (R.map vr) one)=0->Q .non H')) (h_10:∀ p H' T,Same H H'->LstR IntsL H' p T->(∃ Z c v,Bi B0 n m n (R.map vr) T Z c v)->Q (.ref p) H'):SpSweptR vs H Q
def spSwept:Sp:=fun vs H Q _=>SpSweptR vs H Q
theorem scSw:FnScope ["rows","size","before","k","lead"] ["rows"] (defScope sSwept):=⟨rfl,rfl,rfl,by decide +kernel,rfl,by decide +kernel,by decide +kernel⟩
theorem ndSw:(["row","lead","k","before"]:List Str).Nodup:=by decide +kernel
theorem big_row {B0 n m k:Nat} {A0:List Vec} {top:List (List Int)} {Z:List (List Int×Vec)} {p:Int} {v:Frm} (B:Bi B0 n m k A0 top Z p v) (hb:(m*B0) ^ n<2 ^ 8000) {z:List Int×Vec} (hz:z∈Z):∀ x∈z.1,Big x:=by
 intro x hx
 obtain ⟨j,rfl⟩:=Wd.mem_getD hx
 have h:=ab_nat (B.ent hz j)
 have hl:=B.lenZ
 have hp:0<Z.length:=List.length_pos_of_mem hz
 have h1:1≤m*B0:=Nat.mul_pos (by have:=B.nm; omega) B.b1
 exact Nat.lt_of_le_of_lt (Nat.le_trans h (pow_up h1 (by omega))) hb
theorem big_p {B0 n m k:Nat} {A0:List Vec} {top:List (List Int)} {Z:List (List Int×Vec)} {p:Int} {v:Frm} (B:Bi B0 n m k A0 top Z p v) (hb:(m*B0) ^ n<2 ^ 8000):Big p:=by
 rcases Nat.eq_zero_or_pos k with rfl | hk
 ·have h1:=B.pl
  have:(p:Rat)=ld 0 m v:=h1.symm
  have hw:=B.bdw (Tk 0 m)
  have e:ld 0 m v=v (Tk 0 m):=by simp [ld,tri]
  rw [←e,←this] at hw
  have:=ab_nat hw
  have z:(1:Nat)<2 ^ 8000:=by
   have:=Nat.one_lt_two_pow (n:=8000) (by decide)
   exact this
  rw [Nat.pow_zero] at this
  exact Nat.lt_of_le_of_lt this z
 ·have hl:=B.last hk
  have ht:=B.lenT
  have hm:top.getD (k-1) []∈top:=by
   rw [List.getD_eq_getElem?_getD,List.getElem?_eq_getElem (by omega)]; exact List.getElem_mem _
  have:=ab_nat (B.bdt _ hm (k-1))
  rw [hl] at this
  exact Nat.lt_of_le_of_lt this hb
theorem ok_swept (F:Fun K "swept" "swept" sSwept f fd) (G:FnOk P w K mg base CX0 1 g gd ["rows","k"] spLed) (bG:Binds K gd ["rows","k"] []) (kG:PySem.W.keepIn K (.ref g)=true) (mG:mg "led" = some (.ref g))
  (G2:FnOk P w K mg base CX0 1 h hd ["row","lead","k","before"] spSwr) (bG2:Binds K hd ["row","lead","k","before"] []) (kG2:PySem.W.keepIn K (.ref h)=true) (mG2:mg "swept_row" = some (.ref h))
  (ml:mg "len" = none) (mr:mg "range" = none):FnOk P w K mg base CX0 2 f fd ["rows"] spSwept:=by
 refine F.ok scSw (fun vs H Q E h=>?_) (fun cdv A outer s H vs Q E hr h=>?_)
 ·obtain ⟨a,R,n,m,B0,rfl,_⟩:=h
  rfl
 obtain ⟨a,R,n,m,B0,rfl,hA,hn,hnm,hm,hcol,hb1,hbd,hbig,qn,qs⟩:=h
 refine ⟨_,pss_cons (ps_set (i:=1) scSw.nd rfl (Or.inl rfl) (pe_callB call_len_seq (by rfl) ml bt_len (pa_cons (pv 0) pa_nil)))
  (pss_cons (ps_set (i:=2) scSw.nd rfl (Or.inr rfl) pe_int)
  (pss_cons (ps_for PassesOwn.never rfl (pi_range1 (by rfl) mr (pa_cons (pv 1) pa_nil)) (pg_name (i:=3) scSw.nd rfl (Or.inr rfl))
   (pss_cons (ps_set (i:=0) scSw.nd rfl (Or.inl rfl) (pe_call G hr (by rfl) mG kG bG .nil pass0 (pa_cons (pv 0) (pa_cons (pv 3) pa_nil))))
   (pss_cons (ps_if (pt_cmpR op_isN (pv 0) pe_non (nomark _)) (pss_one (ps_ret pe_non)) pss_nil)
   (pss_cons (ps_set (i:=4) scSw.nd rfl (Or.inr rfl) (pe_ix ix_list (pv 0) (pv 3) (fun _ _=>rfl)))
   (pss_cons (ps_set (i:=0) scSw.nd rfl (Or.inl rfl) (pe_op op_cat (pe_slice sl_list (pv 0) po_none (po_some (pe_op op_add (pv 3) pe_int)))
    (pe_comp (Nc:=["row","lead","k","before"]) (cap:=[(1,4),(2,3),(3,2)]) (g:=gName 0) (te:=tCall spSwr [] E0 (tCons (tVar 0) (tCons (tVar 1) (tCons (tVar 2) (tCons (tVar 3) tNil))))) rfl (pi_list (pe_slice sl_list (pv 0) (po_some (pe_op op_add (pv 3) pe_int)) po_none))
     (comp_mk rfl rfl (by decide +kernel) (by decide +kernel) (List.forall_mem_cons.mpr ⟨⟨rfl,rfl⟩,List.forall_mem_cons.mpr ⟨⟨rfl,rfl⟩,List.forall_mem_cons.mpr ⟨⟨rfl,rfl⟩,List.forall_mem_nil _⟩⟩⟩) rfl
      (List.forall_mem_cons.mpr ⟨⟨_,_,rfl,rfl,rfl,rfl,rfl⟩,List.forall_mem_cons.mpr ⟨⟨_,_,rfl,rfl,rfl,rfl,rfl⟩,List.forall_mem_cons.mpr ⟨⟨_,_,rfl,rfl,rfl,rfl,rfl⟩,List.forall_mem_nil _⟩⟩⟩))
     (fun C fp pins s' H'=>pg_name (i:=0) ndSw rfl (Or.inl rfl)) (fun C fp pins s' H'=>pe_call G2 hr (by rfl) mG2 kG2 bG2 .nil pass0 (pa_cons (pv 0) (pa_cons (pv 1) (pa_cons (pv 2) (pa_cons (pv 3) pa_nil))))))))
   (pss_one (ps_set (i:=2) scSw.nd rfl (Or.inr rfl) (pe_ix ix_list (pv 4) (pv 3) (fun _ _=>rfl)))))))))
  (pss_one (ps_ret (pv 0))))),?_⟩
 obtain ⟨bs,ha,hAt⟩:=id hA
 refine ⟨_,rfl,a,_,rfl,.inl (SqL.of ha),?_⟩
 refine ⟨_,rfl,(((bs.map V.ref).length:Nat):Int),rfl,by rw [List.length_map,hAt.1]; omega,by rw [List.length_map,hAt.1]; omega,?_⟩
 rw [show ((((bs.map V.ref).length:Nat):Int)).toNat=n by rw [List.length_map,hAt.1]; omega]
 refine for_range (n:=n) (fun k σ H2=>Same H H2∧∃ (c:Addr) (top:List (List Int)) (Z:List (List Int×Vec)) (p:Int) (v:Frm) (u1 u2:Option V),σ=[some (.ref c),some (.int (((bs.map V.ref).length:Nat):Int)),some (.int p),u1,u2]∧LstR IntsL H2 c (top++Z.map (·.1))∧Bi B0 n m k (R.map vr) top Z p v)
  ⟨Same.refl _,a,[],R.map fun r=>(r,vr r),1,one,none,none,rfl,by simp [Function.comp_def]; exact hA,Bi.mk0 hb1 (fun r hr j=>nat_ab (getD_abs (hbd r hr) j)) hn hnm hcol⟩ ?_ ?_
 ·rintro k σ H2 hk ⟨sm,c,top,Z,p,v,u1,u2,rfl,hL,B⟩
  have lT:=B.lenT
  have lZ:=B.lenZ
  have lall:(top++Z.map (·.1)).length=n:=by simp; omega
  have zk:(0:Int)+(k:Nat)=((k:Nat):Int):=by omega
  refine ⟨_,rfl,_,rfl,c,top++Z.map (·.1),k,m,by rw [zk]; rfl,hL,by omega,by omega,?_,by omega,by omega,?_,?_⟩
  ·intro r hr
   rcases List.mem_append.mp hr with h1 | h1
   ·exact B.colT r h1
   ·obtain ⟨z,hz,rfl⟩:=List.mem_map.mp h1
    exact B.colZ z hz
  ·-- no row leads
   intro h0
   refine ⟨_,rfl,rfl,_,rfl,?_⟩
   refine iteDT rfl ?_
   refine qn H2 sm (B.none hk fun z hz=>?_)
   obtain ⟨j,hj,e⟩:=List.getElem_of_mem hz
   have hh:=h0 (k+j) (by omega) (by omega)
   have:(top++Z.map (·.1)).getD (k+j) []=z.1:=by
    rw [List.getD_eq_getElem?_getD,List.getElem?_append_right (by omega),show k+j-top.length=j by omega,List.getElem?_map,List.getElem?_eq_getElem hj,e]; rfl
   rw [this] at hh
   exact hh
  ·intro i c2 H3 h1 h2 h3 s3 nc2 hL3
   obtain ⟨z,Z',B2,eR,hz⟩:=B.led h1 (by omega) h3
   rw [eR] at hL3
   refine ⟨_,rfl,rfl,_,rfl,?_⟩
   refine iteDF (fun z=>by cases z) ?_
   obtain ⟨cs,hc2,hAt2⟩:=id hL3
   have lZ2:=B2.lenZ
   simp at lZ2
   have lcs:cs.length=n:=by rw [hAt2.1]; simp; omega
   have ek:(top++z.1 :: Z'.map (·.1))[k]?=some z.1:=by rw [List.getElem?_append_right (by omega),lT]; simp
   obtain ⟨b,hb,hB⟩:=hAt2.get ek
   refine ⟨_,rfl,_,rfl,c2,_,_,_,rfl,rfl,SqL.of hc2,by rw [zk]; exact atI_nat (ref_at hb),?_⟩
   have k1:((0:Int)+(k:Nat))+1=((k+1:Nat):Int):=by omega
   refine ⟨_,rfl,_,rfl,_,_,rfl,rfl,_,rfl,c2,_,rfl,SqL.of hc2,fun p1 hp1=>?_⟩
   (try dsimp only)
   rw [k1,cut_take _ (by rw [List.length_map]; omega)]
   have s4:Same H3 (upd H3 p1 (.lst ((cs.map V.ref).take (k+1)))):=same_new hp1 _
   have hp14:(upd H3 p1 (.lst ((cs.map V.ref).take (k+1)))) p1=some (.lst ((cs.map V.ref).take (k+1))):=upd_same
   generalize upd H3 p1 (.lst ((cs.map V.ref).take (k+1)))=H4 at s4 hp14
   refine ⟨_,rfl,_,rfl,_,_,rfl,rfl,_,rfl,c2,_,rfl,SqL.of (s4 _ _ hc2),fun p2 hp2=>?_⟩
   (try dsimp only)
   rw [k1,cut_drop _ (by rw [List.length_map]; omega)]
   have s5:Same H4 (upd H4 p2 (.lst ((cs.map V.ref).drop (k+1)))):=same_new hp2 _
   have hp25:(upd H4 p2 (.lst ((cs.map V.ref).drop (k+1)))) p2=some (.lst ((cs.drop (k+1)).map V.ref)):=by rw [upd_same,List.map_drop]
   generalize upd H4 p2 (.lst ((cs.map V.ref).drop (k+1)))=H5 at s5 hp25
   refine ⟨p2,rfl,⟨_,SqL.of hp25⟩,fun acc hacc=>?_⟩
   have s35:Same H3 H5:=s4.trans s5
   have hAd:At IntsL H5 (cs.drop (k+1)) (Z'.map (·.1)):=by
    have:=(hAt2.drop (k+1)).keep mo_ints s35
    have e:(top++z.1 :: Z'.map (·.1)).drop (k+1)=Z'.map (·.1):=by
     rw [List.drop_append,List.drop_of_length_le (by omega),show k+1-top.length=1 by omega]; rfl
    rw [e] at this
    exact this
   have hzm:z∈z :: Z':=by simp
   refine comp_run (run_list hp25) (by rw [List.length_map,List.length_drop]; omega) hacc
    (fun i ys σ hp=>∃ ds:List Addr,ys=ds.map V.ref∧At IntsL hp ds ((Z'.map fun y=>swr y.1 z.1 k p).take i)∧∃ u,σ=[u,some (.ref b),some (.int ((0:Int)+(k:Nat))),some (.int p)]) ⟨[],rfl,At.nil,none,rfl⟩ ?_ ?_
   ·rintro i ys σ H6 x H7 hi sm6 hacc6 ⟨ds,rfl,hD,u,rfl⟩ ⟨rfl,hx⟩ C hC
    obtain ⟨e,r,rfl,he,hr',hE⟩:=hAd.ref hx
    rw [List.getElem?_map] at hr'
    cases q:Z'[i]? with
    | none=>rw [q] at hr'; cases hr'
    | some y =>
     rw [q] at hr'
     obtain rfl:y.1=r:=Option.some.inj hr'
     have ym:y∈z :: Z':=List.mem_cons_of_mem _ (List.mem_of_getElem? q)
     refine ⟨_,rfl,_,rfl,_,rfl,_,rfl,e,b,y.1,z.1,k,m,p,by rw [zk]; rfl,sm6 _ _ hE,sm6 _ _ (s35 _ _ hB),B2.colZ y ym,B2.colZ z hzm,by omega,by omega,B.pz,big_p B hbig,big_row B2 hbig ym,big_row B2 hbig hzm,?_⟩
     intro r2 H8 s8 nr2 hr2
     refine hC _ _ _ s8 ⟨ds++[r2],by simp,?_,_,rfl⟩
     have ne:r2≠acc:=fun z=>by rw [z,hacc6] at nr2; cases nr2
     have e3:(Z'.map fun y=>swr y.1 z.1 k p)[i]?=some (swr y.1 z.1 k p):=by rw [List.getElem?_map,q]; rfl
     rw [take_succ_of e3]
     exact (hD.keep mo_ints (del_mono acc s8)).snoc (del_at hr2 ne)
   ·rintro ys σ H6 sm6 hacc6 hl6 ⟨ds,rfl,hD,u,rfl⟩
    rw [List.length_map,List.length_drop,List.take_of_length_le (by simp; omega)] at hD
    have hp16:=sm6 _ _ (s5 _ _ hp14)
    have hlen:(cs.map V.ref).length=n:=by rw [List.length_map]; exact lcs
    have hdl:ds.length=Z'.length:=by rw [hD.1]; simp
    refine ⟨p1,acc,_,_,rfl,rfl,hp16,hacc6,by rw [List.length_take,List.length_map,List.length_map]; exact szle (by omega),fun c3 hc3=>?_⟩
    have s7:Same H6 (upd H6 c3 (.lst ((cs.map V.ref).take (k+1)++ds.map V.ref))):=same_new hc3 _
    have s37:=(s35.trans sm6).trans s7
    have b1:z.1.length=m:=B2.colZ z hzm
    refine ⟨_,rfl,_,rfl,b,_,_,_,rfl,rfl,SqL.of (s37 _ _ hB),by rw [zk]; exact at_ints (by omega),?_⟩
    have B3:=B2.step hz
    refine ⟨sm.trans (s3.trans s37),c3,top++[z.1],_,z.1.getD k 0,_,_,_,rfl,⟨cs.take (k+1)++ds,?_,?_⟩,B3⟩
    ·rw [upd_same,List.map_append,List.map_take]
    ·have t1:=(hAt2.take (k+1)).keep mo_ints s37
     have e:(top++z.1 :: Z'.map (·.1)).take (k+1)=top++[z.1]:=by
      rw [List.take_append,List.take_of_length_le (by omega),show k+1-top.length=1 by omega]; rfl
     rw [e] at t1
     have t2:=(hD.keep mo_ints (del_sub H6 acc)).keep mo_ints s7
     have e2:List.map (·.1) (Z'.map fun y=>(swr y.1 z.1 k p,y.2))=Z'.map fun y=>swr y.1 z.1 k p:=by simp [Function.comp_def]
     rw [e2]
     exact t1.app t2
 ·rintro σ H2 ⟨sm,c,top,Z,p,v,u1,u2,rfl,hL,B⟩
  obtain ⟨rfl,_⟩:=B.fin
  rw [List.map_nil,List.append_nil] at hL
  exact ⟨_,rfl,qs c H2 top sm hL ⟨[],p,v,B⟩⟩
end
end My
namespace My
open PySem L2 Mth Wd
section
variable {P:Program} {w:World} {K:PySem.W.Frag} {mg:Str->Option Value} {base:Heap} {f g h C f1 f2 f3 f4:Addr} {fd gd hd d1 d2 d3 d4:FuncData}
structure TK (n m d E D:Nat) (T:List (List Rat)):Prop where
 len:T.length=n
 col:∀ r∈T,r.length=m
 nm:n≤m
 m15:m≤15
 den:∀ r∈T,∀ q∈r,q.den≤2 ^ d
 num:∀ r∈T,∀ q∈r,Big q.num
 cbD:∀ r∈T,(cb r).natAbs≤2 ^ D
 whE:∀ r∈T,∀ q∈r,(wh (cb r) q).natAbs≤2 ^ E
 bd:(4+E)*n<7990∧D<7990∧d*m+d<7990
theorem TK.hcb {n m d E D:Nat} {T:List (List Rat)} (h:TK n m d E D T) {r:List Rat} (hr:r∈T):0<cb r∧(∀ q∈r,(q.den:Int) ∣ cb r)∧(cb r).natAbs≤2 ^ D :=
 ⟨(cb_pos r).1,(cb_pos r).2,h.cbD r hr⟩
def whR (T:List (List Rat)):List (List Int):=T.map fun r=>r.map (wh (cb r))
theorem TK.hwh {n m d E D:Nat} {T:List (List Rat)} (h:TK n m d E D T):∀ r∈whR T,r.length=m∧∀ x∈r,x.natAbs≤2 ^ E:=by
 intro r hr
 obtain ⟨s,hs,rfl⟩:=List.mem_map.mp hr
 refine ⟨by rw [List.length_map]; exact h.col s hs,fun x hx=>?_⟩
 obtain ⟨q,hq,rfl⟩:=List.mem_map.mp hx
 exact h.whE s hs q hq
theorem TK.big {n m d E D:Nat} {T:List (List Rat)} (h:TK n m d E D T):(m*2 ^ E) ^ n<2 ^ 8000:=by
 have h1:m*2 ^ E≤2 ^ (4+E):=by
  rw [Nat.pow_add 2 4]
  exact Nat.mul_le_mul_right _ (by have:=h.m15; omega)
 have h2:=Nat.pow_le_pow_left h1 n
 rw [←Nat.pow_mul] at h2
 exact Nat.lt_of_le_of_lt h2 (Nat.pow_lt_pow_right (by decide) (by have:=h.bd; omega))
theorem TK.wb {n m d E D:Nat} {T:List (List Rat)} (h:TK n m d E D T) {r:List Rat} (hr:r∈T):∀ q∈r,Big q.num∧Big (q.den:Int)∧Big ((cb r).fdiv q.den):=by
 intro q hq
 obtain ⟨c1,c2,c3⟩:=h.hcb hr
 have:=h.bd
 refine ⟨h.num r hr q hq,big2 (n:=d) (by simpa using h.den r hr q hq) (by omega),big2 (n:=D) (Nat.le_trans ?_ c3) (by omega)⟩
 rw [Int.fdiv_eq_ediv_of_dvd (c2 q hq)]
 exact Int.natAbs_ediv_le_natAbs _ _
theorem ndRo:(["row"]:List Str).Nodup:=by decide +kernel
theorem at_last {α:Type} {xs:List α} {v:α} (h:xs[xs.length-1]?=some v):atI xs (-1)=some v:=by
 have hl:0<xs.length:=by have:=(List.getElem?_eq_some_iff.mp h).1; omega
 have e:ixN xs.length (-1)=some (xs.length-1):=by
  unfold ixN
  rw [if_neg (by decide),if_pos (by omega)]
  congr 1; omega
 unfold atI
 rw [e]; exact h
theorem mo_tf:Mo (TupR FrR):=fun s h=>mo_tup (R:=FrR) (fun s h=>mo_fr s h) s h
end
end My
namespace My
open PySem L2 Mth Wd
section
variable {P:Program} {w:World} {K:PySem.W.Frag} {mg:Str->Option Value} {base:Heap} {f g h C C2 f1 f2 f3 f4:Addr} {fd gd hd d1 d2 d3 d4:FuncData}
structure Swp (B0 n:Nat) (T:List (List Int)) (c:Int) (x:Nat->Rat) (u:Nat->Int):Prop where
 n0:0<n
 len:T.length=n
 col:∀ r∈T,r.length=n+1
 c0:c≠0
 last:(T.getD (n-1) []).getD (n-1) 0=c
 dia:∀ i,i<n->(T.getD i []).getD i 0≠0∧∀ j,j<i->(T.getD i []).getD j 0=0
 sol:∀ i,i<n->fx n x (vr (T.getD i []))=0
 whole:∀ j,j<n->((u j:Int):Rat)=c*x j
 big:(∀ r∈T,∀ y∈r,Big y)∧(∀ j,j<n->Big (u j))∧Big c
inductive SpBackR (vs:List V) (H:Hp) (Q:VK):Prop
 | mk (a:Addr) (B0 n:Nat) (T:List (List Int)) (c:Int) (x:Nat->Rat) (u:Nat->Int) (h_0:vs=[.ref a]) (h_1:LstR IntsL H a T) (h_2:n≤100) (h_3:Swp B0 n T c x u) (h_4:∀ p H',Same H H'->H p=none->TupR FrR H' p ((List.range n).map x)->Q (.ref p) H'):SpBackR vs H Q
def spBack:Sp:=fun vs H Q _=>SpBackR vs H Q
theorem scBa:FnScope ["rows","size","whole","found","k","row","known"] ["rows"] (defScope sBack):=⟨rfl,rfl,rfl,by decide +kernel,rfl,by decide +kernel,by decide +kernel⟩
theorem ndNO:(["number","other"]:List Str).Nodup:=by decide +kernel
theorem ndNW:(["number","whole"]:List Str).Nodup:=by decide +kernel
def fnd (u:Nat->Int) (n k:Nat):List Int:=(List.range (n-k)).map fun i=>u (k+i)
theorem fnd_cons {u:Nat->Int} {n k:Nat} (h:k<n):fnd u n k=u k :: fnd u n (k+1):=by
 unfold fnd
 rw [show n-k=(n-(k+1))+1 by omega,List.range_succ_eq_map,List.map_cons,List.map_map]
 congr 1
 refine List.map_congr_left fun i _=>?_
 show u (k+(i+1))=u (k+1+i)
 congr 1; omega
def prods (r:List Int) (u:Nat->Int) (n k:Nat):List Int:=(List.range (n-k)).map fun i=>r.getD (k+i) 0*u (k+i)
theorem prods_cons {r:List Int} {u:Nat->Int} {n k:Nat} (h:k<n):prods r u n k=(r.getD k 0*u k) :: prods r u n (k+1):=by
 unfold prods
 rw [show n-k=(n-(k+1))+1 by omega,List.range_succ_eq_map,List.map_cons,List.map_map]
 congr 1
 refine List.map_congr_left fun i _=>?_
 show r.getD (k+(i+1)) 0*u (k+(i+1))=r.getD (k+1+i) 0*u (k+1+i)
 have:k+(i+1)=k+1+i:=by omega
 rw [this]
theorem back_num {n : Nat} {r : List Int} {c : Int} {x : Nat → Rat} {u : Nat → Int} (hw : ∀ j, j < n → ((u j : Int) : Rat) = c * x j) (hs : fx n x (vr r) = 0) {k : Nat} (hk : k < n) (hd : r.getD k 0 ≠ 0) (hz : ∀ j, j < k → r.getD j 0 = 0) :
    (r.getD n 0 * c - (prods r u n (k + 1)).sum).fdiv (r.getD k 0) = u k := by
  have tail : ∀ m, m ≤ n → (((prods r u n (n - m)).sum : Int) : Rat) = c * (sumQ (fun j => vr r j * x j) n - sumQ (fun j => vr r j * x j) (n - m)) := by
    intro m
    induction m with
    | zero => intro _; simp [prods]; grind
    | succ m ih =>
      intro hm
      rw [prods_cons (show n - (m + 1) < n by omega), List.sum_cons, Rat.intCast_add, Rat.intCast_mul, hw _ (by omega)]
      rw [show n - (m + 1) + 1 = n - m by omega, ih (by omega)]
      have e : sumQ (fun j => vr r j * x j) (n - m) = sumQ (fun j => vr r j * x j) (n - (m + 1)) + vr r (n - (m + 1)) * x (n - (m + 1)) := by
        rw [show n - m = n - (m + 1) + 1 by omega]; rfl
      rw [e]
      have : vr r (n - (m + 1)) = ((r.getD (n - (m + 1)) 0 : Int) : Rat) := rfl
      rw [← this]; grind
  have t := tail (n - (k + 1)) (by omega)
  rw [show n - (n - (k + 1)) = k + 1 by omega] at t
  have low : sumQ (fun j => vr r j * x j) (k + 1) = vr r k * x k := by
    simp only [sumQ]
    rw [sumQ_zero (fun l hl => by have : vr r l = 0 := by simp only [vr, hz l hl]; rfl
                                  rw [this]; grind)]; grind
  rw [low] at t
  have hs' : sumQ (fun j => vr r j * x j) n = vr r n := by simp only [fx] at hs; grind
  rw [hs'] at t
  have key : (((r.getD n 0 * c - (prods r u n (k + 1)).sum : Int)) : Rat) = ((r.getD k 0 * u k : Int) : Rat) := by
    rw [Rat.intCast_sub, Rat.intCast_mul, Rat.intCast_mul, t, hw k hk]
    have a1 : vr r n = ((r.getD n 0 : Int) : Rat) := rfl
    have a2 : vr r k = ((r.getD k 0 : Int) : Rat) := rfl
    rw [← a1, ← a2]; grind
  have ki : r.getD n 0 * c - (prods r u n (k + 1)).sum = r.getD k 0 * u k := by exact_mod_cast key
  rw [ki, Int.fdiv_eq_ediv_of_dvd (Int.dvd_mul_right _ _), Int.mul_ediv_cancel_left _ hd]
theorem getD_big {r:List Int} (h:∀ y∈r,Big y) {j:Nat} (hj:j<r.length):Big (r.getD j 0):=by
 rw [List.getD_eq_getElem?_getD,List.getElem?_eq_getElem hj]; exact h _ (List.getElem_mem hj)
theorem cut_mid (xs:List V) {i j:Nat} (h:i≤j) (hj:j≤xs.length):cutV xs (some (i:Int)) (some (j:Int))=(xs.drop i).take (j-i):=by
 unfold cutV
 have e1:HT.sIx xs.length 0 (some (i:Int))=i:=by simp [HT.sIx]; rw [if_neg (by omega)]; omega
 have e2:HT.sIx xs.length xs.length (some (j:Int))=j:=by simp [HT.sIx]; rw [if_neg (by omega)]; omega
 rw [e1,e2]
theorem ok_back (F:Fun K "found_back" "found_back" sBack f fd) (G:FnOk P w K mg base CX0 2 g gd ["top","bottom"] (spFrac C)) (bG:Binds K gd ["top","bottom"] []) (kG:PySem.W.keepIn K (.ref g)=true) (mG:mg "fraction" = some (.ref g))
  (ml:mg "len" = none) (mr:mg "range" = none) (mz:mg "zip" = none) (msu:mg "sum" = none) (mt:mg "tuple" = none):FnOk P w K mg base CX0 3 f fd ["rows"] spBack:=by
 refine F.ok scBa (fun vs H Q E h=>?_) (fun cdv A outer s H vs Q E hr h=>?_)
 ·obtain ⟨a,B0,n,T,c,x,u,rfl,_⟩:=h
  rfl
 obtain ⟨a,B0,n,T,c,x,u,rfl,⟨bs,ha,hA⟩,hn,S,q⟩:=h
 refine ⟨_,pss_cons (ps_set (i:=1) scBa.nd rfl (Or.inl rfl) (pe_callB call_len_seq (by rfl) ml bt_len (pa_cons (pv 0) pa_nil)))
  (pss_cons (ps_set (i:=2) scBa.nd rfl (Or.inr rfl) (pe_ix ix_list (pe_ix ix_list (pv 0) (pe_un un_neg pe_int) (fun _ _=>rfl)) (pe_op op_sub (pv 1) pe_int) (fun _ _=>rfl)))
  (pss_cons (ps_set (i:=3) scBa.nd rfl (Or.inl rfl) (pe_lst pa_nil))
  (pss_cons (ps_for PassesOwn.never rfl (pi_rangeD (by rfl) mr (pa_cons (pe_op op_sub (pv 1) pe_int) (pa_cons (pe_un un_neg pe_int) (pa_cons (pe_un un_neg pe_int) pa_nil)))) (pg_name (i:=4) scBa.nd rfl (Or.inl rfl))
   (pss_cons (ps_set (i:=5) scBa.nd rfl (Or.inl rfl) (pe_ix ix_list (pv 0) (pv 4) (fun _ _=>rfl)))
   (pss_cons (ps_set (i:=6) scBa.nd rfl (Or.inl rfl) (pe_callB (call_sumI rfl) (by rfl) msu bt_sum (pa_cons (pe_comp (Nc:=["number","other"]) (cap:=[]) (g:=gTup K 2 (gCons (gName 0) (gCons (gName 1) gNil))) (te:=tOp (rI CMulB fun i j=>.int (i*j)) (tVar 0) (tVar 1)) rfl
     (pi_zipK (t1:=false) (t2:=false) (by rfl) mz (pa_cons (pe_slice sl_list (pv 5) (po_some (pe_op op_add (pv 4) pe_int)) (po_some (pv 1))) (pa_cons (pv 3) pa_nil)))
     (comp_mk rfl rfl (by decide +kernel) (by decide +kernel) (List.forall_mem_nil _) rfl (List.forall_mem_nil _)) (fun C fp pins s' H'=>pg_tup rfl (pgs_cons (pg_name (i:=0) ndNO rfl (Or.inl rfl)) (pgs_cons (pg_name (i:=1) ndNO rfl (Or.inl rfl)) pgs_nil)))
     (fun C fp pins s' H'=>pe_op op_mulB (pv 0) (pv 1))) pa_nil)))
   (pss_one (ps_set (i:=3) scBa.nd rfl (Or.inl rfl) (pe_op op_cat (pe_lst (pa_cons (pe_op op_fdivB (pe_op op_sub (pe_op op_mulB (pe_ix ix_list (pv 5) (pv 1) (fun _ _=>rfl)) (pv 2)) (pv 6)) (pe_ix ix_list (pv 5) (pv 4) (fun _ _=>rfl))) pa_nil)) (pv 3)))))))
  (pss_one (ps_ret (pe_callTy call_tuple_of (by rfl) mt bt_tuple (pa_cons (pe_comp (Nc:=["number","whole"]) (cap:=[(1,2)]) (g:=gName 0) (te:=tCall (spFrac C) [] E0 (tCons (tVar 0) (tCons (tVar 1) tNil))) rfl (pi_list (pv 3))
   (comp_mk rfl rfl (by decide +kernel) (by decide +kernel) (List.forall_mem_cons.mpr ⟨⟨rfl,rfl⟩,List.forall_mem_nil _⟩) rfl (List.forall_mem_cons.mpr ⟨⟨_,_,rfl,rfl,rfl,rfl,rfl⟩,List.forall_mem_nil _⟩))
   (fun C fp pins s' H'=>pg_name (i:=0) ndNW rfl (Or.inl rfl)) (fun C fp pins s' H'=>pe_call (CX:=CX0) G hr (by rfl) mG kG bG .nil pass0 (pa_cons (pv 0) (pa_cons (pv 1) pa_nil)))) pa_nil))))))),?_⟩
 have n0:=S.n0
 have lT:=S.len
 have lb:bs.length=n:=by rw [hA.1]; exact lT
 have gT:∀ i,i<n->∃ b,bs[i]?=some b∧IntsL H b (T.getD i [])∧(T.getD i []).length=n+1∧(∀ y∈T.getD i [],Big y):=by
  intro i hi
  have e:T[i]?=some (T[i]'(by omega)):=List.getElem?_eq_getElem _
  obtain ⟨b,h1,h2⟩:=hA.get e
  have hm:T[i]'(by omega)∈T:=List.getElem_mem _
  rw [getD_some e]
  exact ⟨b,h1,h2,S.col _ hm,S.big.1 _ hm⟩
 obtain ⟨bz,hbz,hBz,lz,_⟩:=gT (n-1) (by omega)
 refine ⟨_,rfl,a,_,rfl,.inl (SqL.of ha),?_⟩
 rw [List.length_map,lb]
 have nm1:((n:Nat):Int)-1=((n-1:Nat):Int):=by omega
 refine ⟨_,rfl,_,rfl,a,_,_,_,rfl,rfl,SqL.of ha,at_last (by rw [List.length_map,lb]; exact ref_at hbz),_,rfl,_,_,rfl,rfl,bz,_,_,_,rfl,rfl,SqL.of hBz,by rw [nm1]; exact at_ints (by omega),?_⟩
 rw [S.last]
 refine ⟨by show 0≤sizeLine; decide,fun l0 hl0=>?_⟩
 have s0:=same_new hl0 (.lst [])
 try dsimp only
 try refine name_goH ?_
 first | refine seq_hide fun UL1 hUL1=>?_ | refine nx_hide fun UL1 hUL1=>?_
 refine ⟨_,rfl,_,_,rfl,rfl,_,rfl,_,rfl,n,rfl,by omega,?_⟩
 refine for_step (n:=n) (lo:=((n:Nat):Int)-1) (step:=-1) (fun i σ H2=>Same H H2∧∃ l u4 u5 u6,σ=[some (.ref a),some (.int ((n:Nat):Int)),some (.int c),some (.ref l),u4,u5,u6]∧H l=none∧IntsL H2 l (fnd u n (n-i)))
  ⟨s0,l0,none,none,none,rfl,hl0,by unfold IntsL fnd; rw [upd_same]; simp⟩ ?_ ?_
 ·rintro i σ H2 hi ⟨sm,l,u4,u5,u6,rfl,nl,hl⟩
  have hk:n-1-i<n:=by omega
  obtain ⟨k,hkd⟩:∃ k,k=n-1-i:=⟨_,rfl⟩
  have ek:((n:Nat):Int)-1+(i:Nat)*(-1)=((k:Nat):Int):=by omega
  obtain ⟨b,hb,hB,lr,br⟩:=gT k (by omega)
  generalize hrow:T.getD k []=row at hB lr br
  rw [ek]
  have ha2:=sm _ _ ha
  have hB2:=sm _ _ hB
  refine ⟨_,rfl,_,rfl,a,_,_,_,rfl,rfl,SqL.of ha2,atI_nat (ref_at hb),?_⟩
  have k1:((k:Nat):Int)+1=((k+1:Nat):Int):=by omega
  refine ⟨_,rfl,_,rfl,_,_,rfl,rfl,_,rfl,_,rfl,_,rfl,b,_,rfl,SqL.of hB2,fun p1 hp1=>?_⟩
  (try dsimp only)
  rw [k1,cut_mid _ (by omega) (by rw [List.length_map]; omega)]
  have s3:=same_new hp1 (.lst (((row.map V.int).drop (k+1)).take (n-(k+1))))
  have e1:(upd H2 p1 (.lst (((row.map V.int).drop (k+1)).take (n-(k+1))))) p1=some (.lst (((row.drop (k+1)).take (n-(k+1))).map V.int)):=by rw [upd_same,List.map_take,List.map_drop]
  generalize upd H2 p1 (.lst (((row.map V.int).drop (k+1)).take (n-(k+1))))=H3 at s3 e1
  have ni:n-i=k+1:=by omega
  rw [ni] at hl
  have hl3:=s3 _ _ hl
  refine ⟨_,rfl,p1,l,rfl,⟨_,SqS.l e1⟩,⟨_,SqS.l hl3⟩,fun acc hacc=>?_⟩
  have lf:(fnd u n (k+1)).length=n-(k+1):=by unfold fnd; simp
  refine comp_run (run_zip (xs:=((row.drop (k+1)).take (n-(k+1))).map V.int) (ys:=(fnd u n (k+1)).map V.int) (fun H4 s=>SqS.l (s _ _ e1)) (fun H4 s=>SqS.l (s _ _ hl3)) (by simp [lf]; omega)) (by simp; omega) hacc
   (fun j ys σ _=>ys=((prods row u n (k+1)).take j).map V.int∧∃ v1 v2,σ=[v1,v2]) ⟨rfl,none,none,rfl⟩ ?_ ?_
  ·rintro j ys σ H4 z H5 hj s4 hacc4 ⟨hys,v1,v2,rfl⟩ ⟨t,n1,n2,rfl,ht,rfl,hn1,hn2⟩ Cc hC
   have hj2:j<n-(k+1):=by simp at hj; omega
   have g1:n1=.int (row.getD (k+1+j) 0):=by
    rw [List.getElem?_map,List.getElem?_take,if_pos hj2,List.getElem?_drop,List.getElem?_eq_getElem (by omega)] at hn1
    rw [List.getD_eq_getElem?_getD,List.getElem?_eq_getElem (by omega)]
    exact (Option.some.inj hn1).symm
   have g2:n2=.int (u (k+1+j)):=by
    unfold fnd at hn2
    rw [List.getElem?_map,List.getElem?_map,List.getElem?_range hj2] at hn2
    exact (Option.some.inj hn2).symm
   subst g1 g2
   have s5:=same_new ht (.tup [.int (row.getD (k+1+j) 0),.int (u (k+1+j))])
   refine ⟨t,_,rfl,SqT.of upd_same,rfl,_,_,rfl,_,_,rfl,rfl,?_⟩
   refine ⟨_,rfl,_,rfl,_,_,rfl,rfl,⟨getD_big br (by omega),S.big.2.1 _ (by omega)⟩,?_⟩
   refine hC _ _ _ s5 ⟨?_,_,_,rfl⟩
   have e:(prods row u n (k+1))[j]?=some (row.getD (k+1+j) 0*u (k+1+j)):=by unfold prods; rw [List.getElem?_map,List.getElem?_range hj2]; rfl
   rw [hys,take_succ_of e,List.map_append]; rfl
  ·rintro ys σ H4 s4 hacc4 hl4 ⟨hys,_⟩
   have lp:(prods row u n (k+1)).length=n-(k+1):=by unfold prods; simp
   rw [List.take_of_length_le (by simp; omega)] at hys
   rw [hys] at hacc4
   refine ⟨acc,_,rfl,hacc4,?_⟩
   have s24:=s3.trans s4
   have bn:=back_num (r:=row) S.whole (by rw [←hrow]; exact S.sol k (by omega)) (k:=k) (by omega) (by rw [←hrow]; exact (S.dia k (by omega)).1) (by rw [←hrow]; exact (S.dia k (by omega)).2)
   refine ⟨_,rfl,_,rfl,b,_,_,_,rfl,rfl,SqL.of (s24 _ _ hB2),at_ints (by omega),_,rfl,_,_,rfl,rfl,⟨getD_big br (by omega),S.big.2.2⟩,_,rfl,_,_,rfl,rfl,_,rfl,_,rfl,b,_,_,_,rfl,rfl,SqL.of (s24 _ _ hB2),at_ints (by omega),_,_,rfl,rfl,
    ⟨by rw [←hrow]; exact (S.dia k (by omega)).1,getD_big br (by omega)⟩,by show 1≤sizeLine; decide,fun p2 hp2=>?_⟩
   (try dsimp only)
   rw [bn]
   have s5:=same_new hp2 (.lst [.int (u k)])
   refine ⟨_,rfl,p2,l,_,_,rfl,rfl,upd_same,s5 _ _ (s4 _ _ hl3),by simp [lf]; exact szle (by omega),fun p3 hp3=>?_⟩
   have s6:=same_new hp3 (.lst ([V.int (u k)]++(fnd u n (k+1)).map V.int))
   have sall:=sm.trans (s24.trans (s5.trans s6))
   refine ⟨sall,p3,_,_,_,rfl,(sm.trans (s24.trans s5)).free hp3,?_⟩
   unfold IntsL
   rw [upd_same,show n-(i+1)=k by omega,fnd_cons (show k<n by omega)]; rfl
 ·rintro σ H2 ⟨sm,l,u4,u5,u6,rfl,nl,hl⟩
  subst hUL1
  rw [Nat.sub_self] at hl
  refine ⟨_,rfl,l,rfl,⟨_,SqL.of hl⟩,fun acc hacc=>?_⟩
  have lf:(fnd u n 0).length=n:=by unfold fnd; simp
  refine comp_run (run_list hl) (by rw [List.length_map,lf]; omega) hacc (fun j ys σ hp=>∃ ds:List Addr,ys=ds.map V.ref∧At FrR hp ds (((List.range n).map x).take j)∧∃ v,σ=[v,some (.int c)]) ⟨[],rfl,At.nil,none,rfl⟩ ?_ ?_
  ·rintro j ys σ H4 z H5 hj s4 hacc4 ⟨ds,rfl,hD,v,rfl⟩ ⟨rfl,hx⟩ Cc hC
   have hj2:j<n:=by rw [List.length_map,lf] at hj; exact hj
   have g1:z=.int (u j):=by
    unfold fnd at hx
    rw [List.getElem?_map,List.getElem?_map,List.getElem?_range (by omega)] at hx
    have:=(Option.some.inj hx).symm
    rw [this]; simp
   subst g1
   refine ⟨_,rfl,_,rfl,u j,c,rfl,S.big.2.2,fun z=>absurd z S.c0,fun _ p hp=>?_⟩
   have ef:frac (u j) c=fr (x j):=by
    rw [frac_rat _ _ S.c0]
    have h1:=S.whole j hj2
    have h2:((c:Int):Rat)≠0:=by have:=S.c0; exact_mod_cast this
    have:((u j:Int):Rat) / ((c:Int):Rat)=x j:=by rw [h1]; grind
    rw [this]; rfl
   rw [ef]
   have s5:=same_new hp (.tup [.int (fr (x j)).1,.int (fr (x j)).2])
   refine hC _ _ _ s5 ⟨ds++[p],by simp,?_,_,rfl⟩
   have e:((List.range n).map x)[j]?=some (x j):=by rw [List.getElem?_map,List.getElem?_range hj2]; rfl
   rw [take_succ_of e]
   exact (hD.keep mo_fr (del_mono acc s5)).snoc (FrR.del (q:=x j) upd_same (s5 _ _ hacc4))
  ·rintro ys σ H4 s4 hacc4 hl4 ⟨ds,rfl,hD,v,rfl⟩
   rw [List.length_map,lf,List.take_of_length_le (by simp)] at hD
   refine ⟨acc,_,rfl,.inl ⟨SqL.of hacc4,fun p hp=>?_⟩⟩
   have s5:=same_new hp (.tup (ds.map V.ref))
   exact q p _ ((sm.trans s4).trans s5) ((sm.trans s4).free hp) ⟨ds,upd_same,(hD.keep mo_fr (del_sub H4 acc)).keep mo_fr s5⟩
end
end My
namespace My
open PySem L2 Mth Wd
section
variable {P:Program} {w:World} {K:PySem.W.Frag} {mg:Str->Option Value} {base:Heap} {f g h C C2 f1 f2 f3 f4:Addr} {fd gd hd d1 d2 d3 d4:FuncData}
theorem tfd {H:Hp} {a b:Addr} {r:List Rat} {ys:List V} (h:TupR FrR H b r) (e:H a=some (.lst ys)):TupR FrR (del H a) b r:=by
 obtain ⟨cs,h1,h2⟩:=h
 exact ⟨cs,del_at h1 (fun z=>by rw [z,e] at h1; cases h1),at_del e h2⟩
def joinT (T:List (List Rat)) (r:List Rat):List (List Rat):=List.zipWith (fun row q=>row++[q]) T r
theorem swp_of {B0 n d E' D : Nat} {J : List (List Rat)} (ok : TK n (n+1) d E' D J) (n0 : 0 < n) {T2 : List (List Int)} {Z : List (List Int × Vec)} {c : Int} {v : Frm} (hb : ((n+1) * B0) ^ n < 2 ^ 8000) (B : Bi B0 n (n+1) n ((whR J).map vr) T2 Z c v) :
    ∃ x u, Swp B0 n T2 c x u ∧ (∀ r ∈ J, fx n x (vq r) = 0) ∧ dt n (n+1) J ≠ 0 := by
  obtain ⟨rfl, eD⟩ := B.fin
  have lT := B.lenT
  have rowm : ∀ i, i < n → T2.getD i [] ∈ T2 := fun i hi => by
    rw [List.getD_eq_getElem?_getD, List.getElem?_eq_getElem (by omega)]; exact List.getElem_mem _
  obtain ⟨x, hx⟩ := back_ex (n := n) (fun i => vr (T2.getD i [])) (fun i hi => by
      have := (B.dia i hi).1
      show ((((T2.getD i []).getD i 0 : Int)) : Rat) ≠ 0
      exact_mod_cast this) (fun i j hi hj => by
      show ((((T2.getD i []).getD j 0 : Int)) : Rat) = 0
      rw [(B.dia i hi).2 j hj]; rfl) n (Nat.le_refl _)
  have hx0 : ∀ i, i < n → fx n x (vr (T2.getD i [])) = 0 := fun i hi => hx i (by omega) hi
  have hA : ∀ a ∈ (whR J).map vr, fx n x a = 0 := B.lin2 (fx n x) (fx_lin n x) (fun r hr => by
    obtain ⟨i, hi, er⟩ := List.getElem_of_mem hr
    have := hx0 i (by omega)
    rw [List.getD_eq_getElem?_getD, List.getElem?_eq_getElem hi] at this
    simp only [Option.getD_some] at this
    rw [er] at this; exact this) (by simp)
  have pz : ((c : Int) : Rat) ≠ 0 := by have := B.pz; exact_mod_cast this
  have wv : v = wgs ((whR J).map vr) one := B.all
  have ex : ∀ j : Nat, ∃ k : Int, j < n → ((k : Int) : Rat) = c * x j ∧ Big k := by
    intro j
    by_cases hj : j < n
    · obtain ⟨l1, l2, l3⟩ := cramer hA hj
      rw [eD, ← wv] at l3
      obtain ⟨k, hk⟩ := B.intw (crS n j)
      have bw := B.bdw (crS n j)
      rw [l1, hk] at bw
      have hbk : k.natAbs ≤ ((n+1) * B0) ^ n := ab_nat bw
      rcases l2 with h1 | h1
      · refine ⟨k, fun _ => ⟨?_, Nat.lt_of_le_of_lt hbk hb⟩⟩
        rw [← hk]; rw [h1] at l3; grind
      · refine ⟨-k, fun _ => ⟨?_, by unfold Big; rw [Int.natAbs_neg]; exact Nat.lt_of_le_of_lt hbk hb⟩⟩
        rw [Rat.intCast_neg, ← hk]; rw [h1] at l3; grind
    · exact ⟨0, fun h => absurd h hj⟩
  obtain ⟨u, hu⟩ := Classical.axiomOfChoice ex
  have bigT : ∀ r ∈ T2, ∀ y ∈ r, Big y := fun r hr y hy => by
    obtain ⟨j, rfl⟩ := Wd.mem_getD hy
    exact Nat.lt_of_le_of_lt (ab_nat (B.bdt r hr j)) hb
  refine ⟨x, u, ⟨n0, lT, B.colT, B.pz, B.last n0, B.dia, hx0, fun j hj => (hu j hj).1, bigT, fun j hj => (hu j hj).2, big_p B hb⟩, ?_, ?_⟩
  · intro r hr
    obtain ⟨c1, c2, _⟩ := ok.hcb hr
    have h1 := hA (vr (r.map (wh (cb r)))) (List.mem_map_of_mem (List.mem_map.mpr ⟨r, hr, rfl⟩))
    rw [vr_wh c2] at h1
    exact (fx_scale (by have : cb r ≠ 0 := by omega
                        exact_mod_cast this)).mp h1
  · intro z
    have sc := dt_scaled (n := n) (m := n+1) J cb (fun r hr => (ok.hcb hr).2.1)
    rw [z] at sc
    have e2 : ld n (n+1) (wgs ((whR J).map vr) one) = c := eD
    have : ((c : Int) : Rat) = 0 := by rw [← e2]; unfold whR; rw [sc]; grind
    exact pz this
inductive SpAnswerR (C2:Addr) (vs:List V) (H:Hp) (Q:VK) (E:XK):Prop
 | mk (a b:Addr) (T:List (List Rat)) (r:List Rat) (n d E' D:Nat) (h_0:vs=[.ref a,.ref b]) (h_1:TupR (TupR FrR) H a T) (h_2:TupR FrR H b r) (h_3:T.length=n) (h_4:r.length=n) (h_5:(∀ x∈T,x.length=n)) (h_6:TK n (n+1) d E' D (joinT T r)) (h_7:(dt n (n+1) (joinT T r)=0->∀ H',Same H H'->False)) (h_8:(dt n (n+1) (joinT T r)≠0->∀ p H' x,Same H H'->(∀ y∈joinT T r,fx n x (vq y)=0)->TupR FrR H' p ((List.range n).map x)->Q (.ref p) H')):SpAnswerR C2 vs H Q E
def spAnswer (C2:Addr):Sp:=fun vs H Q E=>SpAnswerR C2 vs H Q E
theorem scAn:FnScope ["table","right","joined","rows"] ["table","right"] (defScope sAnswer):=⟨rfl,rfl,rfl,by decide +kernel,rfl,by decide +kernel,by decide +kernel⟩
theorem ndRN:(["row","number"]:List Str).Nodup:=by decide +kernel
theorem ok_answer (F:Fun K "answer" "answer" sAnswer f fd) (G1:FnOk P w K mg base CX0 2 f1 d1 ["row"] spCB) (b1:Binds K d1 ["row"] []) (k1:PySem.W.keepIn K (.ref f1)=true) (m1:mg "common_bottom" = some (.ref f1))
  (G2:FnOk P w K mg base CX0 1 f2 d2 ["row","bottom"] spWholes) (b2:Binds K d2 ["row","bottom"] []) (k2:PySem.W.keepIn K (.ref f2)=true) (m2:mg "wholes" = some (.ref f2))
  (G3:FnOk P w K mg base CX0 2 f3 d3 ["rows"] spSwept) (b3:Binds K d3 ["rows"] []) (k3:PySem.W.keepIn K (.ref f3)=true) (m3:mg "swept" = some (.ref f3))
  (G4:FnOk P w K mg base CX0 3 f4 d4 ["rows"] spBack) (b4:Binds K d4 ["rows"] []) (k4:PySem.W.keepIn K (.ref f4)=true) (m4:mg "found_back" = some (.ref f4))
  (ml:mg "len" = none) (mz:mg "zip" = none):FnOk P w K mg base CX0 4 f fd ["table","right"] (spAnswer C2):=by
 refine F.ok scAn (fun vs H Q E h=>?_) (fun cdv A outer s H vs Q E hr h=>?_)
 ·obtain ⟨a,b,T,r,n,d,E',D,rfl,_⟩:=h
  rfl
 obtain ⟨a,b,T,r,n,d,E',D,rfl,⟨bs,ha,hA⟩,⟨cs,hb,hB⟩,lT,lr,cT,ok,q0,q1⟩:=h
 have hr2:=hr.mono (show 2≤3 by decide)
 have hr1:=hr.mono (show 1≤3 by decide)
 refine ⟨_,pss_cons (ps_if (pt_cmpR op_eq (pe_callB call_len_seq (by rfl) ml bt_len (pa_cons (pv 0) pa_nil)) pe_int (nomark _)) (pss_one (ps_ret (pe_tup pa_nil))) pss_nil)
  (pss_cons (ps_setComp (i:=2) scAn.nd rfl (Or.inl rfl) (Nc:=["row","number"]) (cap:=[]) (g:=gTup K 2 (gCons (gName 0) (gCons (gName 1) gNil))) (te:=tOp (rCatT K) (tVar 0) (tTup (tCons (tVar 1) tNil))) rfl (pi_zipK (t1:=true) (t2:=true) (by rfl) mz (pa_cons (pv 0) (pa_cons (pv 1) pa_nil)))
   (comp_mk rfl rfl (by decide +kernel) (by decide +kernel) (List.forall_mem_nil _) rfl (List.forall_mem_nil _)) (fun C fp pins s' H'=>pg_tup rfl (pgs_cons (pg_name (i:=0) ndRN rfl (Or.inl rfl)) (pgs_cons (pg_name (i:=1) ndRN rfl (Or.inl rfl)) pgs_nil)))
   (fun C fp pins s' H'=>pe_op op_catT (pv 0) (pe_tup (pa_cons (pv 1) pa_nil))))
  (pss_cons (ps_set (i:=3) scAn.nd rfl (Or.inl rfl) (pe_call (CX:=CX0) G3 hr2 (by rfl) m3 k3 b3 .nil (pass0 (X:=_)) (pa_cons (pe_comp (Nc:=["row"]) (cap:=[]) (g:=gName 0) (te:=tCall spWholes [] E0 (tCons (tVar 0) (tCons (tCall spCB [] E0 (tCons (tVar 0) tNil)) tNil))) rfl (pi_list (pv 2))
   (comp_mk rfl rfl (by decide +kernel) (by decide +kernel) (List.forall_mem_nil _) rfl (List.forall_mem_nil _)) (fun C fp pins s' H'=>pg_name (i:=0) ndRo rfl (Or.inl rfl))
   (fun C fp pins s' H'=>pe_call G2 hr1 (by rfl) m2 k2 b2 .nil pass0 (pa_cons (pv 0) (pa_cons (pe_call G1 hr2 (by rfl) m1 k1 b1 .nil pass0 (pa_cons (pv 0) pa_nil)) pa_nil)))) pa_nil)))
  (pss_cons (ps_if (pt_cmpR op_isN (pv 3) pe_non (nomark _)) (pss_one ps_never) pss_nil)
  (pss_one (ps_ret (pe_call (CX:=CX0) G4 hr (by rfl) m4 k4 b4 .nil (pass0 (X:=_)) (pa_cons (pv 3) pa_nil))))))),?_⟩
 have lb:bs.length=n:=by rw [hA.1]; exact lT
 have lc:cs.length=n:=by rw [hB.1]; exact lr
 have n15:=ok.m15
 refine ⟨_,rfl,a,_,rfl,.inr (SqT.of ha),rfl,_,rfl,?_⟩
 by_cases hn0:n=0
 ·subst hn0
  refine iteDT (iv (by rw [List.length_map,lb]; rfl)) ?_
  have e1:T=[]:=List.length_eq_zero_iff.mp lT
  subst e1
  refine ⟨by show 0≤sizeLine; decide,fun p hp=>q1 ?_ p _ (fun _=>0) (same_new hp _) (by simp [joinT]) ⟨[],upd_same,At.nil⟩⟩
  have:dt 0 1 (joinT [] r)=1:=by unfold dt joinT; exact ld_one 1
  rw [this]; grind
 refine iteDF (ivn (by rw [List.length_map,lb]; omega)) ?_
 have lJ:(joinT T r).length=n:=ok.len
 have jg:∀ i row q,T[i]?=some row->r[i]?=some q->(joinT T r)[i]?=some (row++[q]):=fun i row q h1 h2=>by
  unfold joinT
  rw [List.getElem?_zipWith,h1,h2]
 refine ⟨_,rfl,_,rfl,a,b,rfl,⟨_,SqS.t ha⟩,⟨_,SqS.t hb⟩,fun acc hacc=>?_⟩
 refine comp_run (run_zip (xs:=bs.map V.ref) (ys:=cs.map V.ref) (fun H3 s=>SqS.t (s _ _ ha)) (fun H3 s=>SqS.t (s _ _ hb)) (by rw [List.length_map,List.length_map]; omega)) (by rw [List.length_map]; omega) hacc
  (fun i ys σ hp=>∃ ds:List Addr,ys=ds.map V.ref∧At (TupR FrR) hp ds ((joinT T r).take i)∧∃ u v,σ=[u,v]) ⟨[],rfl,At.nil,none,none,rfl⟩ ?_ ?_
 ·rintro i ys σ H3 z H4 hi sm hacc3 ⟨ds,rfl,hD,u,v,rfl⟩ ⟨t,n1,n2,rfl,ht,rfl,hn1,hn2⟩ Cc hC
  obtain ⟨c1,row,rfl,_,hrow,es,hes,hEs⟩:=hA.ref hn1
  obtain ⟨c2,qq,rfl,_,hqq,hfq⟩:=hB.ref hn2
  have s3:Same H3 (upd H3 t (.tup [.ref c1,.ref c2])):=same_new ht _
  have rl:row.length=n:=cT row (List.mem_of_getElem? hrow)
  have esl:es.length=n:=by rw [hEs.1]; exact rl
  refine ⟨t,_,rfl,SqT.of upd_same,rfl,_,_,rfl,_,_,rfl,rfl,?_⟩
  refine ⟨_,rfl,_,rfl,by show 1≤sizeLine; decide,fun t1 ht1=>?_⟩
  have s4:=same_new ht1 (.tup [.ref c2])
  have s34:=s3.trans s4
  refine ⟨c1,t1,es.map V.ref,[.ref c2],rfl,rfl,SqT.of (s34 _ _ (sm _ _ hes)),SqT.of upd_same,?_,by simp; exact szle (by omega),fun z=>by simp at z,fun _ p hp=>?_⟩
  ·intro z
   have z2:=congrArg List.length z
   simp only [List.length_map,List.length_nil] at z2
   omega
  have s5:=same_new hp (.tup (es.map V.ref++[.ref c2]))
  have s35:=s34.trans s5
  refine hC _ _ _ s35 ⟨ds++[p],by simp,?_,_,_,rfl⟩
  rw [take_succ_of (jg i row qq hrow hqq)]
  refine (hD.keep mo_tf (del_mono acc s35)).snoc (tfd ⟨es++[c2],by rw [upd_same]; simp,?_⟩ (s35 _ _ hacc3))
  exact (hEs.keep mo_fr (sm.trans s35)).snoc ((sm.trans s35) _ _ hfq)
 rintro ys σ1 H2 s2 hacc2 hl2 ⟨ds,rfl,hD,u,v,rfl⟩
 rw [List.length_map,lb,List.take_of_length_le (by omega)] at hD
 have hD2:=hD.keep mo_tf (del_sub H2 acc)
 have ld2:ds.length=n:=by rw [hD.1]; exact lJ
 refine ⟨_,rfl,acc,rfl,⟨_,SqL.of hacc2⟩,fun ac2 hac2=>?_⟩
 refine comp_run (run_list hacc2) (by rw [List.length_map]; omega) hac2 (fun i ys σ hp=>∃ gs:List Addr,ys=gs.map V.ref∧At IntsL hp gs ((whR (joinT T r)).take i)∧∃ u,σ=[u]) ⟨[],rfl,At.nil,none,rfl⟩ ?_ ?_
 ·rintro i ys σ H3 z H4 hi sm hac3 ⟨gs,rfl,hG,u,rfl⟩ ⟨rfl,hx⟩ Cc hC
  obtain ⟨c,row,rfl,_,hrow,hR⟩:=hD2.ref hx
  have rm:row∈joinT T r:=List.mem_of_getElem? hrow
  have hR3:=mo_tf sm hR
  have:=ok.bd
  refine ⟨_,rfl,_,rfl,c,row,d,rfl,hR3,fun q hq=>ok.den row rm q hq,by rw [ok.col row rm]; omega,?_⟩
  refine ⟨c,row,cb row,rfl,hR3,by rw [ok.col row rm]; omega,ok.wb rm,fun p H5 s5 np hp=>?_⟩
  refine hC _ _ _ s5 ⟨gs++[p],by simp,?_,_,rfl⟩
  have ne:p≠ac2:=fun z=>by rw [z,hac3] at np; cases np
  have e3:(whR (joinT T r))[i]?=some (row.map (wh (cb row))):=by unfold whR; rw [List.getElem?_map,hrow]; rfl
  rw [take_succ_of e3]
  exact (hG.keep mo_ints (del_mono ac2 s5)).snoc (del_at hp ne)
 rintro ys σ2 H3 s3 hac3 hl3 ⟨gs,rfl,hG,u,rfl⟩
 have lw:(whR (joinT T r)).length=n:=by unfold whR; rw [List.length_map]; exact lJ
 rw [List.length_map,ld2,List.take_of_length_le (by omega)] at hG
 refine ⟨ac2,whR (joinT T r),n,n+1,2 ^ E',rfl,⟨gs,hac3,hG.keep mo_ints (del_sub H3 ac2)⟩,lw,by omega,by omega,fun r hr=>(ok.hwh r hr).1,Nat.one_le_two_pow,fun r hr=>(ok.hwh r hr).2,ok.big,?_,?_⟩
 ·intro H4 s4 h0
  refine ⟨_,rfl,rfl,_,rfl,iteDT rfl ?_⟩
  refine q0 ?_ H4 (s2.trans (s3.trans s4))
  have sc:=dt_scaled (n:=n) (m:=n+1) (joinT T r) cb (fun r hr=>(ok.hcb hr).2.1)
  obtain ⟨pp,pl⟩:=prodB_ok ((joinT T r).map cb) (d:=D) (fun b hb=>by
   obtain ⟨r,hr,rfl⟩:=List.mem_map.mp hb
   exact ⟨(ok.hcb hr).1,(ok.hcb hr).2.2⟩)
  have pq:((prodB ((joinT T r).map cb):Int):Rat)≠0:=by
   have:prodB ((joinT T r).map cb)≠0:=by omega
   exact_mod_cast this
  have h1:((prodB ((joinT T r).map cb):Int):Rat)*dt n (n+1) (joinT T r)=0:=by rw [←sc]; exact h0
  grind
 ·intro p H4 T2 s4 hL ⟨Z,c,v,B⟩
  refine ⟨_,rfl,rfl,_,rfl,iteDF (fun z=>by cases z) ?_⟩
  obtain ⟨x,u,S,hx,hd⟩:=swp_of ok (by omega) ok.big B
  exact ⟨_,rfl,p,_,n,T2,c,x,u,rfl,hL,by omega,S,fun p5 H5 s5 np5 hp5=>q1 hd p5 H5 x (s2.trans (s3.trans (s4.trans s5))) hx hp5⟩
end
end My
namespace My
open PySem L2 Mth Wd
section
variable {P:Program} {w:World} {K:PySem.W.Frag} {mg:Str->Option Value} {base:Heap} {f g C:Addr} {fd gd:FuncData}
abbrev GivQ (H:Hp) (Q:VK) (q:Rat):Prop:=∀ p,H p=none->Q (.ref p) (upd H p (.tup [.int q.num,.int q.den]))
abbrev Sf (q:Rat):Prop:=Sb 3900 3900 q
theorem Sf.n {q:Rat} (h:Sf q):Big q.num:=big2 h.1 (by decide)
theorem Sf.d {q:Rat} (h:Sf q):Big (q.den:Int):=big2 (n:=3900) (by simpa using h.2) (by decide)
theorem Sf.dd {p q:Rat} (h:Sf p) (g:Sf q):Big ((p.den:Int)*(q.den:Int)):=by
 refine big2 (n:=7800) ?_ (by decide)
 rw [Int.natAbs_mul,Int.natAbs_natCast,Int.natAbs_natCast]
 exact pmul h.2 g.2
inductive SpBinR (op:Rat->Rat->Rat) (vs:List V) (H:Hp) (Q:VK):Prop
 | mk (p q:Addr) (x y:Rat) (h_0:vs=[.ref p,.ref q]) (h_1:FrR H p x) (h_2:FrR H q y) (h_3:Sf x) (h_4:Sf y) (h_5:GivQ H Q (op x y)):SpBinR op vs H Q
def spBin (op:Rat->Rat->Rat):Sp:=fun vs H Q _=>SpBinR op vs H Q
theorem scPlu:FnScope ["one","other"] ["one","other"] (defScope sPlus):=⟨rfl,rfl,rfl,by decide +kernel,rfl,by decide +kernel,by decide +kernel⟩
theorem ok_plus (F:Fun K "plus" "plus" sPlus f fd) (G:FnOk P w K mg base CX0 2 g gd ["top","bottom"] (spFrac C)) (bG:Binds K gd ["top","bottom"] []) (kG:PySem.W.keepIn K (.ref g)=true) (mG:mg "fraction" = some (.ref g)) :
  FnOk P w K mg base CX0 3 f fd ["one","other"] (spBin fun x y=>x+y):=by
 refine F.ok scPlu (fun vs H Q E h=>?_) (fun cdv A outer s H vs Q E hr h=>?_)
 ·obtain ⟨p,q,x,y,rfl,_⟩:=h
  rfl
 obtain ⟨p,q,x,y,rfl,hp,hq,sx,sy,k⟩:=h
 refine ⟨_,pss_one (ps_ret (pe_call (CX:=CX0) G hr (by rfl) mG kG bG .nil pass0 (pa_cons (pe_op op_add (pe_op op_mulB (pe_ix ix_tup (pv 0) pe_int (fun _ _=>rfl)) (pe_ix ix_tup (pv 1) pe_int (fun _ _=>rfl))) (pe_op op_mulB (pe_ix ix_tup (pv 1) pe_int (fun _ _=>rfl)) (pe_ix ix_tup (pv 0) pe_int (fun _ _=>rfl)))) (pa_cons (pe_op op_mulB (pe_ix ix_tup (pv 0) pe_int (fun _ _=>rfl)) (pe_ix ix_tup (pv 1) pe_int (fun _ _=>rfl))) pa_nil)))),?_⟩
 refine ⟨_,rfl,p,_,_,_,rfl,rfl,SqT.of hp,at0,_,rfl,q,_,_,_,rfl,rfl,SqT.of hq,at1,_,_,rfl,rfl,⟨sx.n,sy.d⟩,_,rfl,q,_,_,_,rfl,rfl,SqT.of hq,at0,_,rfl,p,_,_,_,rfl,rfl,SqT.of hp,at1,_,_,rfl,rfl,⟨sy.n,sx.d⟩,_,_,rfl,rfl,
  _,rfl,p,_,_,_,rfl,rfl,SqT.of hp,at1,_,rfl,q,_,_,_,rfl,rfl,SqT.of hq,at1,_,_,rfl,rfl,⟨sx.d,sy.d⟩,_,_,rfl,Sf.dd sx sy,fun z=>absurd z (dnz x y),fun _ t ht=>?_⟩
 have e:=fr_add x y
 have q1:=k t ht
 have e1:=congrArg Prod.fst e
 have e2:=congrArg Prod.snd e
 simp only [fr] at e1 e2
 rw [e1,e2]
 exact q1
theorem scMin:FnScope ["one","other"] ["one","other"] (defScope sMinus):=⟨rfl,rfl,rfl,by decide +kernel,rfl,by decide +kernel,by decide +kernel⟩
theorem ok_minus (F:Fun K "minus" "minus" sMinus f fd) (G:FnOk P w K mg base CX0 2 g gd ["top","bottom"] (spFrac C)) (bG:Binds K gd ["top","bottom"] []) (kG:PySem.W.keepIn K (.ref g)=true) (mG:mg "fraction" = some (.ref g)) :
  FnOk P w K mg base CX0 3 f fd ["one","other"] (spBin fun x y=>x-y):=by
 refine F.ok scMin (fun vs H Q E h=>?_) (fun cdv A outer s H vs Q E hr h=>?_)
 ·obtain ⟨p,q,x,y,rfl,_⟩:=h
  rfl
 obtain ⟨p,q,x,y,rfl,hp,hq,sx,sy,k⟩:=h
 refine ⟨_,pss_one (ps_ret (pe_call (CX:=CX0) G hr (by rfl) mG kG bG .nil pass0 (pa_cons (pe_op op_sub (pe_op op_mulB (pe_ix ix_tup (pv 0) pe_int (fun _ _=>rfl)) (pe_ix ix_tup (pv 1) pe_int (fun _ _=>rfl))) (pe_op op_mulB (pe_ix ix_tup (pv 1) pe_int (fun _ _=>rfl)) (pe_ix ix_tup (pv 0) pe_int (fun _ _=>rfl)))) (pa_cons (pe_op op_mulB (pe_ix ix_tup (pv 0) pe_int (fun _ _=>rfl)) (pe_ix ix_tup (pv 1) pe_int (fun _ _=>rfl))) pa_nil)))),?_⟩
 refine ⟨_,rfl,p,_,_,_,rfl,rfl,SqT.of hp,at0,_,rfl,q,_,_,_,rfl,rfl,SqT.of hq,at1,_,_,rfl,rfl,⟨sx.n,sy.d⟩,_,rfl,q,_,_,_,rfl,rfl,SqT.of hq,at0,_,rfl,p,_,_,_,rfl,rfl,SqT.of hp,at1,_,_,rfl,rfl,⟨sy.n,sx.d⟩,_,_,rfl,rfl,
  _,rfl,p,_,_,_,rfl,rfl,SqT.of hp,at1,_,rfl,q,_,_,_,rfl,rfl,SqT.of hq,at1,_,_,rfl,rfl,⟨sx.d,sy.d⟩,_,_,rfl,Sf.dd sx sy,fun z=>absurd z (dnz x y),fun _ t ht=>?_⟩
 have e:=fr_sub x y
 have q1:=k t ht
 have e1:=congrArg Prod.fst e
 have e2:=congrArg Prod.snd e
 simp only [fr] at e1 e2
 rw [e1,e2]
 exact q1
theorem scTim:FnScope ["one","other"] ["one","other"] (defScope sTimes):=⟨rfl,rfl,rfl,by decide +kernel,rfl,by decide +kernel,by decide +kernel⟩
theorem ok_times (F:Fun K "times" "times" sTimes f fd) (G:FnOk P w K mg base CX0 2 g gd ["top","bottom"] (spFrac C)) (bG:Binds K gd ["top","bottom"] []) (kG:PySem.W.keepIn K (.ref g)=true) (mG:mg "fraction" = some (.ref g)) :
  FnOk P w K mg base CX0 3 f fd ["one","other"] (spBin fun x y=>x*y):=by
 refine F.ok scTim (fun vs H Q E h=>?_) (fun cdv A outer s H vs Q E hr h=>?_)
 ·obtain ⟨p,q,x,y,rfl,_⟩:=h
  rfl
 obtain ⟨p,q,x,y,rfl,hp,hq,sx,sy,k⟩:=h
 refine ⟨_,pss_one (ps_ret (pe_call (CX:=CX0) G hr (by rfl) mG kG bG .nil pass0 (pa_cons (pe_op op_mulB (pe_ix ix_tup (pv 0) pe_int (fun _ _=>rfl)) (pe_ix ix_tup (pv 1) pe_int (fun _ _=>rfl))) (pa_cons (pe_op op_mulB (pe_ix ix_tup (pv 0) pe_int (fun _ _=>rfl)) (pe_ix ix_tup (pv 1) pe_int (fun _ _=>rfl))) pa_nil)))),?_⟩
 refine ⟨_,rfl,p,_,_,_,rfl,rfl,SqT.of hp,at0,_,rfl,q,_,_,_,rfl,rfl,SqT.of hq,at0,_,_,rfl,rfl,⟨sx.n,sy.n⟩,
  _,rfl,p,_,_,_,rfl,rfl,SqT.of hp,at1,_,rfl,q,_,_,_,rfl,rfl,SqT.of hq,at1,_,_,rfl,rfl,⟨sx.d,sy.d⟩,_,_,rfl,Sf.dd sx sy,fun z=>absurd z (dnz x y),fun _ t ht=>?_⟩
 have e:=fr_mul x y
 have q1:=k t ht
 have e1:=congrArg Prod.fst e
 have e2:=congrArg Prod.snd e
 simp only [fr] at e1 e2
 rw [e1,e2]
 exact q1
end
end My
namespace My
open PySem L2 Mth Wd
abbrev LF:Hp->Addr->List Rat->Prop:=LstR FrR
theorem mo_lf:Mo LF:=fun s h=>mo_lst (R:=FrR) (fun s h=>mo_fr s h) s h
theorem lf_del {H:Hp} {a b:Addr} {r:List Rat} {ys:List V} (h:LF H b r) (n:b≠a) (e:H a=some (.lst ys)):LF (del H a) b r:=by
 obtain ⟨cs,h1,h2⟩:=h
 exact ⟨cs,del_at h1 n,at_del e h2⟩
theorem fr_upd {H:Hp} {a:Addr} {bs:List Addr} {qs:List Rat} {ys:List V} (h:At FrR H bs qs) (e:H a=some (.lst ys)) (o:HO):At FrR (upd H a o) bs qs:=(at_del e h).keep mo_fr (del_up H a o)
def RopeR (H:Hp) (b:Addr) (r:Rope):Prop:=∃ e,H b=some (.tup [.int (r.1:Int),.int (r.2.1:Int),.ref e])∧FrR H e r.2.2
theorem mo_rope:Mo RopeR:=fun s ⟨e,h1,h2⟩=>⟨e,s _ _ h1,s _ _ h2⟩
def NetR (H:Hp) (a:Addr) (n:Nat) (rs:List Rope):Prop:=∃ (r:Addr) (t:V),H a=some (.tup [.int (n:Int),.ref r,t])∧TupR RopeR H r rs
theorem mo_net {H H':Hp} {a:Addr} {n:Nat} {rs:List Rope} (s:Same H H') (h:NetR H a n rs):NetR H' a n rs:=by
 obtain ⟨r,t,h1,h2⟩:=h
 exact ⟨r,t,s _ _ h1,mo_tup (R:=RopeR) (fun s h=>mo_rope s h) s h2⟩
structure Mat (H:Hp) (R:Addr) (bs:List Addr) (T:List (List Rat)):Prop where
 h1:H R=some (.lst (bs.map V.ref))
 rows:At LF H bs T
 nd:(R :: bs).Nodup
theorem Mat.keep {H H':Hp} {R:Addr} {bs:List Addr} {T:List (List Rat)} (M:Mat H R bs T) (s:Same H H'):Mat H' R bs T:=⟨s _ _ M.h1,M.rows.keep mo_lf s,M.nd⟩
theorem nd_at {l:List Addr} (h:l.Nodup) {i j:Nat} {b:Addr} (h1:l[i]?=some b) (h2:l[j]?=some b):i=j:=by
 obtain ⟨i1,e1⟩:=List.getElem?_eq_some_iff.mp h1
 obtain ⟨j1,e2⟩:=List.getElem?_eq_some_iff.mp h2
 have hp:=List.pairwise_iff_getElem.mp h
 rcases Nat.lt_trichotomy i j with z | z | z
 ·exact absurd (e1.trans e2.symm) (hp i j i1 j1 z)
 ·exact z
 ·exact absurd (e2.trans e1.symm) (hp j i j1 i1 z)
theorem Mat.put {H:Hp} {R b p:Addr} {bs cs:List Addr} {T:List (List Rat)} {i j:Nat} {v:Rat} (M:Mat H R bs T) (hb:bs[i]?=some b) (hc:H b=some (.lst (cs.map V.ref))) (hr:At FrR H cs (T.getD i [])) (hp:FrR H p v) :
  Mat (upd H b (.lst ((cs.map V.ref).set j (.ref p)))) R bs (setE T i j v):=by
 have bm:b∈bs:=List.mem_of_getElem? hb
 obtain ⟨n1,n2⟩:=List.nodup_cons.mp M.nd
 have e1:R≠b:=fun z=>n1 (by rw [z]; exact bm)
 refine ⟨by rw [upd_ne e1]; exact M.h1,⟨by unfold setE; rw [List.length_set]; exact M.rows.1,fun k c x q1 q2=>?_⟩,M.nd⟩
 unfold setE at q2
 by_cases hk:i=k
 ·subst hk
  rw [hb] at q1
  cases q1
  have hl:i<T.length:=by rw [←M.rows.1]; exact (List.getElem?_eq_some_iff.mp hb).1
  rw [List.getElem?_set_self hl] at q2
  cases q2
  refine ⟨cs.set j p,by rw [upd_same,List.map_set],fr_upd (hr.set j hp) hc _⟩
 ·rw [List.getElem?_set_ne hk] at q2
  have ne:c≠b:=fun z=>hk (nd_at n2 hb (by rw [q1,z]))
  exact mo_lf (del_up H b _) (lf_del (M.rows.2 k c x q1 q2) ne hc)
theorem Mat.get {H:Hp} {R:Addr} {bs:List Addr} {T:List (List Rat)} {n i j:Nat} (M:Mat H R bs T) (q:Sq n T) (hi:i<n) (hj:j<n):∃ b cs c,bs[i]?=some b∧H b=some (.lst (cs.map V.ref))∧At FrR H cs (T.getD i [])∧cs[j]?=some c∧FrR H c (en T i j)∧cs.length=n:=by
 obtain ⟨l,e⟩:=q.row hi
 obtain ⟨b,hb,cs,h1,h2⟩:=M.rows.get e
 have ej:(T.getD i [])[j]?=some ((T.getD i [])[j]'(by omega)):=List.getElem?_eq_getElem _
 obtain ⟨c,h3,h4⟩:=h2.get ej
 refine ⟨b,cs,c,hb,h1,h2,h3,?_,by rw [h2.1]; exact l⟩
 have:en T i j=(T.getD i [])[j]'(by omega):=by unfold en; rw [List.getD_eq_getElem?_getD,ej]; rfl
 rw [this]; exact h4
theorem rep_ref (n:Nat) (t:Addr):(List.replicate n [V.ref t]).flatten=(List.replicate n t).map V.ref:=by
 induction n with
 | zero=>rfl
 | succ n ih=>rw [List.replicate_succ,List.flatten_cons,ih,List.replicate_succ]; rfl
section
variable {P:Program} {w:World} {K:PySem.W.Frag} {mg:Str->Option Value} {base:Heap} {f g h C f1 f2:Addr} {fd gd hd d1 d2:FuncData}
theorem rd_put {σ:St} {H H0:Hp} {D:Ends} {op:Rat->Rat->Rat} {R e:Addr} {bs:List Addr} {T:List (List Rat)} {n i j a b:Nat} {q:Rat} (hR:σ[1]?=some (some (.ref R))) (ha:σ[a]?=some (some (.int (i:Int)))) (hb:σ[b]?=some (some (.int (j:Int)))) (he:σ[4]?=some (some (.ref e)))
  (M:Mat H R bs T) (sq:Sq n T) (hi:i<n) (hj:j<n) (fe:FrR H e q) (s1:Sf (en T i j)) (s2:Sf q) (sm:Same H0 H) (fr:∀ b∈bs,H0 b=none)
  (k:∀ H',Same H0 H'->Mat H' R bs (setE T i j (op (en T i j) q))->FrR H' e q->D.nx σ H') :
  tAsg (tCall (spBin op) [] E0 (tCons (tOp (rIxL K) (tOp (rIxL K) (tVar 1) (tVar a)) (tVar b)) (tCons (tVar 4) tNil))) (gSub (tOp (rIxL K) (tVar 1) (tVar a)) (tVar b) rSetL) D σ H:=by
 obtain ⟨b1,cs,c,h1,h2,h3,h4,h5,h6⟩:=M.get sq hi hj
 refine ⟨_,hR,_,ha,R,_,_,_,rfl,rfl,SqL.of M.h1,atI_nat (ref_at h1),_,hb,b1,_,_,_,rfl,rfl,SqL.of h2,atI_nat (ref_at h4),_,he,c,e,_,_,rfl,h5,fe,s1,s2,fun p hp=>?_⟩
 have s3:=same_new hp (.tup [.int (op (en T i j) q).num,.int (op (en T i j) q).den])
 refine ⟨_,hR,_,ha,R,_,_,_,rfl,rfl,SqL.of (s3 _ _ M.h1),atI_nat (ref_at h1),_,hb,b1,_,_,_,rfl,rfl,s3 _ _ h2,ixN_nat (by rw [List.length_map]; omega),?_⟩
 have bn:H0 b1=none:=fr b1 (List.mem_of_getElem? h1)
 refine k _ (same_up (sm.trans s3) bn _) ((M.keep s3).put h1 (s3 _ _ h2) (h3.keep mo_fr s3) upd_same) ?_
 exact mo_fr (del_up _ b1 _) (FrR.del (s3 _ _ fe) (s3 _ _ h2))
inductive SpETabR (vs:List V) (H:Hp) (Q:VK):Prop
 | mk (a:Addr) (n α β:Nat) (rs:List Rope) (h_0:vs=[.ref a]) (h_1:NetR H a n rs) (h_2:n≤100) (h_3:rs.length≤100) (h_4:(∀ r∈rs,r.1<n∧r.2.1<n∧Sb α β r.2.2)) (h_5:α+(β+1)*rs.length≤3900) (h_6:β*rs.length≤3900) (h_7:∀ p H',Same H H'->TupR (TupR FrR) H' p (lapT n rs)->Q (.ref p) H'):SpETabR vs H Q
def spETab:Sp:=fun vs H Q _=>SpETabR vs H Q
theorem scET:FnScope ["net","rows","one","other","ease"] ["net"] (defScope sEaseTable):=⟨rfl,rfl,rfl,by decide +kernel,rfl,by decide +kernel,by decide +kernel⟩
theorem ndPN:(["place","net"]:List Str).Nodup:=by decide +kernel
theorem ndRo':(["row"]:List Str).Nodup:=by decide +kernel
def rTupOf (K:PySem.W.Frag):List V->Hp->VK->Prop:=fun xs H Q=>∃ p ys,xs=[.ref p]∧((SqL K H p ys∧∀ l,H l=none->Q (.ref l) (upd H l (.tup ys)))∨(SqT K H p ys∧Q (.ref p) H))
theorem tfd' {H:Hp} {a b:Addr} {r:List Rat} {ys:List V} (h:TupR FrR H b r) (e:H a=some (.lst ys)):TupR FrR (del H a) b r:=by
 obtain ⟨cs,h1,h2⟩:=h
 exact ⟨cs,del_at h1 (fun z=>by rw [z,e] at h1; cases h1),at_del e h2⟩
theorem mo_tf':Mo (TupR FrR):=fun s h=>mo_tup (R:=FrR) (fun s h=>mo_fr s h) s h
theorem lapR_sb {α β:Nat} {r:Rope} (h:Sb α β r.2.2) (i j:Nat):lapR r i j=0∨lapR r i j=r.2.2∨lapR r i j=-r.2.2:=by
 unfold lapR
 by_cases e:r.1=r.2.1
 ·rw [if_pos e]; exact .inl rfl
 ·rw [if_neg e]
  by_cases a:i=r.1∧j=r.1
  ·have b:¬ (i=r.2.1∧j=r.2.1):=fun z=>e (a.1.symm.trans z.1)
   have c:¬ (i=r.1∧j=r.2.1):=fun z=>e (a.2.symm.trans z.2)
   have d:¬ (i=r.2.1∧j=r.1):=fun z=>e (a.1.symm.trans z.1)
   rw [if_pos a,if_neg b,if_neg c,if_neg d]; right; left; grind
  ·rw [if_neg a]
   by_cases b:i=r.2.1∧j=r.2.1
   ·have c:¬ (i=r.1∧j=r.2.1):=fun z=>e (z.1.symm.trans b.1)
    have d:¬ (i=r.2.1∧j=r.1):=fun z=>e (z.2.symm.trans b.2)
    rw [if_pos b,if_neg c,if_neg d]; right; left; grind
   ·rw [if_neg b]
    by_cases c:i=r.1∧j=r.2.1
    ·have d:¬ (i=r.2.1∧j=r.1):=fun z=>e (c.1.symm.trans z.1)
     rw [if_pos c,if_neg d]; right; right; grind
    ·rw [if_neg c]
     by_cases d:i=r.2.1∧j=r.1
     ·rw [if_pos d]; right; right; grind
     ·rw [if_neg d]; left; grind
def TS (n α β k:Nat) (T:List (List Rat)):Prop:=Sq n T∧∀ i j,Sb (α+(β+1)*k) (β*k) (en T i j)
theorem TS.zero (n α β:Nat):TS n α β 0 (zeroT n):=⟨zero_sq n,fun i j=>by rw [en_zero]; exact Sb.zero.mono (Nat.zero_le _) (Nat.zero_le _)⟩
theorem TS.one {n α β k:Nat} {T:List (List Rat)} (h:TS n α β k T) {q:Rat} (hq:Sb α β q) (i j:Nat):Sb (α+(β+1)*(k+1)) (β*(k+1)) (en T i j+q)∧Sb (α+(β+1)*(k+1)) (β*(k+1)) (en T i j-q):=by
 have m1:β*k≤(β+1)*k:=Nat.mul_le_mul_right _ (by omega)
 constructor
 ·have:=(h.2 i j).add hq (N:=α+(β+1)*k+β) (by omega) (by omega)
  exact this.mono (by rw [Nat.mul_succ]; omega) (by rw [Nat.mul_succ]; omega)
 ·have:=(h.2 i j).sub hq (N:=α+(β+1)*k+β) (by omega) (by omega)
  exact this.mono (by rw [Nat.mul_succ]; omega) (by rw [Nat.mul_succ]; omega)
theorem TS.step {n α β k:Nat} {T:List (List Rat)} (h:TS n α β k T) {r:Rope} (h1:r.1<n) (h2:r.2.1<n) (hq:Sb α β r.2.2):TS n α β (k+1) (lapStep T r):=by
 obtain ⟨a,b⟩:=lapStep_ok h.1 h1 h2
 refine ⟨a,fun i j=>?_⟩
 rw [b]
 have o:=h.one hq i j
 rcases lapR_sb hq i j with e | e | e
 ·rw [e,Rat.add_zero]
  exact (h.2 i j).mono (by rw [Nat.mul_succ]; omega) (by rw [Nat.mul_succ]; omega)
 ·rw [e]; exact o.1
 ·rw [e,←Rat.sub_eq_add_neg]; exact o.2
theorem ok_etab (F:Fun K "ease_table" "ease_table" sEaseTable f fd) (G1:FnOk P w K mg base CX0 3 f1 d1 ["one","other"] (spBin fun x y=>x+y)) (b1:Binds K d1 ["one","other"] []) (k1:PySem.W.keepIn K (.ref f1)=true) (m1:mg "plus" = some (.ref f1))
  (G2:FnOk P w K mg base CX0 3 f2 d2 ["one","other"] (spBin fun x y=>x-y)) (b2:Binds K d2 ["one","other"] []) (k2:PySem.W.keepIn K (.ref f2)=true) (m2:mg "minus" = some (.ref f2)) (mr:mg "range" = none) (mt:mg "tuple" = none) :
  FnOk P w K mg base CX0 4 f fd ["net"] spETab:=by
 refine F.ok scET (fun vs H Q E h=>?_) (fun cdv A outer s H vs Q E hr h=>?_)
 ·obtain ⟨a,n,α,β,rs,rfl,_⟩:=h
  rfl
 obtain ⟨a,n,α,β,rs,rfl,⟨ra,tv,ha,bs,hra,hRs⟩,hn,hm,hrs,z1,z2,q⟩:=h
 refine ⟨_,pss_cons (ps_setComp (i:=1) scET.nd rfl (Or.inl rfl) (Nc:=["place","net"]) (cap:=[(1,0)]) (g:=gName 0) (te:=tOp rRep (tLst (tCons (tTup (tCons (tC (.int 0)) (tCons (tC (.int 1)) tNil))) tNil)) (tOp (rIxT K) (tVar 1) (tC (.int 0)))) rfl (pi_range1 (by rfl) mr (pa_cons (pe_ix ix_tup (pv 0) pe_int (fun _ _=>rfl)) pa_nil))
   (comp_mk rfl rfl (by decide +kernel) (by decide +kernel) (List.forall_mem_cons.mpr ⟨⟨rfl,rfl⟩,List.forall_mem_nil _⟩) rfl (List.forall_mem_cons.mpr ⟨⟨_,_,rfl,rfl,rfl,rfl,rfl⟩,List.forall_mem_nil _⟩))
   (fun C fp pins s' H'=>pg_name (i:=0) ndPN rfl (Or.inl rfl)) (fun C fp pins s' H'=>pe_op op_rep (pe_lst (pa_cons (pe_tup (pa_cons pe_int (pa_cons pe_int pa_nil))) pa_nil)) (pe_ix ix_tup (pv 1) pe_int (fun _ _=>rfl))))
  (pss_cons (ps_for PassesOwn.never rfl (pi_tup (pe_ix ix_tup (pv 0) pe_int (fun _ _=>rfl))) (pg_tup rfl (pgs_cons (pg_name (i:=2) scET.nd rfl (Or.inl rfl)) (pgs_cons (pg_name (i:=3) scET.nd rfl (Or.inl rfl)) (pgs_cons (pg_name (i:=4) scET.nd rfl (Or.inl rfl)) pgs_nil))))
   (pss_one (ps_if (pt_cmpR op_ne (pv 2) (pv 3) (nomark _))
    (pss_cons (ps_asg (pe_call G1 hr (by rfl) m1 k1 b1 .nil pass0 (pa_cons (pe_ix ix_list (pe_ix ix_list (pv 1) (pv 2) (fun _ _=>rfl)) (pv 2) (fun _ _=>rfl)) (pa_cons (pv 4) pa_nil))) (pg_sub (pe_ix ix_list (pv 1) (pv 2) (fun _ _=>rfl)) (pv 2) set_list))
    (pss_cons (ps_asg (pe_call G1 hr (by rfl) m1 k1 b1 .nil pass0 (pa_cons (pe_ix ix_list (pe_ix ix_list (pv 1) (pv 3) (fun _ _=>rfl)) (pv 3) (fun _ _=>rfl)) (pa_cons (pv 4) pa_nil))) (pg_sub (pe_ix ix_list (pv 1) (pv 3) (fun _ _=>rfl)) (pv 3) set_list))
    (pss_cons (ps_asg (pe_call G2 hr (by rfl) m2 k2 b2 .nil pass0 (pa_cons (pe_ix ix_list (pe_ix ix_list (pv 1) (pv 2) (fun _ _=>rfl)) (pv 3) (fun _ _=>rfl)) (pa_cons (pv 4) pa_nil))) (pg_sub (pe_ix ix_list (pv 1) (pv 2) (fun _ _=>rfl)) (pv 3) set_list))
    (pss_one (ps_asg (pe_call G2 hr (by rfl) m2 k2 b2 .nil pass0 (pa_cons (pe_ix ix_list (pe_ix ix_list (pv 1) (pv 3) (fun _ _=>rfl)) (pv 2) (fun _ _=>rfl)) (pa_cons (pv 4) pa_nil))) (pg_sub (pe_ix ix_list (pv 1) (pv 3) (fun _ _=>rfl)) (pv 2) set_list)))))) pss_nil)))
  (pss_one (ps_ret (pe_callTy call_tuple_of (by rfl) mt bt_tuple (pa_cons (pe_comp (Nc:=["row"]) (cap:=[]) (g:=gName 0) (te:=tCB (rTupOf K) (tCons (tVar 0) tNil)) rfl (pi_list (pv 1))
   (comp_mk rfl rfl (by decide +kernel) (by decide +kernel) (List.forall_mem_nil _) rfl (List.forall_mem_nil _)) (fun C fp pins s' H'=>pg_name (i:=0) ndRo' rfl (Or.inl rfl)) (fun C fp pins s' H'=>pe_callTy call_tuple_of (by rfl) mt bt_tuple (pa_cons (pv 0) pa_nil))) pa_nil))))),?_⟩
 have at0':∀ x y z:V,atI [x,y,z] 0=some x:=fun x y z=>atI_nat (j:=0) rfl
 have at1':∀ x y z:V,atI [x,y,z] 1=some y:=fun x y z=>atI_nat (j:=1) rfl
 refine ⟨_,rfl,a,_,_,_,rfl,rfl,SqT.of ha,at0' _ _ _,((n:Nat):Int),rfl,by omega,by omega,fun acc hacc=>?_⟩
 rw [show ((n:Nat):Int).toNat=n by omega]
 refine comp_run run_range (by omega) hacc (fun i ys σ hp=>∃ ds:List Addr,ys=ds.map V.ref∧At LF hp ds (List.replicate i (List.replicate n 0))∧ds.Nodup∧(∀ d∈ds,H d=none)∧∃ u,σ=[u,some (.ref a)]) ⟨[],rfl,At.nil,by simp,by simp,none,rfl⟩ ?_ ?_
 ·rintro i ys σ H2 x H3 hi sm hacc2 ⟨ds,rfl,hD,nd,fr,u,rfl⟩ ⟨rfl,rfl⟩ Cc hC
  refine ⟨by show 2≤sizeLine; decide,fun t ht=>⟨by show 1≤sizeLine; decide,fun l hl=>?_⟩⟩
  have s1:=same_new ht (.tup [.int 0,.int 1])
  have e1:FrR (upd H3 t (.tup [.int 0,.int 1])) t 0:=upd_same
  generalize upd H3 t (.tup [.int 0,.int 1])=H4 at s1 e1 hl
  have s2:=same_new hl (.lst [.ref t])
  have e2:(upd H4 l (.lst [.ref t])) l=some (.lst [.ref t]):=upd_same
  generalize upd H4 l (.lst [.ref t])=H5 at s2 e2
  have s12:=s1.trans s2
  refine ⟨_,rfl,a,_,_,_,rfl,rfl,SqT.of (s12 _ _ (sm _ _ ha)),at0' _ _ _,l,((n:Nat):Int),[.ref t],rfl,rfl,e2,by omega,by omega,by simp; exact szle (by omega),fun p hp=>?_⟩
  rw [show ((n:Nat):Int).toNat=n by omega]
  rw [rep_ref]
  have s3:=same_new hp (.lst ((List.replicate n t).map V.ref))
  have s13:=s12.trans s3
  have pacc:p≠acc:=fun z=>by rw [z,s12 _ _ hacc2] at hp; cases hp
  have pf:H p=none:=(sm.trans s12).free hp
  refine hC _ _ _ s13 ⟨ds++[p],by simp,?_,?_,?_,_,rfl⟩
  ·rw [List.replicate_succ']
   refine (hD.keep mo_lf (del_mono acc s13)).snoc (lf_del ⟨List.replicate n t,upd_same,⟨by simp,fun k c y e3 e4=>?_⟩⟩ pacc (s13 _ _ hacc2))
   rw [List.getElem?_replicate] at e3 e4
   split at e3
   ·rename_i hk
    rw [if_pos hk] at e4
    cases e3; cases e4
    exact mo_fr (s2.trans s3) e1
   ·cases e3
  ·rw [List.nodup_append]
   refine ⟨nd,by simp,fun x hx y hy z=>?_⟩
   rw [List.mem_singleton] at hy
   subst hy
   subst z
   obtain ⟨k,hk,ek⟩:=List.getElem_of_mem hx
   have hl2:k<(List.replicate i (List.replicate n (0:Rat))).length:=by rw [←hD.1]; exact hk
   obtain ⟨cs,h1,_⟩:=hD.2 k x _ (by rw [List.getElem?_eq_getElem hk,ek]) (List.getElem?_eq_getElem hl2)
   have:=s12 _ _ (del_sub _ _ _ _ h1)
   rw [this] at hp; cases hp
  ·intro d hd'
   rcases List.mem_append.mp hd' with h' | h'
   ·exact fr d h'
   ·rw [List.mem_singleton] at h'; rw [h']; exact pf
 rintro ys σ1 H2 s2 hacc2 hl2 ⟨ds,rfl,hD,nd,fr,u,rfl⟩
 have M0:Mat H2 acc ds (zeroT n):=by
  refine ⟨hacc2,hD.keep mo_lf (del_sub H2 acc),List.nodup_cons.mpr ⟨fun z=>?_,nd⟩⟩
  obtain ⟨k,hk,ek⟩:=List.getElem_of_mem z
  have hl2:k<(List.replicate n (List.replicate n (0:Rat))).length:=by rw [←hD.1]; exact hk
  obtain ⟨cs,h1,_⟩:=hD.2 k acc _ (by rw [List.getElem?_eq_getElem hk,ek]) (List.getElem?_eq_getElem hl2)
  rw [del_self] at h1; cases h1
 have fr2:∀ b∈ds,H b=none:=fr
 try dsimp only
 try refine name_goH ?_
 first | refine seq_hide fun UL1 hUL1=>?_ | refine nx_hide fun UL1 hUL1=>?_
 refine ⟨_,rfl,a,_,_,_,rfl,rfl,SqT.of (s2 _ _ ha),at1' _ _ _,ra,rfl,⟨_,SqT.of (s2 _ _ hra)⟩,?_⟩
 refine for_tup (xs:=bs.map V.ref) (fun k σ H3=>Same H H3∧(∃ u2 u3 u4,σ=[some (.ref a),some (.ref acc),u2,u3,u4])∧Mat H3 acc ds ((rs.take k).foldl lapStep (zeroT n))∧TS n α β k ((rs.take k).foldl lapStep (zeroT n)))
  ⟨s2,⟨none,none,none,rfl⟩,M0,TS.zero n α β⟩ (fun k σ H3 _ ⟨s3,_⟩=>SqT.of (s3 _ _ hra)) ?_ ?_
 ·rintro k x σ H3 hx ⟨s3,⟨u2,u3,u4,rfl⟩,M,ts⟩
  obtain ⟨c,r,rfl,_,hr',e,hc,he⟩:=hRs.ref hx
  have rm:r∈rs:=List.mem_of_getElem? hr'
  obtain ⟨r1,r2,rq⟩:=hrs r rm
  have hk:k<rs.length:=(List.getElem?_eq_some_iff.mp hr').1
  have stp:=ts.step r1 r2 rq
  rw [take_succ_of hr',List.foldl_append]
  show gTup K 3 _ _ _ _ _
  refine ⟨c,_,rfl,SqT.of (s3 _ _ hc),rfl,_,_,rfl,_,_,rfl,_,_,rfl,rfl,?_⟩
  have fin:∀ (T':List (List Rat)),T'=lapStep ((rs.take k).foldl lapStep (zeroT n)) r->List.foldl lapStep (List.foldl lapStep (zeroT n) (List.take k rs)) [r]=T':=fun T' h=>h.symm
  refine ⟨_,rfl,_,rfl,rfl,_,rfl,?_⟩
  generalize hT:(rs.take k).foldl lapStep (zeroT n)=T at M ts stp
  have zk1:(β+1)*(k+1)≤(β+1)*rs.length:=Nat.mul_le_mul_left _ hk
  have zk2:β*(k+1)≤β*rs.length:=Nat.mul_le_mul_left _ hk
  have zk3:β*rs.length+rs.length=(β+1)*rs.length:=by rw [Nat.add_mul,Nat.one_mul]
  have up:∀ {x:Rat},Sb (α+(β+1)*(k+1)) (β*(k+1)) x->Sf x:=fun h=>h.mono (by omega) (by omega)
  have lo:∀ i j,Sf (en T i j):=fun i j=>up ((ts.2 i j).mono (by rw [Nat.mul_succ]; omega) (by rw [Nat.mul_succ]; omega))
  have sq:Sf r.2.2:=by
   have b1':β≤β*rs.length:=Nat.le_mul_of_pos_right _ (by omega)
   exact rq.mono (by omega) (by omega)
  by_cases eq:r.1=r.2.1
  ·refine iteNS (iv (by rw [eq])) ⟨s3,⟨_,_,_,rfl⟩,?_,?_⟩
   ·have:List.foldl lapStep T [r]=T:=by show lapStep T r=T; unfold lapStep; rw [if_pos eq]
    rw [this]; exact M
   ·show TS n α β (k+1) (lapStep T r)
    exact stp
  ·refine iteNN (ivn (by omega)) ?_
   have sq0:=ts.1
   refine rd_put (i:=r.1) (j:=r.1) (a:=2) (b:=2) (op:=fun x y=>x+y) rfl rfl rfl rfl M sq0 r1 r1 (s3 _ _ he) (lo _ _) sq s3 fr2 fun H4 s4 M4 f4=>?_
   have q1:=sq0.set (j:=r.1) (v:=en T r.1 r.1+r.2.2) r1
   have e1:=en_setE sq0 (v:=en T r.1 r.1+r.2.2) r1 r1
   generalize hT1:setE T r.1 r.1 (en T r.1 r.1+r.2.2)=T1 at M4 q1 e1
   have g1:en T1 r.2.1 r.2.1=en T r.2.1 r.2.1:=by rw [e1,if_neg (fun z=>eq z.1.symm)]
   refine rd_put (i:=r.2.1) (j:=r.2.1) (a:=3) (b:=3) (op:=fun x y=>x+y) rfl rfl rfl rfl M4 q1 r2 r2 f4 (by rw [g1]; exact lo _ _) sq s4 fr2 fun H5 s5 M5 f5=>?_
   have q2:=q1.set (j:=r.2.1) (v:=en T1 r.2.1 r.2.1+r.2.2) r2
   have e2:=en_setE q1 (v:=en T1 r.2.1 r.2.1+r.2.2) r2 r2
   generalize hT2:setE T1 r.2.1 r.2.1 (en T1 r.2.1 r.2.1+r.2.2)=T2 at M5 q2 e2
   have g2:en T2 r.1 r.2.1=en T r.1 r.2.1:=by rw [e2,if_neg (fun z=>eq z.1),e1,if_neg (fun z=>eq z.2.symm)]
   refine rd_put (i:=r.1) (j:=r.2.1) (a:=2) (b:=3) (op:=fun x y=>x-y) rfl rfl rfl rfl M5 q2 r1 r2 f5 (by rw [g2]; exact lo _ _) sq s5 fr2 fun H6 s6 M6 f6=>?_
   have q3:=q2.set (j:=r.2.1) (v:=en T2 r.1 r.2.1-r.2.2) r1
   have e3:=en_setE q2 (v:=en T2 r.1 r.2.1-r.2.2) r1 r2
   generalize hT3:setE T2 r.1 r.2.1 (en T2 r.1 r.2.1-r.2.2)=T3 at M6 q3 e3
   have g3:en T3 r.2.1 r.1=en T r.2.1 r.1:=by rw [e3,if_neg (fun z=>eq z.1.symm),e2,if_neg (fun z=>eq z.2),e1,if_neg (fun z=>eq z.1.symm)]
   refine rd_put (i:=r.2.1) (j:=r.1) (a:=3) (b:=2) (op:=fun x y=>x-y) rfl rfl rfl rfl M6 q3 r2 r1 f6 (by rw [g3]; exact lo _ _) sq s6 fr2 fun H7 s7 M7 f7=>?_
   refine ⟨s7,⟨_,_,_,rfl⟩,?_,stp⟩
   have:List.foldl lapStep T [r]=setE T3 r.2.1 r.1 (en T3 r.2.1 r.1-r.2.2):=by
    show lapStep T r=_
    unfold lapStep
    rw [if_neg eq]
    simp only [hT1,hT2,hT3]
   rw [this]
   exact M7
 ·rintro σ H3 ⟨s3,⟨u2,u3,u4,rfl⟩,M,ts⟩
  subst hUL1
  rw [List.length_map,hRs.1,List.take_length] at M ts
  have lds:ds.length=n:=by rw [hD.1]; simp
  refine ⟨_,rfl,acc,rfl,⟨_,SqL.of M.h1⟩,fun ac2 hac2=>?_⟩
  refine comp_run (run_list M.h1) (by rw [List.length_map]; omega) hac2 (fun i ys σ hp=>∃ gs:List Addr,ys=gs.map V.ref∧At (TupR FrR) hp gs ((rs.foldl lapStep (zeroT n)).take i)∧∃ u,σ=[u]) ⟨[],rfl,At.nil,none,rfl⟩ ?_ ?_
  ·rintro i ys σ H4 x H5 hi s4 hac4 ⟨gs,rfl,hG,u,rfl⟩ ⟨rfl,hx⟩ Cc hC
   obtain ⟨b,row,rfl,_,hy,cs,hB,hCs⟩:=M.rows.ref hx
   have hB2:=s4 _ _ hB
   refine ⟨_,rfl,b,_,rfl,.inl ⟨SqL.of hB2,fun p hp=>?_⟩⟩
   have sp:=same_new hp (.tup (cs.map V.ref))
   refine hC _ _ _ sp ⟨gs++[p],by simp,?_,_,rfl⟩
   rw [take_succ_of hy]
   exact (hG.keep mo_tf' (del_mono ac2 sp)).snoc (tfd' ⟨cs,upd_same,hCs.keep mo_fr (s4.trans sp)⟩ (sp _ _ hac4))
  ·rintro ys σ H4 s4 ha4 hl4 ⟨gs,rfl,hG,u,rfl⟩
   rw [List.length_map,lds,List.take_of_length_le (by rw [ts.1.len]; exact Nat.le_refl _)] at hG
   refine ⟨ac2,_,rfl,.inl ⟨SqL.of ha4,fun p hp=>?_⟩⟩
   have sp:=same_new hp (.tup (gs.map V.ref))
   exact q p _ ((s3.trans s4).trans sp) ⟨gs,upd_same,(hG.keep mo_tf' (del_sub H4 ac2)).keep mo_tf' sp⟩
end
end My
namespace My
open PySem L2 Mth Wd
section
variable {P:Program} {w:World} {K:PySem.W.Frag} {mg:Str->Option Value} {base:Heap} {f:Addr} {fd:FuncData}
inductive SpCellR (K:PySem.W.Frag) (vs:List V) (H:Hp) (Q:VK):Prop
 | mk (a:Addr) (ns:List Int) (k:Int) (h_0:vs=[.ref a,.int k]) (h_1:ScA K H a ns) (h_2:0≤k) (h_3:k<1000000) (h_4:∀ z,Q (.int z) H):SpCellR K vs H Q
def spCell (K:PySem.W.Frag):Sp:=fun vs H Q _=>SpCellR K vs H Q
theorem scCe:FnScope ["_law_script","_law_k","_law_cell_here","_law_first","_law_second"] ["_law_script","_law_k"] (defScope sCellAt):=⟨rfl,rfl,rfl,by decide +kernel,rfl,by decide +kernel,by decide +kernel⟩
theorem ok_cell (F:Fun K "_law_cell" "_law_cell" sCellAt f fd) (ml:mg "len" = none):FnOk P w K mg base CX0 1 f fd ["_law_script","_law_k"] (spCell K):=by
 refine F.ok scCe (fun vs H Q E h=>?_) (fun cdv A outer s H vs Q E hr h=>?_)
 ·obtain ⟨a,ns,k,rfl,_⟩:=h
  rfl
 obtain ⟨a,ns,k,rfl,⟨hS,hl⟩,h0,hk6,q⟩:=h
 refine ⟨_,pss_cons (ps_if (PW.pt (pw_and (pt_cmpR op_gt (pe_callB call_len_seq (by rfl) ml bt_len (pa_cons (pv 0) pa_nil)) pe_int (nomark _)) (pw_and1 (pt_cmpR op_eq (pe_op op_mod (pe_ix ix_list (pv 0) pe_int (fun _ _=>rfl)) pe_int) pe_int (nomark _)))))
   (pss_cons (ps_if (pt_cmpR op_eq (pv 1) pe_int (nomark _)) (pss_one (ps_ret (pe_op op_fdiv (pe_ix ix_list (pv 0) pe_int (fun _ _=>rfl)) pe_int))) pss_nil)
    (pss_cons (ps_if (pt_cmpR op_lt (pv 1) (pe_callB call_len_seq (by rfl) ml bt_len (pa_cons (pv 0) pa_nil)) (nomark _)) (pss_one (ps_ret (pe_ix ix_list (pv 0) (pv 1) (fun _ _=>rfl)))) pss_nil)
     (pss_one (ps_ret pe_int)))) pss_nil)
  (pss_cons (ps_set (i:=2) scCe.nd rfl (Or.inl rfl) pe_int)
  (pss_cons (ps_if (pt_cmpR op_gt (pe_callB call_len_seq (by rfl) ml bt_len (pa_cons (pv 0) pa_nil)) pe_int (nomark _))
   (pss_one (ps_set (i:=2) scCe.nd rfl (Or.inl rfl) (pe_op op_mod (pe_ix ix_list (pv 0) (pe_op op_mod (pv 1) (pe_callB call_len_seq (by rfl) ml bt_len (pa_cons (pv 0) pa_nil))) (fun _ _=>rfl)) (pe_op op_pow pe_int pe_int)))) pss_nil)
  (pss_cons (ps_set (i:=3) scCe.nd rfl (Or.inl rfl) (pe_op op_mod (pe_op op_mul (pe_op op_add (pe_op op_add (pe_op op_add (pv 2) (pe_op op_mul (pe_op op_mul pe_int (pv 1)) (pv 1))) (pe_op op_mul pe_int (pv 1))) pe_int) pe_int) pe_int))
  (pss_cons (ps_set (i:=4) scCe.nd rfl (Or.inl rfl) (pe_op op_mod (pe_op op_add (pe_op op_mul (pv 3) (pv 3)) (pv 1)) pe_int))
  (pss_one (ps_ret (pe_op op_mod (pe_op op_add (pe_op op_mul (pv 4) pe_int) (pv 3)) pe_int))))))),?_⟩
 have c7:CMul 7 k:=.inl ⟨by decide,by decide⟩
 have c13:CMul 13 k:=.inl ⟨by decide,by decide⟩
 have ck:∀ y:Int,CMul y k:=fun _=>.inr ⟨by omega,by omega⟩
 have cf:∀ z y:Int,CMul z (y % 2147483647):=fun _ y=>.inr ⟨by have:=Int.emod_nonneg y (b:=2147483647) (by decide); omega,by have:=Int.emod_lt_of_pos y (b:=2147483647) (by decide); omega⟩
 have at0:∀ {u:Int} {r:List Int},ns=u :: r->atI (ns.map V.int) 0=some (.int u):=fun {u r} e=>(atI_nat (by rw [e]; rfl):atI (ns.map V.int) ((0:Nat):Int)=some (V.int u))
 have atk:∀ {j:Int},0≤j->j<(ns.length:Int)->∃ u,atI (ns.map V.int) j=some (.int u):=fun {j} h1 h2=>by
  have hj:j.toNat<ns.length:=by omega
  have e:atI (ns.map V.int) ((j.toNat:Nat):Int)=some (.int ns[j.toNat]):=atI_nat (by rw [List.getElem?_map,List.getElem?_eq_getElem hj]; rfl)
  rw [show ((j.toNat:Nat):Int)=j by omega] at e
  exact ⟨_,e⟩
 have lenM:(((ns.map V.int).length:Nat):Int)=(ns.length:Int):=by rw [List.length_map]
 by_cases hn:(0:Int)<(((ns.map V.int).length:Nat):Int)
 ·rw [lenM] at hn
  obtain ⟨u,r,e⟩:∃ u r,ns=u :: r:=by
   cases ns with
   | nil=>exact absurd hn (by decide)
   | cons u r=>exact ⟨u,r,rfl⟩
  by_cases ho:V.int (u % 2)=V.int 1
  ·refine ⟨_,rfl,a,_,rfl,.inl hS,_,_,rfl,rfl,_,rfl,iteDT (by rw [lenM]; exact hn) ⟨_,rfl,a,_,_,_,rfl,rfl,hS,at0 e,_,_,rfl,rfl,(show (0:Int)<2 by decide),rfl,_,rfl,iteDT ho ?_⟩⟩
   refine ⟨_,rfl,rfl,_,rfl,?_⟩
   by_cases h00:V.int k=V.int 0
   ·exact iteDT h00 ⟨_,rfl,a,_,_,_,rfl,rfl,hS,at0 e,_,_,rfl,rfl,⟨by decide,by decide⟩,q _⟩
   ·refine iteDF h00 ⟨_,rfl,_,rfl,a,_,rfl,.inl hS,_,_,rfl,rfl,_,rfl,?_⟩
    by_cases hk:k<(((ns.map V.int).length:Nat):Int)
    ·obtain ⟨u,e⟩:=atk h0 (by rw [lenM] at hk; exact hk)
     exact iteDT hk ⟨_,rfl,_,rfl,a,_,_,_,rfl,rfl,hS,e,q _⟩
    ·exact iteDF hk (q _)
  ·obtain ⟨u2,e2⟩:=atk (j:=k % (ns.length:Int)) (Int.emod_nonneg _ (by omega)) (Int.emod_lt_of_pos _ (by omega))
   refine ⟨_,rfl,a,_,rfl,.inl hS,_,_,rfl,rfl,_,rfl,iteDT (by rw [lenM]; exact hn) ⟨_,rfl,a,_,_,_,rfl,rfl,hS,at0 e,_,_,rfl,rfl,(show (0:Int)<2 by decide),rfl,_,rfl,iteDF ho ?_⟩⟩
   refine ⟨_,rfl,a,_,rfl,.inl hS,_,_,rfl,rfl,_,rfl,iteDT (by rw [lenM]; exact hn) ?_⟩
   refine ⟨_,rfl,_,rfl,_,rfl,a,_,rfl,.inl hS,_,_,rfl,rfl,(by rw [lenM]; exact hn),a,_,_,_,rfl,rfl,hS,(by rw [lenM]; exact e2),_,_,rfl,rfl,⟨by decide,by decide,by decide⟩,_,_,rfl,rfl,(show (0:Int)<10 ^ ((18:Int).toNat) by decide),?_⟩
   exact ⟨_,rfl,_,rfl,_,_,rfl,rfl,c7,_,rfl,_,_,rfl,rfl,ck _,_,_,rfl,rfl,_,rfl,_,_,rfl,rfl,c13,_,_,rfl,rfl,_,_,rfl,rfl,_,_,rfl,rfl,.inr ⟨by decide,by decide⟩,_,_,rfl,rfl,(show (0:Int)<2147483647 by decide),
    _,rfl,_,rfl,_,_,rfl,rfl,cf _ _,_,rfl,_,_,rfl,rfl,_,_,rfl,rfl,(show (0:Int)<1000000007 by decide),_,rfl,_,_,rfl,rfl,.inr ⟨by decide,by decide⟩,_,rfl,_,_,rfl,rfl,_,_,rfl,rfl,(show (0:Int)<2147483629 by decide),q _⟩
 ·refine ⟨_,rfl,a,_,rfl,.inl hS,_,_,rfl,rfl,_,rfl,iteDF hn (iteF ?_)⟩
  refine ⟨_,rfl,a,_,rfl,.inl hS,_,_,rfl,rfl,_,rfl,iteDF hn ?_⟩
  exact ⟨_,rfl,_,rfl,_,_,rfl,rfl,c7,_,rfl,_,_,rfl,rfl,ck _,_,_,rfl,rfl,_,rfl,_,_,rfl,rfl,c13,_,_,rfl,rfl,_,_,rfl,rfl,_,_,rfl,rfl,.inr ⟨by decide,by decide⟩,_,_,rfl,rfl,(show (0:Int)<2147483647 by decide),
    _,rfl,_,rfl,_,_,rfl,rfl,cf _ _,_,rfl,_,_,rfl,rfl,_,_,rfl,rfl,(show (0:Int)<1000000007 by decide),_,rfl,_,_,rfl,rfl,.inr ⟨by decide,by decide⟩,_,rfl,_,_,rfl,rfl,_,_,rfl,rfl,(show (0:Int)<2147483629 by decide),q _⟩
end
end My
namespace My
open PySem L2 Mth Wd
section
variable {P:Program} {w:World} {K:PySem.W.Frag} {mg:Str->Option Value} {base:Heap} {f g h f1 f2:Addr} {fd gd hd d1 d2:FuncData}
inductive SpLowR (vs:List V) (H:Hp) (Q:VK):Prop
 | mk (t b:Int) (h_0:vs=[.int t,.int b]) (h_1:0<b) (h_2:Big b) (h_3:GivQ H Q ((t:Rat) / (b:Rat))):SpLowR vs H Q
def spLow:Sp:=fun vs H Q _=>SpLowR vs H Q
theorem scLo:FnScope ["_law_top","_law_bottom","_law_one","_law_other"] ["_law_top","_law_bottom"] (defScope sLow):=⟨rfl,rfl,rfl,by decide +kernel,rfl,by decide +kernel,by decide +kernel⟩
theorem abs_eq (a:Int):(if a<0 then -a else a)=(a.natAbs:Int):=by split <;> omega
theorem emod_gcd {x y:Int} (hy:0<y):Int.gcd y (x % y)=Int.gcd x y:=by
 have:=gcd_fmod x y
 rwa [Int.fmod_eq_emod_of_nonneg x (Int.le_of_lt hy)] at this
theorem ok_low (F:Fun K "_law_low" "_law_low" sLow f fd) (ma:mg "abs" = none):FnOk P w K mg base CX0 1 f fd ["_law_top","_law_bottom"] spLow:=by
 refine F.ok scLo (fun vs H Q E h=>?_) (fun cdv A outer s H vs Q E hr h=>?_)
 ·obtain ⟨t,b,rfl,_⟩:=h
  rfl
 obtain ⟨t,b,rfl,hb,bb,q⟩:=h
 refine ⟨_,pss_cons (ps_set (i:=2) scLo.nd rfl (Or.inl rfl) (pe_callB call_abs (by rfl) ma bt_abs (pa_cons (pv 0) pa_nil)))
  (pss_cons (ps_set (i:=3) scLo.nd rfl (Or.inl rfl) (pv 1))
  (pss_cons (ps_while PassesOwn.never (pt_cmpR op_ne (pv 3) pe_int (nomark _)) (pss_one (ps_par (i:=2) (j:=3) rfl scLo.nd rfl rfl (by decide) rfl rfl (pa_cons (pv 3) (pa_cons (pe_op op_mod (pv 2) (pv 3)) pa_nil)) rfl)))
  (pss_one (ps_ret (pe_tup (pa_cons (pe_op op_fdivB (pv 0) (pv 2)) (pa_cons (pe_op op_fdivB (pv 1) (pv 2)) pa_nil))))))),?_⟩
 refine ⟨_,rfl,t,rfl,_,rfl,?_⟩
 rw [abs_eq]
 refine while_by (fun σ H2=>∃ x y,σ=[some (.int t),some (.int b),some (.int x),some (.int y)]∧H2=H∧0≤x∧0≤y∧Int.gcd x y=Int.gcd t b) (fun σ _=>match σ with | [_,_,_,some (.int y)]=>y.natAbs | _=>0) ⟨_,_,rfl,rfl,by omega,by omega,by unfold Int.gcd; simp⟩ ?_ ?_
 ·rintro σ H2 ⟨x,y,rfl,rfl,x0,y0,gg⟩
  refine ⟨_,rfl,rfl,_,rfl,?_⟩
  by_cases hy:y=0
  ·refine iteNS (iv hy) ?_
   subst hy
   have gx:x=(Int.gcd t b:Int):=by
    have:=abs_gcd gg
    rw [if_neg (by omega)] at this
    exact this
   have pe:Mth.part t b=x:=by unfold Mth.part; rw [if_neg (by omega),gx]
   have gp:0<Int.gcd t b:=Mth.gcd_pos t b (by omega)
   have hx:CDivB t x:=⟨by omega,by rw [←pe]; exact Nat.lt_of_le_of_lt (part_le t b (by omega)) bb⟩
   have ef:=frac_rat t b (by omega)
   unfold frac at ef
   rw [pe] at ef
   have e1:=congrArg Prod.fst ef
   have e2:=congrArg Prod.snd ef
   simp only at e1 e2
   refine ⟨_,rfl,_,rfl,_,_,rfl,rfl,hx,_,rfl,_,rfl,_,_,rfl,rfl,hx,by show 2≤sizeLine; decide,?_⟩
   (try dsimp only)
   rw [e1,e2]
   exact q
  ·refine iteNN (ivn hy) ?_
   have yp:0<y:=by omega
   have m0:=Int.emod_nonneg x (Int.ne_of_gt yp)
   have m1:=Int.emod_lt_of_pos x yp
   refine ⟨_,rfl,_,rfl,_,rfl,_,_,rfl,rfl,yp,_,_,rfl,⟨y,x % y,rfl,rfl,y0,m0,(emod_gcd yp).trans gg⟩,?_⟩
   show (x % y).natAbs<y.natAbs
   omega
 ·rintro σ H2 Q1 Q2 hq ⟨v,e,sc,b,eb,z⟩
  exact ⟨v,e,sc,b,eb,hq _ _ z⟩
theorem ddp (p q:Rat):0<(p.den:Int)*(q.den:Int):=by
 have hp:=p.den_nz
 have hq:=q.den_nz
 exact Int.mul_pos (by omega) (by omega)
theorem q_add (p q:Rat):(((p.num*q.den+q.num*p.den:Int)):Rat) / (((p.den:Int)*(q.den:Int):Int):Rat)=p+q:=by
 have h:=fr_add p q
 rw [frac_rat _ _ (dnz p q)] at h
 exact fr_inj h
theorem q_sub (p q:Rat):(((p.num*q.den-q.num*p.den:Int)):Rat) / (((p.den:Int)*(q.den:Int):Int):Rat)=p-q:=by
 have h:=fr_sub p q
 rw [frac_rat _ _ (dnz p q)] at h
 exact fr_inj h
theorem scLT:FnScope ["_law_one","_law_other"] ["_law_one","_law_other"] (defScope sLTake):=⟨rfl,rfl,rfl,by decide +kernel,rfl,by decide +kernel,by decide +kernel⟩
theorem scLA:FnScope ["_law_one","_law_other"] ["_law_one","_law_other"] (defScope sLAdd):=⟨rfl,rfl,rfl,by decide +kernel,rfl,by decide +kernel,by decide +kernel⟩
theorem ok_ladd (F:Fun K "_law_add" "_law_add" sLAdd f fd) (G:FnOk P w K mg base CX0 1 g gd ["_law_top","_law_bottom"] spLow) (bG:Binds K gd ["_law_top","_law_bottom"] []) (kG:PySem.W.keepIn K (.ref g)=true) (mG:mg "_law_low" = some (.ref g)) :
  FnOk P w K mg base CX0 2 f fd ["_law_one","_law_other"] (spBin fun x y=>x+y):=by
 refine F.ok scLA (fun vs H Q E h=>?_) (fun cdv A outer s H vs Q E hr h=>?_)
 ·obtain ⟨p,q,x,y,rfl,_⟩:=h
  rfl
 obtain ⟨p,q,x,y,rfl,hp,hq,sx,sy,k⟩:=h
 refine ⟨_,pss_one (ps_ret (pe_call G hr (by rfl) mG kG bG .nil pass0 (pa_cons (pe_op op_add (pe_op op_mulB (pe_ix ix_tup (pv 0) pe_int (fun _ _=>rfl)) (pe_ix ix_tup (pv 1) pe_int (fun _ _=>rfl))) (pe_op op_mulB (pe_ix ix_tup (pv 1) pe_int (fun _ _=>rfl)) (pe_ix ix_tup (pv 0) pe_int (fun _ _=>rfl))))
  (pa_cons (pe_op op_mulB (pe_ix ix_tup (pv 0) pe_int (fun _ _=>rfl)) (pe_ix ix_tup (pv 1) pe_int (fun _ _=>rfl))) pa_nil)))),?_⟩
 refine ⟨_,rfl,p,_,_,_,rfl,rfl,SqT.of hp,at0,_,rfl,q,_,_,_,rfl,rfl,SqT.of hq,at1,_,_,rfl,rfl,⟨sx.n,sy.d⟩,_,rfl,q,_,_,_,rfl,rfl,SqT.of hq,at0,_,rfl,p,_,_,_,rfl,rfl,SqT.of hp,at1,_,_,rfl,rfl,⟨sy.n,sx.d⟩,_,_,rfl,rfl,
  _,rfl,p,_,_,_,rfl,rfl,SqT.of hp,at1,_,rfl,q,_,_,_,rfl,rfl,SqT.of hq,at1,_,_,rfl,rfl,⟨sx.d,sy.d⟩,_,_,rfl,ddp x y,Sf.dd sx sy,?_⟩
 rw [q_add]
 exact k
theorem ok_ltake (F:Fun K "_law_take" "_law_take" sLTake f fd) (G:FnOk P w K mg base CX0 1 g gd ["_law_top","_law_bottom"] spLow) (bG:Binds K gd ["_law_top","_law_bottom"] []) (kG:PySem.W.keepIn K (.ref g)=true) (mG:mg "_law_low" = some (.ref g)) :
  FnOk P w K mg base CX0 2 f fd ["_law_one","_law_other"] (spBin fun x y=>x-y):=by
 refine F.ok scLT (fun vs H Q E h=>?_) (fun cdv A outer s H vs Q E hr h=>?_)
 ·obtain ⟨p,q,x,y,rfl,_⟩:=h
  rfl
 obtain ⟨p,q,x,y,rfl,hp,hq,sx,sy,k⟩:=h
 refine ⟨_,pss_one (ps_ret (pe_call G hr (by rfl) mG kG bG .nil pass0 (pa_cons (pe_op op_sub (pe_op op_mulB (pe_ix ix_tup (pv 0) pe_int (fun _ _=>rfl)) (pe_ix ix_tup (pv 1) pe_int (fun _ _=>rfl))) (pe_op op_mulB (pe_ix ix_tup (pv 1) pe_int (fun _ _=>rfl)) (pe_ix ix_tup (pv 0) pe_int (fun _ _=>rfl))))
  (pa_cons (pe_op op_mulB (pe_ix ix_tup (pv 0) pe_int (fun _ _=>rfl)) (pe_ix ix_tup (pv 1) pe_int (fun _ _=>rfl))) pa_nil)))),?_⟩
 refine ⟨_,rfl,p,_,_,_,rfl,rfl,SqT.of hp,at0,_,rfl,q,_,_,_,rfl,rfl,SqT.of hq,at1,_,_,rfl,rfl,⟨sx.n,sy.d⟩,_,rfl,q,_,_,_,rfl,rfl,SqT.of hq,at0,_,rfl,p,_,_,_,rfl,rfl,SqT.of hp,at1,_,_,rfl,rfl,⟨sy.n,sx.d⟩,_,_,rfl,rfl,
  _,rfl,p,_,_,_,rfl,rfl,SqT.of hp,at1,_,rfl,q,_,_,_,rfl,rfl,SqT.of hq,at1,_,_,rfl,rfl,⟨sx.d,sy.d⟩,_,_,rfl,ddp x y,Sf.dd sx sy,?_⟩
 rw [q_sub]
 exact k
theorem sb_low {t b:Int} {n d:Nat} (hb:0<b) (h1:t.natAbs≤2 ^ n) (h2:b.natAbs≤2 ^ d):Sb n d ((t:Rat) / (b:Rat)):=sb_of (by omega) h1 h2 (frac_rat t b (by omega))
theorem low_pos {t b:Int} (ht:0<t) (hb:0<b):0<(t:Rat) / (b:Rat):=by
 have h1:(0:Rat)<(t:Rat):=by exact_mod_cast ht
 have h2:(0:Rat)<(b:Rat):=by exact_mod_cast hb
 rw [Rat.div_def]
 exact Rat.mul_pos h1 (Rat.inv_pos.mpr h2)
inductive SpEaseR (vs:List V) (H:Hp) (Q:VK):Prop
 | mk (z:Int) (h_0:vs=[.int z]) (h_1:∀ q,Sb 10 10 q->0<q->GivQ H Q q):SpEaseR vs H Q
def spEase:Sp:=fun vs H Q _=>SpEaseR vs H Q
theorem scEs:FnScope ["_law_cell_here"] ["_law_cell_here"] (defScope sLEase):=⟨rfl,rfl,rfl,by decide +kernel,rfl,by decide +kernel,by decide +kernel⟩
theorem ok_ease (F:Fun K "_law_ease" "_law_ease" sLEase f fd) (G:FnOk P w K mg base CX0 1 g gd ["_law_top","_law_bottom"] spLow) (bG:Binds K gd ["_law_top","_law_bottom"] []) (kG:PySem.W.keepIn K (.ref g)=true) (mG:mg "_law_low" = some (.ref g)) :
  FnOk P w K mg base CX0 2 f fd ["_law_cell_here"] spEase:=by
 refine F.ok scEs (fun vs H Q E h=>?_) (fun cdv A outer s H vs Q E hr h=>?_)
 ·obtain ⟨z,rfl,_⟩:=h
  rfl
 obtain ⟨z,rfl,k⟩:=h
 refine ⟨_,pss_cons (ps_if (pt_cmpR op_eq (pe_op op_mod (pv 0) pe_int) pe_int (nomark _))
   (pss_one (ps_ret (pe_call G hr (by rfl) mG kG bG .nil pass0 (pa_cons (pe_op op_add pe_int (pe_op op_mod (pe_op op_fdiv (pv 0) pe_int) pe_int)) (pa_cons (pe_op op_add pe_int (pe_op op_mod (pe_op op_fdiv (pv 0) pe_int) pe_int)) pa_nil))))) pss_nil)
  (pss_cons (ps_if (pt_cmpR op_eq (pe_op op_mod (pv 0) pe_int) pe_int (nomark _)) (pss_one (ps_ret (pe_tup (pa_cons pe_int (pa_cons pe_int pa_nil))))) pss_nil)
  (pss_one (ps_ret (pe_call G hr (by rfl) mG kG bG .nil pass0 (pa_cons (pe_op op_add pe_int (pe_op op_mod (pe_op op_fdiv (pv 0) pe_int) pe_int)) (pa_cons (pe_op op_add pe_int (pe_op op_mod (pe_op op_fdiv (pv 0) pe_int) pe_int)) pa_nil)))))),?_⟩
 refine ⟨_,rfl,_,_,rfl,rfl,(show (0:Int)<4 by decide),rfl,_,rfl,?_⟩
 refine ite2 (fun _=>?_) (fun _=>?_)
 ·refine ⟨_,rfl,_,_,rfl,rfl,⟨by decide,by decide⟩,_,_,rfl,rfl,(show (0:Int)<999 by decide),_,_,rfl,rfl,
   _,rfl,_,_,rfl,rfl,⟨by decide,by decide⟩,_,_,rfl,rfl,(show (0:Int)<999 by decide),_,_,rfl,rfl,?_⟩
  have e1:=Int.emod_nonneg (z / 4) (show (999:Int)≠0 by decide)
  have e2:=Int.emod_lt_of_pos (z / 4) (show (0:Int)<999 by decide)
  have e3:=Int.emod_nonneg (z / 3996) (show (999:Int)≠0 by decide)
  have e4:=Int.emod_lt_of_pos (z / 3996) (show (0:Int)<999 by decide)
  exact ⟨_,_,rfl,by omega,big2 (n:=17) (by omega) (by decide),k _ (sb_low (by omega) (by omega) (by omega)) (low_pos (by omega) (by omega))⟩
 ·refine ⟨_,rfl,_,_,rfl,rfl,(show (0:Int)<4 by decide),rfl,_,rfl,?_⟩
  refine ite2 (fun _=>?_) (fun _=>?_)
  ·exact ⟨by show 2≤sizeLine; decide,fun t ht=>k 1 (Sb.one.mono (Nat.zero_le _) (Nat.zero_le _)) (by decide) t ht⟩
  ·refine ⟨_,rfl,_,_,rfl,rfl,⟨by decide,by decide⟩,_,_,rfl,rfl,(show (0:Int)<12 by decide),_,_,rfl,rfl,
    _,rfl,_,_,rfl,rfl,⟨by decide,by decide⟩,_,_,rfl,rfl,(show (0:Int)<4 by decide),_,_,rfl,rfl,?_⟩
   have e1:=Int.emod_nonneg (z / 4) (show (12:Int)≠0 by decide)
   have e2:=Int.emod_lt_of_pos (z / 4) (show (0:Int)<12 by decide)
   have e3:=Int.emod_nonneg (z / 48) (show (4:Int)≠0 by decide)
   have e4:=Int.emod_lt_of_pos (z / 48) (show (0:Int)<4 by decide)
   exact ⟨_,_,rfl,by omega,big2 (n:=17) (by omega) (by decide),k _ (sb_low (by omega) (by omega) (by omega)) (low_pos (by omega) (by omega))⟩
end
end My
namespace My
open PySem L2 Mth Wd
structure NetJ (n m:Nat) (rs:List Rope):Prop where
 two:2≤n
 few:n≤m+1
 len:rs.length=m
 ends:∀ r∈rs,r.1<n∧r.2.1<n
structure NetE (n m:Nat) (rs:List Rope):Prop where
 j:NetJ n m rs
 ease:∀ r∈rs,Sb 10 10 r.2.2
 pos:∀ r∈rs,0<r.2.2
 hang:Hang n rs
theorem gi_netE {ts:List (List Int)} {rs:List Rope} (g:Gi ts rs):NetE ts.length rs.length rs:=⟨⟨g.two,g.few,rfl,fun r hr=>⟨(g.ends r hr).1,(g.ends r hr).2.1⟩⟩,fun r hr=>(g.ends r hr).2.2,g.pos,g.hang⟩
end My
namespace My
open PySem L2 Mth Wd
structure TurnsM (H:Hp) (T:Addr) (bs:List Addr) (ts:List (List Int)):Prop where
 h1:H T=some (.lst (bs.map V.ref))
 rows:At IntsL H bs ts
 nd:(T :: bs).Nodup
theorem TurnsM.keep {H H':Hp} {T:Addr} {bs:List Addr} {ts:List (List Int)} (M:TurnsM H T bs ts) (s:Same H H'):TurnsM H' T bs ts:=⟨s _ _ M.h1,M.rows.keep mo_ints s,M.nd⟩
theorem TurnsM.put {H:Hp} {T b:Addr} {bs:List Addr} {ts:List (List Int)} {i:Nat} {t:List Int} (M:TurnsM H T bs ts) (hb:bs[i]?=some b):TurnsM (upd H b (.lst (t.map V.int))) T bs (ts.set i t):=by
 have bm:b∈bs:=List.mem_of_getElem? hb
 obtain ⟨n1,n2⟩:=List.nodup_cons.mp M.nd
 have e1:T≠b:=fun z=>n1 (by rw [z]; exact bm)
 refine ⟨by rw [upd_ne e1]; exact M.h1,⟨by rw [List.length_set]; exact M.rows.1,fun k c x q1 q2=>?_⟩,M.nd⟩
 by_cases hk:i=k
 ·subst hk
  rw [hb] at q1
  cases q1
  have hl:i<ts.length:=by rw [←M.rows.1]; exact (List.getElem?_eq_some_iff.mp hb).1
  rw [List.getElem?_set_self hl] at q2
  cases q2
  exact upd_same
 ·rw [List.getElem?_set_ne hk] at q2
  have ne:c≠b:=fun z=>hk (nd_at n2 hb (by rw [q1,z]))
  show upd H b _ c=_
  rw [upd_ne ne]
  exact M.rows.2 k c x q1 q2
def Spot (ts:List (List Int)) (e:Int) (place at_:Nat):Prop:=(∃ t,ts[place]?=some t∧t[at_]?=some e)∨((∀ t∈ts,e∉t)∧place=0∧at_=0)
section
variable {P:Program} {w:World} {K:PySem.W.Frag} {mg:Str->Option Value} {base:Heap} {f g h f1 f2:Addr} {fd gd hd d1 d2:FuncData}
inductive SpSpotR (vs:List V) (H:Hp) (Q:VK):Prop
 | mk (T:Addr) (bs:List Addr) (ts:List (List Int)) (e:Int) (h_0:vs=[.ref T,.int e]) (h_1:TurnsM H T bs ts) (h_2:ts.length≤1000) (h_3:(∀ t∈ts,t.length≤1000)) (h_4:∀ p H' place at_,Same H H'->Spot ts e place at_->H' p=some (.tup [.int ((place:Nat):Int),.int ((at_:Nat):Int)])->Q (.ref p) H'):SpSpotR vs H Q
def spSpot:Sp:=fun vs H Q _=>SpSpotR vs H Q
theorem scSp:FnScope ["_law_turns","_law_end","_law_place"] ["_law_turns","_law_end"] (defScope sSpot):=⟨rfl,rfl,rfl,by decide +kernel,rfl,by decide +kernel,by decide +kernel⟩
theorem ok_spot (F:Fun K "_law_spot" "_law_spot" sSpot f fd) (ml:mg "len" = none) (mr:mg "range" = none):FnOk P w K mg base CX0 1 f fd ["_law_turns","_law_end"] spSpot:=by
 refine F.ok scSp (fun vs H Q E h=>?_) (fun cdv A outer s H vs Q E hr h=>?_)
 ·obtain ⟨T,bs,ts,e,rfl,_⟩:=h
  rfl
 obtain ⟨T,bs,ts,e,rfl,M,hl,ht,q⟩:=h
 refine ⟨_,pss_cons (ps_for PassesOwn.never rfl (pi_range1 (by rfl) mr (pa_cons (pe_callB call_len_seq (by rfl) ml bt_len (pa_cons (pv 0) pa_nil)) pa_nil)) (pg_name (i:=2) scSp.nd rfl (Or.inl rfl))
   (pss_one (ps_if (pt_cmpR op_in_seq (pv 1) (pe_ix ix_list (pv 0) (pv 2) (fun _ _=>rfl)) (by with_unfolding_all rfl))
    (pss_one (ps_ret (pe_tup (pa_cons (pv 2) (pa_cons (pe_bmK K PySem.F.plainAttrs_list PySem.F.slot_list_index PySem.F.type_list_index mt_index (pe_ix ix_list (pv 0) (pv 2) (fun _ _=>rfl)) (pa_cons (pv 1) pa_nil)) pa_nil))))) pss_nil)))
  (pss_one (ps_ret (pe_tup (pa_cons pe_int (pa_cons pe_int pa_nil))))),?_⟩
 have lb:bs.length=ts.length:=M.rows.1
 refine ⟨_,rfl,T,_,rfl,.inl (SqL.of M.h1),((ts.length:Nat):Int),by rw [List.length_map,lb],by omega,by omega,?_⟩
 rw [show ((ts.length:Nat):Int).toNat=ts.length by omega]
 refine for_range (n:=ts.length) (fun i σ H2=>H2=H∧(∃ u,σ=[some (.ref T),some (.int e),u])∧∀ j t,j<i->ts[j]?=some t->e∉t) ⟨rfl,⟨none,rfl⟩,fun j t h=>by omega⟩ ?_ ?_
 ·rintro i σ H2 hi ⟨rfl,⟨u,rfl⟩,hz⟩
  have ei:ts[i]?=some ts[i]:=List.getElem?_eq_getElem hi
  obtain ⟨b,hb,hB⟩:=M.rows.get ei
  have cst:(0:Int)+(i:Int)=((i:Nat):Int):=by omega
  have e1:atI (bs.map V.ref) ((0:Int)+(i:Int))=some (.ref b):=by rw [cst]; exact atI_nat (ref_at hb)
  refine ⟨_,rfl,_,rfl,_,rfl,T,_,_,_,rfl,rfl,SqL.of M.h1,e1,b,_,rfl,.inl (SqL.of hB),rfl,flat_ints _,_,rfl,?_⟩
  rw [if_neg (by decide:¬ (false=true)),inV_ints]
  by_cases hm:e∈ts[i]
  ·refine iteDT hm ?_
   refine ⟨_,rfl,_,rfl,_,rfl,T,_,_,_,rfl,rfl,SqL.of M.h1,e1,.inl ⟨rfl,_,SqL.of hB⟩,_,rfl,b,ts[i],e,rfl,rfl,hB,hm,Nat.le_trans (ht _ (List.getElem_mem hi)) (by decide),by show 2≤sizeLine; decide,fun p hp=>?_⟩
   have hj:ts[i].idxOf e<ts[i].length:=List.idxOf_lt_length_iff.mpr hm
   refine q p _ i (ts[i].idxOf e) (same_new hp _) (.inl ⟨ts[i],ei,by rw [List.getElem?_eq_getElem hj,List.getElem_idxOf hj]⟩) ?_
   rw [upd_same,cst]
  ·refine iteDF hm ⟨rfl,⟨_,rfl⟩,fun j t hj hjt=>?_⟩
   rcases Nat.lt_or_ge j i with h3 | h3
   ·exact hz j t h3 hjt
   ·obtain rfl:j=i:=by omega
    rw [ei] at hjt
    cases hjt
    exact hm
 ·rintro σ H2 ⟨rfl,⟨u,rfl⟩,hz⟩
  refine ⟨by show 2≤sizeLine; decide,fun p hp=>q p _ 0 0 (same_new hp _) (.inr ⟨fun t ht'=>?_,rfl,rfl⟩) upd_same⟩
  obtain ⟨j,hj,ej⟩:=List.getElem_of_mem ht'
  exact hz j t hj (by rw [List.getElem?_eq_getElem hj,ej])
end
end My
namespace My
open PySem L2 Mth Wd
theorem atI_pred {ns:List Int} {a:Nat} (h:a<ns.length):∃ v,atI (ns.map V.int) ((a:Int)-1)=some (.int v):=by
 match a,h with
 | 0,h =>
  have hl:(ns.map V.int).length=ns.length:=List.length_map _
  refine ⟨ns[ns.length-1],?_⟩
  unfold atI ixN
  rw [if_neg (by omega),if_pos (by omega)]
  have e:(((0:Nat):Int)-1+((ns.map V.int).length:Nat)).toNat=ns.length-1:=by omega
  rw [e]
  show (ns.map V.int)[ns.length-1]?=_
  rw [List.getElem?_map,List.getElem?_eq_getElem (by omega)]; rfl
 | a+1,h =>
  refine ⟨ns[a],?_⟩
  rw [show (((a+1:Nat)):Int)-1=((a:Nat):Int) by omega]
  exact atI_nat (by rw [List.getElem?_map,List.getElem?_eq_getElem (by omega)]; rfl)
theorem Spot.at {ts:List (List Int)} {e:Int} {place at_:Nat} (h:Spot ts e place at_) (h0:0<ts.length) (ne:∀ t∈ts,t≠[]):∃ t,ts[place]?=some t∧at_<t.length:=by
 rcases h with ⟨t,h1,h2⟩ | ⟨_,rfl,rfl⟩
 ·exact ⟨t,h1,(List.getElem?_eq_some_iff.mp h2).1⟩
 ·refine ⟨ts[0],List.getElem?_eq_getElem h0,?_⟩
  have:=ne _ (List.getElem_mem h0)
  exact List.length_pos_iff.mpr this
section
variable {P:Program} {w:World} {K:PySem.W.Frag} {mg:Str->Option Value} {base:Heap} {f g h f1 f2:Addr} {fd gd hd d1 d2:FuncData}
inductive SpNextR (vs:List V) (H:Hp) (Q:VK):Prop
 | mk (T:Addr) (bs:List Addr) (ts:List (List Int)) (e:Int) (h_0:vs=[.ref T,.int e]) (h_1:TurnsM H T bs ts) (h_2:0<ts.length) (h_3:ts.length≤1000) (h_4:(∀ t∈ts,t.length≤1000)) (h_5:(∀ t∈ts,t≠[])) (h_6:∀ H' v,Same H H'->Q (.int v) H'):SpNextR vs H Q
def spNext:Sp:=fun vs H Q _=>SpNextR vs H Q
theorem scNx:FnScope ["_law_turns","_law_end","_law_place","_law_at"] ["_law_turns","_law_end"] (defScope sNext):=⟨rfl,rfl,rfl,by decide +kernel,rfl,by decide +kernel,by decide +kernel⟩
theorem ok_next (F:Fun K "_law_next" "_law_next" sNext f fd) (G:FnOk P w K mg base CX0 1 g gd ["_law_turns","_law_end"] spSpot) (bG:Binds K gd ["_law_turns","_law_end"] []) (kG:PySem.W.keepIn K (.ref g)=true) (mG:mg "_law_spot" = some (.ref g)) :
  FnOk P w K mg base CX0 2 f fd ["_law_turns","_law_end"] spNext:=by
 refine F.ok scNx (fun vs H Q E h=>?_) (fun cdv A outer s H vs Q E hr h=>?_)
 ·obtain ⟨T,bs,ts,e,rfl,_⟩:=h
  rfl
 obtain ⟨T,bs,ts,e,rfl,M,h0,hl,ht,ne,q⟩:=h
 refine ⟨_,pss_cons (ps_asg (pe_call G hr (by rfl) mG kG bG .nil pass0 (pa_cons (pv 0) (pa_cons (pe_op op_xor (pv 1) pe_int) pa_nil))) (pg_tup rfl (pgs_cons (pg_name (i:=2) scNx.nd rfl (Or.inl rfl)) (pgs_cons (pg_name (i:=3) scNx.nd rfl (Or.inl rfl)) pgs_nil))))
  (pss_one (ps_ret (pe_ix ix_list (pe_ix ix_list (pv 0) (pv 2) (fun _ _=>rfl)) (pe_op op_sub (pv 3) pe_int) (fun _ _=>rfl)))),?_⟩
 refine ⟨_,rfl,_,rfl,_,_,rfl,rfl,T,bs,ts,_,rfl,M,hl,ht,fun p H1 place at_ s1 sp hp=>?_⟩
 obtain ⟨t,e1,e2⟩:=sp.at h0 ne
 obtain ⟨b,hb,hB⟩:=M.rows.get e1
 obtain ⟨v,hv⟩:=atI_pred e2
 refine ⟨p,_,rfl,SqT.of hp,rfl,_,_,rfl,_,_,rfl,rfl,?_⟩
 exact ⟨_,rfl,_,rfl,T,_,_,_,rfl,rfl,SqL.of (s1 _ _ M.h1),atI_nat (ref_at hb),_,rfl,_,_,rfl,rfl,b,_,_,_,rfl,rfl,SqL.of (s1 _ _ hB),hv,q H1 v s1⟩
inductive SpPutR (vs:List V) (H:Hp) (Q:VK):Prop
 | mk (T:Addr) (bs:List Addr) (ts:List (List Int)) (e x:Int) (h_0:vs=[.ref T,.int e,.int x]) (h_1:TurnsM H T bs ts) (h_2:0<ts.length) (h_3:ts.length≤1000) (h_4:(∀ t∈ts,t.length≤1000)) (h_5:(∀ t∈ts,t≠[])) (h_6:∀ H1 place at_ b t,Same H H1->Spot ts (Builtin.bitXor e 1) place at_->bs[place]?=some b->ts[place]?=some t->Q (.int ((place:Nat):Int)) (upd H1 b (.lst ((insL t at_ x).map V.int)))):SpPutR vs H Q
def spPut:Sp:=fun vs H Q _=>SpPutR vs H Q
theorem scPu:FnScope ["_law_turns","_law_end","_law_fresh","_law_place","_law_at"] ["_law_turns","_law_end","_law_fresh"] (defScope sPut):=⟨rfl,rfl,rfl,by decide +kernel,rfl,by decide +kernel,by decide +kernel⟩
theorem ok_put (F:Fun K "_law_put" "_law_put" sPut f fd) (G:FnOk P w K mg base CX0 1 g gd ["_law_turns","_law_end"] spSpot) (bG:Binds K gd ["_law_turns","_law_end"] []) (kG:PySem.W.keepIn K (.ref g)=true) (mG:mg "_law_spot" = some (.ref g)) :
  FnOk P w K mg base CX0 2 f fd ["_law_turns","_law_end","_law_fresh"] spPut:=by
 refine F.ok scPu (fun vs H Q E h=>?_) (fun cdv A outer s H vs Q E hr h=>?_)
 ·obtain ⟨T,bs,ts,e,x,rfl,_⟩:=h
  rfl
 obtain ⟨T,bs,ts,e,x,rfl,M,h0,hl,ht,ne,q⟩:=h
 refine ⟨_,pss_cons (ps_asg (pe_call G hr (by rfl) mG kG bG .nil pass0 (pa_cons (pv 0) (pa_cons (pe_op op_xor (pv 1) pe_int) pa_nil))) (pg_tup rfl (pgs_cons (pg_name (i:=3) scPu.nd rfl (Or.inl rfl)) (pgs_cons (pg_name (i:=4) scPu.nd rfl (Or.inl rfl)) pgs_nil))))
  (pss_cons (ps_expr (pe_bmK K PySem.F.plainAttrs_list PySem.F.slot_list_insert PySem.F.type_list_insert mt_insert (pe_ix ix_list (pv 0) (pv 3) (fun _ _=>rfl)) (pa_cons (pv 4) (pa_cons (pv 2) pa_nil))))
  (pss_one (ps_ret (pv 3)))),?_⟩
 refine ⟨_,rfl,_,rfl,_,_,rfl,rfl,T,bs,ts,_,rfl,M,hl,ht,fun p H1 place at_ s1 sp hp=>?_⟩
 obtain ⟨t,e1,e2⟩:=sp.at h0 ne
 obtain ⟨b,hb,hB⟩:=M.rows.get e1
 have tl:=ht t (List.mem_of_getElem? e1)
 refine ⟨p,_,rfl,SqT.of hp,rfl,_,_,rfl,_,_,rfl,rfl,?_⟩
 refine ⟨_,rfl,_,rfl,T,_,_,_,rfl,rfl,SqL.of (s1 _ _ M.h1),atI_nat (ref_at hb),.inl ⟨rfl,_,SqL.of (s1 _ _ hB)⟩,_,rfl,_,rfl,b,t.map V.int,(at_:Int),.int x,rfl,rfl,s1 _ _ hB,by omega,by rw [List.length_map]; omega,by rw [List.length_map]; omega,?_⟩
 refine ⟨_,rfl,?_⟩
 have e3:(t.map V.int).take ((at_:Int)).toNat++V.int x :: (t.map V.int).drop ((at_:Int)).toNat=(insL t at_ x).map V.int:=by
  unfold insL
  rw [Int.toNat_natCast,List.map_append,List.map_take,List.map_cons,List.map_drop]
 rw [e3]
 exact q H1 place at_ b t s1 sp hb e1
end
structure NetM (H:Hp) (R T:Addr) (cs bs:List Addr) (ts:List (List Int)) (rs:List Rope):Prop where
 tm:TurnsM H T bs ts
 r1:H R=some (.lst (cs.map V.ref))
 rr:At RopeR H cs rs
 rn:R∉T :: bs
theorem NetM.keep {H H':Hp} {R T:Addr} {cs bs:List Addr} {ts:List (List Int)} {rs:List Rope} (M:NetM H R T cs bs ts rs) (s:Same H H'):NetM H' R T cs bs ts rs:=⟨M.tm.keep s,s _ _ M.r1,M.rr.keep mo_rope s,M.rn⟩
theorem rope_upd {H:Hp} {b c:Addr} {ys:List V} {o:HO} {r:Rope} (hb:H b=some (.lst ys)) (h:RopeR H c r):RopeR (upd H b o) c r:=by
 obtain ⟨e,h1,h2⟩:=h
 refine ⟨e,by rw [upd_ne (fun z=>by rw [z,hb] at h1; cases h1)]; exact h1,?_⟩
 unfold FrR at h2 ⊢
 rw [upd_ne (fun z=>by rw [z,hb] at h2; cases h2)]; exact h2
theorem ropes_upd {H:Hp} {b:Addr} {ys:List V} {o:HO} {cs:List Addr} {rs:List Rope} (hb:H b=some (.lst ys)) (h:At RopeR H cs rs):At RopeR (upd H b o) cs rs:=⟨h.1,fun i c r e1 e2=>rope_upd hb (h.2 i c r e1 e2)⟩
theorem NetM.turn {H:Hp} {R T b:Addr} {cs bs:List Addr} {ts:List (List Int)} {rs:List Rope} {i:Nat} {t:List Int} (M:NetM H R T cs bs ts rs) (hb:bs[i]?=some b):NetM (upd H b (.lst (t.map V.int))) R T cs bs (ts.set i t) rs:=by
 have bm:b∈bs:=List.mem_of_getElem? hb
 have li:i<ts.length:=by rw [←M.tm.rows.1]; exact (List.getElem?_eq_some_iff.mp hb).1
 have hB:H b=some (.lst (ts[i].map V.int)):=M.tm.rows.2 i b ts[i] hb (List.getElem?_eq_getElem li)
 refine ⟨M.tm.put hb,?_,ropes_upd hB M.rr,M.rn⟩
 rw [upd_ne (fun z=>M.rn (by rw [z]; exact List.mem_cons_of_mem _ bm))]; exact M.r1
theorem NetM.more {H:Hp} {R T l:Addr} {cs bs:List Addr} {ts:List (List Int)} {rs:List Rope} {u:List Int} (M:NetM H R T cs bs ts rs) (hl:H l=none):NetM (upd (upd H l (.lst (u.map V.int))) T (.lst (bs.map V.ref++[.ref l]))) R T cs (bs++[l]) (ts++[u]) rs:=by
 have s1:=same_new hl (.lst (u.map V.int))
 have e1:(upd H l (.lst (u.map V.int))) l=some (.lst (u.map V.int)):=upd_same
 have M1:=M.keep s1
 generalize upd H l (.lst (u.map V.int))=H1 at s1 e1 M1
 have lT:l≠T:=fun z=>by rw [z,M.tm.h1] at hl; cases hl
 have lR:R≠l:=fun z=>by rw [←z,M.r1] at hl; cases hl
 obtain ⟨n1,n2⟩:=List.nodup_cons.mp M.tm.nd
 have lb:l∉bs:=fun z=>by
  obtain ⟨k,hk,ek⟩:=List.getElem_of_mem z
  have hl2:k<ts.length:=by rw [←M.tm.rows.1]; exact hk
  have:=M.tm.rows.2 k l ts[k] (by rw [List.getElem?_eq_getElem hk,ek]) (List.getElem?_eq_getElem hl2)
  unfold IntsL at this
  rw [hl] at this; cases this
 refine ⟨⟨by rw [upd_same]; simp,?_,?_⟩,?_,ropes_upd M1.tm.h1 M1.rr,?_⟩
 ·have a1:=M1.tm.rows.snoc (b:=l) (x:=u) e1
  refine ⟨a1.1,fun i b x q1 q2=>?_⟩
  have:=a1.2 i b x q1 q2
  unfold IntsL at this ⊢
  have bT:b≠T:=fun z=>by
   subst z
   have hm:b∈bs++[l]:=List.mem_of_getElem? q1
   rcases List.mem_append.mp hm with w | w
   ·exact n1 w
   ·exact lT (List.mem_singleton.mp w).symm
  rw [upd_ne bT]; exact this
 ·rw [List.nodup_cons]
  refine ⟨fun z=>?_,?_⟩
  ·rcases List.mem_append.mp z with w | w
   ·exact n1 w
   ·exact lT (List.mem_singleton.mp w).symm
  ·rw [List.nodup_append]
   refine ⟨n2,by simp,fun x hx y hy z=>?_⟩
   rw [List.mem_singleton] at hy
   subst hy; subst z
   exact lb hx
 ·rw [upd_ne (fun z=>M.rn (by rw [z]; exact List.mem_cons_self))]; exact M1.r1
 ·intro z
  rcases List.mem_cons.mp z with w | w
  ·exact M.rn (by rw [w]; exact List.mem_cons_self)
  ·rcases List.mem_append.mp w with v | v
   ·exact M.rn (List.mem_cons_of_mem _ v)
   ·exact lR (List.mem_singleton.mp v)
theorem NetM.ropes {H:Hp} {R T:Addr} {cs bs cs':List Addr} {ts:List (List Int)} {rs rs':List Rope} (M:NetM H R T cs bs ts rs) (h:At RopeR H cs' rs'):NetM (upd H R (.lst (cs'.map V.ref))) R T cs' bs ts rs':=by
 refine ⟨⟨?_,⟨M.tm.rows.1,fun i b x q1 q2=>?_⟩,M.tm.nd⟩,upd_same,ropes_upd M.r1 h,M.rn⟩
 ·rw [upd_ne (fun z=>M.rn (by rw [z]; exact List.mem_cons_self))]; exact M.tm.h1
 ·have:=M.tm.rows.2 i b x q1 q2
  unfold IntsL at this ⊢
  rw [upd_ne (fun z=>M.rn (by rw [←z]; exact List.mem_cons_of_mem _ (List.mem_of_getElem? q1)))]; exact this
end My
namespace My
open PySem L2 Mth Wd
theorem xor1':∀ k:Nat,k<44->Builtin.bitXor (k:Int) 1=if k % 2=0 then (k:Int)+1 else (k:Int)-1:=by decide
theorem xor_lt {x:Int} {m:Nat} (h0:-2≤x) (h1:x<2*(m:Int)) (hm:m≤20):Builtin.bitXor x 1<2*(m:Int):=by
 rcases Int.lt_or_le x 0 with h | h
 ·have:x=-2∨x=-1:=by omega
  rcases this with rfl | rfl
  ·have:Builtin.bitXor (-2) 1=-1:=by decide
   omega
  ·have:Builtin.bitXor (-1) 1=-2:=by decide
   omega
 ·obtain ⟨k,rfl⟩:=Int.eq_ofNat_of_zero_le h
  rw [xor1' k (by omega)]
  split <;> omega
def Lo (t:List Int):Prop:=∀ x∈t,-2≤x
theorem lo_ins {t:List Int} {a:Nat} {x:Int} (h:Lo t) (hx:-2≤x):Lo (insL t a x):=fun y hy=>by
 rcases insL_mem.mp hy with e | e
 ·rw [e]; exact hx
 ·exact h y e
theorem lo_set {t:List Int} {a:Nat} {x:Int} (h:Lo t) (hx:-2≤x):Lo (t.set a x):=fun y hy=>by
 rcases List.mem_or_eq_of_mem_set hy with e | e
 ·exact h y e
 ·rw [e]; exact hx
section
variable {P:Program} {w:World} {K:PySem.W.Frag} {mg:Str->Option Value} {base:Heap} {f g h f1 f2 f3 f4:Addr} {fd gd hd d1 d2 d3 d4:FuncData}
inductive SpGrowR (vs:List V) (H:Hp) (Q:VK):Prop
 | mk (R T:Addr) (cs bs:List Addr) (ts:List (List Int)) (rs:List Rope) (z:Int) (H0:Hp) (h_0:vs=[.ref R,.ref T,.int z]) (h_1:NetM H R T cs bs ts rs) (h_2:Gi ts rs) (h_3:(∀ t∈ts,Lo t)) (h_4:0<rs.length) (h_5:rs.length≤20) (h_6:Same H0 H) (h_7:H0 R=none) (h_8:H0 T=none) (h_9:(∀ x∈bs,H0 x=none)) (h_10:∀ H' cs' bs' ts' rs',Same H0 H'->NetM H' R T cs' bs' ts' rs'->Gi ts' rs'->(∀ t∈ts',Lo t)->rs'.length=rs.length+1->(∀ x∈bs',H0 x=none)->Q .non H'):SpGrowR vs H Q
def spGrow:Sp:=fun vs H Q _=>SpGrowR vs H Q
theorem scGr:FnScope ["_law_ropes","_law_turns","_law_cell_here","_law_many","_law_way","_law_spot_here","_law_rest","_law_rope","_law_place","_law_at","_law_other","_law_step"] ["_law_ropes","_law_turns","_law_cell_here"] (defScope sGrow):=⟨rfl,rfl,rfl,by decide +kernel,rfl,by decide +kernel,by decide +kernel⟩
set_option maxHeartbeats 4000000 in
theorem ok_grow (F:Fun K "_law_grow" "_law_grow" sGrow f fd) (G1:FnOk P w K mg base CX0 2 f1 d1 ["_law_cell_here"] spEase) (b1:Binds K d1 ["_law_cell_here"] []) (k1:PySem.W.keepIn K (.ref f1)=true) (m1:mg "_law_ease" = some (.ref f1))
  (G2:FnOk P w K mg base CX0 2 f2 d2 ["_law_turns","_law_end","_law_fresh"] spPut) (b2:Binds K d2 ["_law_turns","_law_end","_law_fresh"] []) (k2:PySem.W.keepIn K (.ref f2)=true) (m2:mg "_law_put" = some (.ref f2))
  (G3:FnOk P w K mg base CX0 1 f3 d3 ["_law_turns","_law_end"] spSpot) (b3:Binds K d3 ["_law_turns","_law_end"] []) (k3:PySem.W.keepIn K (.ref f3)=true) (m3:mg "_law_spot" = some (.ref f3))
  (G4:FnOk P w K mg base CX0 2 f4 d4 ["_law_turns","_law_end"] spNext) (b4:Binds K d4 ["_law_turns","_law_end"] []) (k4:PySem.W.keepIn K (.ref f4)=true) (m4:mg "_law_next" = some (.ref f4)) (ml:mg "len" = none) (mr:mg "range" = none) :
  FnOk P w K mg base CX0 3 f fd ["_law_ropes","_law_turns","_law_cell_here"] spGrow:=by
 refine F.ok scGr (fun vs H Q E h=>?_) (fun cdv A outer s H vs Q E hr h=>?_)
 ·obtain ⟨R,T,cs,bs,ts,rs,z,H0,rfl,_⟩:=h
  rfl
 obtain ⟨R,T,cs,bs,ts,rs,z,H0,rfl,M,gi,lo,m0,m20,s0,nR,nT,nb,q⟩:=h
 have hr1:=hr.mono (show 1≤2 by decide)
 refine ⟨_,pss_cons (ps_set (i:=3) scGr.nd rfl (Or.inl rfl) (pe_callB call_len_seq (by rfl) ml bt_len (pa_cons (pv 0) pa_nil)))
  (pss_cons (ps_set (i:=4) scGr.nd rfl (Or.inl rfl) (pe_op op_mod (pv 2) pe_int))
  (pss_cons (ps_set (i:=5) scGr.nd rfl (Or.inl rfl) (pe_op op_mod (pe_op op_fdiv (pv 2) pe_int) (pe_op op_add (pe_op op_mul pe_int (pv 3)) pe_int)))
  (pss_cons (ps_set (i:=6) scGr.nd rfl (Or.inl rfl) (pe_op op_fdiv (pe_op op_fdiv (pv 2) pe_int) (pe_op op_add (pe_op op_mul pe_int (pv 3)) pe_int)))
  (pss_one (ps_if (pt_cmpR op_lt (pv 4) pe_int (nomark _))
   (pss_cons (ps_expr (pe_bmK K PySem.F.plainAttrs_list PySem.F.slot_list_append PySem.F.type_list_append mt_append (pv 1) (pa_cons (pe_lst (pa_cons (pe_op op_add (pe_op op_mul pe_int (pv 3)) pe_int) pa_nil)) pa_nil)))
   (pss_one (ps_expr (pe_bmK K PySem.F.plainAttrs_list PySem.F.slot_list_append PySem.F.type_list_append mt_append (pv 0) (pa_cons (pe_tup (pa_cons (pe_call G2 hr (by rfl) m2 k2 b2 .nil pass0 (pa_cons (pv 1) (pa_cons (pe_op op_sub (pv 5) pe_int) (pa_cons (pe_op op_mul pe_int (pv 3)) pa_nil)))) (pa_cons (pe_op op_sub (pe_callB call_len_seq (by rfl) ml bt_len (pa_cons (pv 1) pa_nil)) pe_int) (pa_cons (pe_call G1 hr (by rfl) m1 k1 b1 .nil pass0 (pa_cons (pv 6) pa_nil)) pa_nil)))) pa_nil)))))
   (pss_one (ps_if (pt_cmpR op_lt (pv 4) pe_int (nomark _))
    (pss_cons (ps_set (i:=7) scGr.nd rfl (Or.inl rfl) (pe_op op_mod (pv 5) (pv 3)))
    (pss_cons (ps_asg (pe_call G3 hr1 (by rfl) m3 k3 b3 .nil pass0 (pa_cons (pv 1) (pa_cons (pe_op op_add (pe_op op_mul pe_int (pv 7)) pe_int) pa_nil))) (pg_tup rfl (pgs_cons (pg_name (i:=8) scGr.nd rfl (Or.inl rfl)) (pgs_cons (pg_name (i:=9) scGr.nd rfl (Or.inl rfl)) pgs_nil))))
    (pss_cons (ps_asg (pe_op op_add (pe_op op_mul pe_int (pv 3)) pe_int) (pg_sub (pe_ix ix_list (pv 1) (pv 8) (fun _ _=>rfl)) (pv 9) set_list))
    (pss_cons (ps_expr (pe_bmK K PySem.F.plainAttrs_list PySem.F.slot_list_append PySem.F.type_list_append mt_append (pv 1) (pa_cons (pe_lst (pa_cons (pe_op op_add (pe_op op_mul pe_int (pv 7)) pe_int) (pa_cons (pe_op op_mul pe_int (pv 3)) pa_nil))) pa_nil)))
    (pss_cons (ps_asg (pe_tup (pa_cons (pe_ix ix_tup (pe_ix ix_list (pv 0) (pv 7) (fun _ _=>rfl)) pe_int (fun _ _=>rfl)) (pa_cons (pe_op op_sub (pe_callB call_len_seq (by rfl) ml bt_len (pa_cons (pv 1) pa_nil)) pe_int) (pa_cons (pe_ix ix_tup (pe_ix ix_list (pv 0) (pv 7) (fun _ _=>rfl)) pe_int (fun _ _=>rfl)) pa_nil)))) (pg_sub (pv 0) (pv 7) set_list))
    (pss_one (ps_expr (pe_bmK K PySem.F.plainAttrs_list PySem.F.slot_list_append PySem.F.type_list_append mt_append (pv 0) (pa_cons (pe_tup (pa_cons (pe_op op_sub (pe_callB call_len_seq (by rfl) ml bt_len (pa_cons (pv 1) pa_nil)) pe_int) (pa_cons (pv 8) (pa_cons (pe_call G1 hr (by rfl) m1 k1 b1 .nil pass0 (pa_cons (pv 6) pa_nil)) pa_nil)))) pa_nil)))))))))
    (pss_cons (ps_set (i:=10) scGr.nd rfl (Or.inl rfl) (pe_op op_sub (pv 5) pe_int))
    (pss_cons (ps_for PassesOwn.never rfl (pi_range1 (by rfl) mr (pa_cons (pe_op op_mod (pv 6) (pe_op op_add (pe_op op_mul pe_int (pv 3)) pe_int)) pa_nil)) (pg_name (i:=11) scGr.nd rfl (Or.inl rfl))
     (pss_one (ps_set (i:=10) scGr.nd rfl (Or.inl rfl) (pe_call G4 hr (by rfl) m4 k4 b4 .nil pass0 (pa_cons (pv 1) (pa_cons (pv 10) pa_nil))))))
    (pss_cons (ps_set (i:=8) scGr.nd rfl (Or.inl rfl) (pe_call G2 hr (by rfl) m2 k2 b2 .nil pass0 (pa_cons (pv 1) (pa_cons (pe_op op_sub (pv 5) pe_int) (pa_cons (pe_op op_mul pe_int (pv 3)) pa_nil)))))
    (pss_one (ps_expr (pe_bmK K PySem.F.plainAttrs_list PySem.F.slot_list_append PySem.F.type_list_append mt_append (pv 0) (pa_cons (pe_tup (pa_cons (pv 8) (pa_cons (pe_call G2 hr (by rfl) m2 k2 b2 .nil pass0 (pa_cons (pv 1) (pa_cons (pv 10) (pa_cons (pe_op op_add (pe_op op_mul pe_int (pv 3)) pe_int) pa_nil)))) (pa_cons (pe_call G1 hr (by rfl) m1 k1 b1 .nil pass0 (pa_cons (pe_op op_fdiv (pv 6) (pe_op op_add (pe_op op_mul pe_int (pv 3)) pe_int)) pa_nil)) pa_nil)))) pa_nil)))))))))))))),?_⟩
 have lc:cs.length=rs.length:=M.rr.1
 have lb:bs.length=ts.length:=M.tm.rows.1
 have few:=gi.few
 have two:=gi.two
 have c1:((cs.map V.ref).length:Int)=(rs.length:Int):=by rw [List.length_map,lc]
 refine ⟨_,rfl,R,_,rfl,.inl (SqL.of M.r1),?_⟩
 rw [c1]
 have mp:(0:Int)<2*(rs.length:Int)+2:=by omega
 have mq:2*(rs.length:Int)+2<1073741824:=by omega
 have mul2:∀ x:Int,CMul 2 x:=fun x=>.inl ⟨by decide,by decide⟩
 refine ⟨_,rfl,_,_,rfl,rfl,(show (0:Int)<8 by decide),_,rfl,_,_,rfl,rfl,⟨by decide,by decide⟩,_,rfl,_,_,rfl,rfl,mul2 _,_,_,rfl,rfl,_,_,rfl,rfl,mp,?_⟩
 refine ⟨_,rfl,_,_,rfl,rfl,⟨by decide,by decide⟩,_,rfl,_,_,rfl,rfl,mul2 _,_,_,rfl,rfl,_,_,rfl,rfl,⟨mp,mq⟩,?_⟩
 have en0:=Int.emod_nonneg (z / 8) (show (2*(rs.length:Int)+2)≠0 by omega)
 have en1:=Int.emod_lt_of_pos (z / 8) mp
 (try dsimp only)
 generalize z / 8 / (2*(rs.length:Int)+2)=rz
 generalize z / 8 % (2*(rs.length:Int)+2)=y at en0 en1 ⊢
 have en2:-2≤y-2:=by omega
 have en3:y-2<2*(rs.length:Int):=by omega
 have M1:=M
 have s01:=s0
 have nfr:∀ {H':Hp} {l:Addr},Same H0 H'->H' l=none->H0 l=none:=fun s h=>s.free h
 have tl:∀ t∈ts,t.length≤1000:=fun t ht=>by have:=gi.lens t ht; omega
 refine ⟨_,rfl,_,_,rfl,rfl,_,rfl,?_⟩
 refine ite2 (fun _=>?_) (fun _=>?_)
 ·-- hung up
  refine ⟨_,rfl,.inl ⟨rfl,_,SqL.of M1.tm.h1⟩,_,rfl,_,_,rfl,rfl,mul2 _,_,_,rfl,rfl,by show 1≤sizeLine; decide,fun l hl=>?_⟩
  have nl:=nfr s01 hl
  have sl:=same_new hl (.lst [.int (2*(rs.length:Int)+1)])
  refine ⟨T,bs.map V.ref,.ref l,rfl,rfl,sl _ _ M1.tm.h1,by rw [List.length_map]; exact szl (by omega),?_⟩
  have M2:=M1.more (u:=[2*(rs.length:Int)+1]) hl
  have s02:=same_up (s01.trans sl) nT (.lst (bs.map V.ref++[.ref l]))
  change NetM (upd (upd H l (.lst [.int (2*(rs.length:Int)+1)])) T (.lst (bs.map V.ref++[.ref l]))) R T cs (bs++[l]) (ts++[[2*(rs.length:Int)+1]]) rs at M2
  generalize upd (upd H l (.lst [.int (2*(rs.length:Int)+1)])) T (.lst (bs.map V.ref++[.ref l]))=H2 at M2 s02
  have nb2:∀ x∈bs++[l],H0 x=none:=fun x hx=>by
   rcases List.mem_append.mp hx with w | w
   ·exact nb x w
   ·rw [List.mem_singleton.mp w]; exact nl
  have tsl:(ts++[[2*(rs.length:Int)+1]]).length=ts.length+1:=by rw [List.length_append]; rfl
  refine ⟨_,rfl,.inl ⟨rfl,_,SqL.of M2.r1⟩,_,rfl,_,rfl,_,_,rfl,rfl,_,rfl,_,_,rfl,rfl,mul2 _,T,bs++[l],ts++[[2*(rs.length:Int)+1]],y-2,_,rfl,M2.tm,by omega,by omega,app_all tl (by simp),app_all gi.ne (by simp),fun H3 place at_ b t s3 sp hb ht=>?_⟩
  have hpt:ts[place]?=some t:=by
   rcases Nat.lt_or_ge place ts.length with w | w
   ·rwa [List.getElem?_append_left w] at ht
   ·exfalso
    rcases sp with ⟨u,h1,h2⟩ | ⟨_,h1,_⟩
    ·have:place=ts.length:=by have:=(List.getElem?_eq_some_iff.mp h1).1; omega
     subst this
     rw [List.getElem?_concat_length] at h1
     cases h1
     have h3:=List.mem_of_getElem? h2
     rw [List.mem_singleton] at h3
     have:=xor_lt en2 en3 m20
     omega
    ·omega
  have M3:=(M2.keep s3).turn (t:=insL t at_ (2*(rs.length:Int))) hb
  have bm:b∈bs++[l]:=List.mem_of_getElem? hb
  have hB:H3 b=some (.lst (t.map V.int)):=s3 _ _ (M2.tm.rows.2 place b t hb ht)
  have s03:=same_up (s02.trans s3) (nb2 b bm) (.lst ((insL t at_ (2*(rs.length:Int))).map V.int))
  generalize upd H3 b (.lst ((insL t at_ (2*(rs.length:Int))).map V.int))=H4 at M3 s03
  have eL:((((bs++[l]).map V.ref).length:Nat):Int)-1=(ts.length:Int):=by rw [List.length_map,List.length_append,lb,List.length_singleton]; omega
  refine ⟨_,rfl,T,_,rfl,.inl (SqL.of M3.tm.h1),_,_,rfl,rfl,_,rfl,_,rfl,fun e he h0 ea hea=>⟨by show 3≤sizeLine; decide,fun p hp=>?_⟩⟩
  have s1:=same_new hea (.tup [.int e.num,.int e.den])
  have fe:FrR (upd H4 ea (.tup [.int e.num,.int e.den])) ea e:=upd_same
  replace M3:=M3.keep s1
  replace s03:=s03.trans s1
  generalize upd H4 ea (.tup [.int e.num,.int e.den])=H4' at s1 fe M3 s03 hp
  (try dsimp only)
  rw [eL]
  have sp4:=same_new hp (.tup [.int ((place:Nat):Int),.int ((ts.length:Nat):Int),.ref ea])
  have M4:=M3.keep sp4
  have rp:RopeR (upd H4' p (.tup [.int ((place:Nat):Int),.int ((ts.length:Nat):Int),.ref ea])) p (place,ts.length,e):=⟨ea,upd_same,sp4 _ _ fe⟩
  have s04:=s03.trans sp4
  generalize upd H4' p (.tup [.int ((place:Nat):Int),.int ((ts.length:Nat):Int),.ref ea])=H5 at sp4 M4 rp s04
  refine ⟨R,cs.map V.ref,.ref p,rfl,rfl,M4.r1,by rw [List.length_map]; exact szl (by omega),?_⟩
  have M5:=M4.ropes (M4.rr.snoc rp)
  rw [List.map_append] at M5
  exact q _ _ _ _ _ (same_up s04 nR _) M5 (gi.hung hpt he h0) (set_all (P:=Lo) (app_all lo (by intro x hx; rw [List.mem_singleton.mp hx]; omega)) (lo_ins (lo t (List.mem_of_getElem? hpt)) (by omega))) (len_snoc _ _) nb2
 ·refine ⟨_,rfl,_,_,rfl,rfl,_,rfl,?_⟩
  refine ite2 (fun _=>?_) (fun _=>?_)
  ·-- parted
   have mpos:(0:Int)<(rs.length:Int):=by omega
   refine ⟨_,rfl,_,rfl,_,_,rfl,rfl,mpos,?_⟩
   have k0:=Int.emod_nonneg y (show (rs.length:Int)≠0 by omega)
   have k1:=Int.emod_lt_of_pos y mpos
   (try dsimp only)
   generalize y % (rs.length:Int)=kz at k0 k1 ⊢
   obtain ⟨k,rfl⟩:=Int.eq_ofNat_of_zero_le k0
   have lk:k<rs.length:=by omega
   have hk:rs[k]?=some rs[k]:=List.getElem?_eq_getElem lk
   generalize rs[k]=r at hk
   refine ⟨_,rfl,_,rfl,_,_,rfl,rfl,mul2 _,_,_,rfl,rfl,T,bs,ts,_,rfl,M1.tm,by omega,tl,fun p2 H2 place at_ s2 sp hp2=>?_⟩
   have yes:inT ts r.2.1 (2*(k:Int)+1):=(gi.odd k r hk r.2.1).mpr rfl
   obtain ⟨t,ht,hat⟩:∃ t,ts[place]?=some t∧t[at_]?=some (2*(k:Int)+1):=by
    rcases sp with w | ⟨w,_⟩
    ·exact w
    ·obtain ⟨u,hu,hm⟩:=yes
     exact absurd hm (w u (List.mem_of_getElem? hu))
   have ep:place=r.2.1:=(gi.odd k r hk place).mp ⟨t,ht,List.mem_of_getElem? hat⟩
   subst ep
   have M2:=M1.keep s2
   obtain ⟨b,hb,hB⟩:=M2.tm.rows.get ht
   have la:at_<t.length:=(List.getElem?_eq_some_iff.mp hat).1
   refine ⟨p2,_,rfl,SqT.of hp2,rfl,_,_,rfl,_,_,rfl,rfl,?_⟩
   refine ⟨_,rfl,_,_,rfl,rfl,mul2 _,_,_,rfl,rfl,_,rfl,_,rfl,T,_,_,_,rfl,rfl,SqL.of M2.tm.h1,atI_nat (ref_at hb),_,rfl,b,_,_,_,rfl,rfl,hB,ixN_nat (by rw [List.length_map]; exact la),?_⟩
   have em:(t.map V.int).set at_ (V.int (2*(rs.length:Int)+1))=(t.set at_ (2*(rs.length:Int)+1)).map V.int:=by rw [List.map_set]
   rw [em]
   have s02:=s01.trans s2
   have M3:=M2.turn (t:=t.set at_ (2*(rs.length:Int)+1)) hb
   have s03:=same_up s02 (nb b (List.mem_of_getElem? hb)) (.lst ((t.set at_ (2*(rs.length:Int)+1)).map V.int))
   generalize upd H2 b (.lst ((t.set at_ (2*(rs.length:Int)+1)).map V.int))=H3 at M3 s03
   refine ⟨_,rfl,.inl ⟨rfl,_,SqL.of M3.tm.h1⟩,_,rfl,_,_,rfl,rfl,mul2 _,_,_,rfl,rfl,_,rfl,_,_,rfl,rfl,mul2 _,by show 2≤sizeLine; decide,fun l hl=>?_⟩
   have nl:=nfr s03 hl
   have sl:=same_new hl (.lst [.int (2*(k:Int)+1),.int (2*(rs.length:Int))])
   refine ⟨T,bs.map V.ref,.ref l,rfl,rfl,sl _ _ M3.tm.h1,by rw [List.length_map]; exact szl (by omega),?_⟩
   have M4:=M3.more (u:=[2*(k:Int)+1,2*(rs.length:Int)]) hl
   have s04:=same_up (s03.trans sl) nT (.lst (bs.map V.ref++[.ref l]))
   change NetM (upd (upd H3 l (.lst [.int (2*(k:Int)+1),.int (2*(rs.length:Int))])) T (.lst (bs.map V.ref++[.ref l]))) R T cs (bs++[l]) (ts.set r.2.1 (t.set at_ (2*(rs.length:Int)+1))++[[2*(k:Int)+1,2*(rs.length:Int)]]) rs at M4
   generalize upd (upd H3 l (.lst [.int (2*(k:Int)+1),.int (2*(rs.length:Int))])) T (.lst (bs.map V.ref++[.ref l]))=H4 at M4 s04
   have nb2:∀ x∈bs++[l],H0 x=none:=fun x hx=>by
    rcases List.mem_append.mp hx with w | w
    ·exact nb x w
    ·rw [List.mem_singleton.mp w]; exact nl
   obtain ⟨c,hc,re,hc1,hc2⟩:=M4.rr.get hk
   have eL:((((bs++[l]).map V.ref).length:Nat):Int)-1=(ts.length:Int):=by rw [List.length_map,List.length_append,lb,List.length_singleton]; omega
   refine ⟨_,rfl,_,rfl,R,_,_,_,rfl,rfl,SqL.of M4.r1,atI_nat (ref_at hc),c,_,_,_,rfl,rfl,SqT.of hc1,t3_0 _ _ _,_,rfl,T,_,rfl,.inl (SqL.of M4.tm.h1),_,_,rfl,rfl,_,rfl,_,rfl,R,_,_,_,rfl,rfl,SqL.of M4.r1,atI_nat (ref_at hc),c,_,_,_,rfl,rfl,SqT.of hc1,t3_2 _ _ _,by show 3≤sizeLine; decide,fun p hp=>?_⟩
   (try dsimp only)
   rw [eL]
   have sp5:=same_new hp (.tup [.int ((r.1:Nat):Int),.int ((ts.length:Nat):Int),.ref re])
   have M5:=M4.keep sp5
   have rp:RopeR (upd H4 p (.tup [.int ((r.1:Nat):Int),.int ((ts.length:Nat):Int),.ref re])) p (r.1,ts.length,r.2.2):=⟨re,upd_same,sp5 _ _ hc2⟩
   have s05:=s04.trans sp5
   generalize upd H4 p (.tup [.int ((r.1:Nat):Int),.int ((ts.length:Nat):Int),.ref re])=H5 at sp5 M5 rp s05
   refine ⟨_,rfl,_,rfl,R,_,_,_,rfl,rfl,M5.r1,ixN_nat (by rw [List.length_map,lc]; exact lk),?_⟩
   have es:(cs.map V.ref).set k (V.ref p)=(cs.set k p).map V.ref:=by rw [List.map_set]
   rw [es]
   have M6:=M5.ropes (M5.rr.set k rp)
   have s06:=same_up s05 nR (.lst ((cs.set k p).map V.ref))
   generalize upd H5 R (.lst ((cs.set k p).map V.ref))=H6 at M6 s06
   refine ⟨_,rfl,.inl ⟨rfl,_,SqL.of M6.r1⟩,_,rfl,T,_,rfl,.inl (SqL.of M6.tm.h1),_,_,rfl,rfl,_,rfl,_,rfl,_,rfl,fun e he h0 ea hea=>⟨by show 3≤sizeLine; decide,fun p7 hp7=>?_⟩⟩
   have s1:=same_new hea (.tup [.int e.num,.int e.den])
   have fe:FrR (upd H6 ea (.tup [.int e.num,.int e.den])) ea e:=upd_same
   replace M6:=M6.keep s1
   replace s06:=s06.trans s1
   generalize upd H6 ea (.tup [.int e.num,.int e.den])=H6' at s1 fe M6 s06 hp7
   (try dsimp only)
   rw [eL]
   have sp7:=same_new hp7 (.tup [.int ((ts.length:Nat):Int),.int ((r.2.1:Nat):Int),.ref ea])
   have M7:=M6.keep sp7
   have rp7:RopeR (upd H6' p7 (.tup [.int ((ts.length:Nat):Int),.int ((r.2.1:Nat):Int),.ref ea])) p7 (ts.length,r.2.1,e):=⟨ea,upd_same,sp7 _ _ fe⟩
   have s07:=s06.trans sp7
   generalize upd H6' p7 (.tup [.int ((ts.length:Nat):Int),.int ((r.2.1:Nat):Int),.ref ea])=H7 at sp7 M7 rp7 s07
   refine ⟨R,(cs.set k p).map V.ref,.ref p7,rfl,rfl,M7.r1,by rw [List.length_map,List.length_set]; exact szl (by omega),?_⟩
   have M8:=M7.ropes (M7.rr.snoc rp7)
   rw [List.map_append] at M8
   exact q _ _ _ _ _ (same_up s07 nR _) M8 (gi.part hk ht hat he h0) (app_all (P:=Lo) (set_all lo (lo_set (lo t (List.mem_of_getElem? ht)) (by omega))) (by intro x hx; simp only [List.mem_cons,List.not_mem_nil,or_false] at hx; omega)) (by rw [len_snoc,List.length_set]) nb2
  ·-- a rope through a land
   refine ⟨_,rfl,_,_,rfl,rfl,_,rfl,_,rfl,_,_,rfl,rfl,mul2 _,_,_,rfl,rfl,_,_,rfl,rfl,mp,?_⟩
   have k0:=Int.emod_nonneg rz (show (2*(rs.length:Int)+2)≠0 by omega)
   have k1:=Int.emod_lt_of_pos rz mp
   have jb:-(2 ^ 62)≤rz % (2*(rs.length:Int)+2)∧rz % (2*(rs.length:Int)+2)<2 ^ 62:=by
    generalize rz % (2*(rs.length:Int)+2)=sx at k0 k1
    omega
   refine ⟨_,rfl,jb.1,jb.2,?_⟩
   refine for_range (fun i σ H2=>Same H H2∧∃ v u,σ=[some (.ref R),some (.ref T),some (.int z),some (.int (rs.length:Int)),some (.int (z % 8)),some (.int y),some (.int rz),none,none,none,some (.int v),u]) ⟨Same.refl _,y-2,none,rfl⟩ ?_ ?_
   ·rintro i σ H2 hi ⟨s2,v,u,rfl⟩
    exact ⟨_,rfl,_,rfl,T,bs,ts,v,rfl,M1.tm.keep s2,by omega,by omega,tl,gi.ne,fun H3 v' s3=>⟨s2.trans s3,v',_,rfl⟩⟩
   ·rintro σ H2 ⟨s2,v,u,rfl⟩
    have M2:=M1.keep s2
    have s02:=s01.trans s2
    refine ⟨_,rfl,_,rfl,_,_,rfl,rfl,_,rfl,_,_,rfl,rfl,mul2 _,T,bs,ts,y-2,_,rfl,M2.tm,by omega,by omega,tl,gi.ne,fun H3 place at_ b t s3 sp hb ht=>?_⟩
    have M3:=(M2.keep s3).turn (t:=insL t at_ (2*(rs.length:Int))) hb
    have hB:H3 b=some (.lst (t.map V.int)):=s3 _ _ (M2.tm.rows.2 place b t hb ht)
    have s03:=same_up (s02.trans s3) (nb b (List.mem_of_getElem? hb)) (.lst ((insL t at_ (2*(rs.length:Int))).map V.int))
    generalize upd H3 b (.lst ((insL t at_ (2*(rs.length:Int))).map V.int))=H4 at M3 s03
    have tm:=List.mem_of_getElem? ht
    have tl3:∀ u∈ts.set place (insL t at_ (2*(rs.length:Int))),u.length≤1000:=set_all tl (by rw [insL_len]; have:=gi.lens t tm; omega)
    have ne3:∀ u∈ts.set place (insL t at_ (2*(rs.length:Int))),u≠[]:=set_all gi.ne (fun z=>by have:=congrArg List.length z; rw [insL_len] at this; simp at this)
    refine ⟨_,rfl,.inl ⟨rfl,_,SqL.of M3.r1⟩,_,rfl,_,rfl,_,rfl,_,rfl,_,_,rfl,rfl,mul2 _,_,_,rfl,rfl,T,bs,ts.set place (insL t at_ (2*(rs.length:Int))),v,_,rfl,M3.tm,by rw [List.length_set]; omega,by rw [List.length_set]; omega,tl3,ne3,fun H5 place2 at2 b2 t2 s5 sp2 hb2 ht2=>?_⟩
    have M5:=(M3.keep s5).turn (t:=insL t2 at2 (2*(rs.length:Int)+1)) hb2
    have hB2:H5 b2=some (.lst (t2.map V.int)):=s5 _ _ (M3.tm.rows.2 place2 b2 t2 hb2 ht2)
    have s05:=same_up (s03.trans s5) (nb b2 (List.mem_of_getElem? hb2)) (.lst ((insL t2 at2 (2*(rs.length:Int)+1)).map V.int))
    generalize upd H5 b2 (.lst ((insL t2 at2 (2*(rs.length:Int)+1)).map V.int))=H6 at M5 s05
    refine ⟨_,rfl,_,rfl,_,_,rfl,rfl,mul2 _,_,_,rfl,rfl,_,_,rfl,rfl,⟨mp,mq⟩,_,rfl,fun e he h0 ea hea=>⟨by show 3≤sizeLine; decide,fun p hp=>?_⟩⟩
    have s1:=same_new hea (.tup [.int e.num,.int e.den])
    have fe:FrR (upd H6 ea (.tup [.int e.num,.int e.den])) ea e:=upd_same
    replace M5:=M5.keep s1
    replace s05:=s05.trans s1
    generalize upd H6 ea (.tup [.int e.num,.int e.den])=H6' at s1 fe M5 s05 hp
    have sp7:=same_new hp (.tup [.int ((place:Nat):Int),.int ((place2:Nat):Int),.ref ea])
    have M7:=M5.keep sp7
    have rp:RopeR (upd H6' p (.tup [.int ((place:Nat):Int),.int ((place2:Nat):Int),.ref ea])) p (place,place2,e):=⟨ea,upd_same,sp7 _ _ fe⟩
    have s07:=s05.trans sp7
    generalize upd H6' p (.tup [.int ((place:Nat):Int),.int ((place2:Nat):Int),.ref ea])=H7 at sp7 M7 rp s07
    refine ⟨R,cs.map V.ref,.ref p,rfl,rfl,M7.r1,by rw [List.length_map]; exact szl (by omega),?_⟩
    have M8:=M7.ropes (M7.rr.snoc rp)
    rw [List.map_append] at M8
    exact q _ _ _ _ _ (same_up s07 nR _) M8 (gi.chord ht ht2 he h0) (set_all (P:=Lo) (set_all lo (lo_ins (lo t tm) (by omega))) (lo_ins (set_all (P:=Lo) lo (lo_ins (lo t tm) (by omega)) t2 (List.mem_of_getElem? ht2)) (by omega))) (len_snoc _ _) nb
end
end My
namespace My
open PySem L2 Mth Wd
theorem erase_perm {α:Type}:∀ {ss:List α} {k:Nat} {x:α},ss[k]?=some x->(x :: ss.eraseIdx k).Perm ss
 | s :: ss,0,x,h=>by cases h; exact .refl _
 | s :: ss,k+1,x,h=>by
  have:=erase_perm (ss:=ss) (k:=k) (by simpa using h)
  exact (List.Perm.swap s x _).trans (this.cons s)
theorem map_erase:∀ (ss:List Int) (k:Nat),(ss.map V.int).eraseIdx k=(ss.eraseIdx k).map V.int
 | [],k=>by cases k <;> rfl
 | s :: ss,0=>rfl
 | s :: ss,k+1=>by
  show _ :: (ss.map V.int).eraseIdx k=_ :: (ss.eraseIdx k).map V.int
  rw [map_erase ss k]
theorem rope_upd' {H:Hp} {b c:Addr} {o o':HO} {r:Rope} (hb:H b=some o') (hn:∀ ys,o'≠.tup ys) (h:RopeR H c r):RopeR (upd H b o) c r:=by
 obtain ⟨e,h1,h2⟩:=h
 refine ⟨e,by rw [upd_ne (fun z=>by rw [z,hb] at h1; exact hn _ (Option.some.inj h1))]; exact h1,?_⟩
 unfold FrR at h2 ⊢
 rw [upd_ne (fun z=>by rw [z,hb] at h2; exact hn _ (Option.some.inj h2))]; exact h2
theorem ropes_upd' {H:Hp} {b:Addr} {o o':HO} {cs:List Addr} {rs:List Rope} (hb:H b=some o') (hn:∀ ys,o'≠.tup ys) (h:At RopeR H cs rs):At RopeR (upd H b o) cs rs:=⟨h.1,fun i c r e1 e2=>rope_upd' hb hn (h.2 i c r e1 e2)⟩
section
variable {P:Program} {w:World} {K:PySem.W.Frag} {mg:Str->Option Value} {base:Heap} {f g h f1 f2 f3 f4:Addr} {fd gd hd d1 d2 d3 d4:FuncData}
inductive SpOrderR (vs:List V) (H:Hp) (Q:VK):Prop
 | mk (a:Addr) (xs:List Int) (c:Int) (h_0:vs=[.ref a,.int c]) (h_1:H a=some (.lst (xs.map V.int))) (h_2:xs.length≤100) (h_3:∀ (p l:Addr) (os:List Int) (c':Int) (H':Hp),Same H H'->H l=none->H' p=some (.tup [.ref l,.int c'])->H' l=some (.lst (os.map V.int))->os.Perm xs->Q (.ref p) H'):SpOrderR vs H Q
def spOrder:Sp:=fun vs H Q _=>SpOrderR vs H Q
theorem scOr:FnScope ["_law_some","_law_cell_here","_law_left","_law_order_here"] ["_law_some","_law_cell_here"] (defScope s_law_order):=⟨rfl,rfl,rfl,by decide +kernel,rfl,by decide +kernel,by decide +kernel⟩
theorem ok_order (F:Fun K "_law_order" "_law_order" s_law_order f fd) (ml:mg "len" = none) (mi:mg "list" = none):FnOk P w K mg base CX0 1 f fd ["_law_some","_law_cell_here"] spOrder:=by
 refine F.ok scOr (fun vs H Q E h=>?_) (fun cdv A outer s H vs Q E hr h=>?_)
 ·obtain ⟨a,xs,c,rfl,_⟩:=h
  rfl
 obtain ⟨a,xs,c,rfl,ha,hm,q⟩:=h
 have hu:(A.deeper (PyProof.Rows.envOfC "_law_order" (defScope s_law_order) s.heap.objs.size f cdv)).units+64<cLine:=hr.units
 refine ⟨_,pss_cons (ps_set (i:=2) scOr.nd rfl (Or.inl rfl) (pe_callTy (callLst (K:=K)) (by rfl) mi bt_list (pa_cons (pv 0) pa_nil)))
  (pss_cons (ps_set (i:=3) scOr.nd rfl (Or.inl rfl) (pe_lst pa_nil))
  (pss_cons (ps_while PassesOwn.never (pt_cmpR (op_ne_lz hu) (pv 2) (pe_lst pa_nil) (nomark _))
   (pss_cons (ps_expr (pe_bmK K PySem.F.plainAttrs_list PySem.F.slot_list_append PySem.F.type_list_append mt_append (pv 3) (pa_cons (pe_bmK K PySem.F.plainAttrs_list PySem.F.slot_list_pop PySem.F.type_list_pop mt_popAt (pv 2) (pa_cons (pe_op op_mod (pv 1) (pe_callB (callLen (K:=K)) (by rfl) ml bt_len (pa_cons (pv 2) pa_nil))) pa_nil)) pa_nil)))
   (pss_one (ps_set (i:=1) scOr.nd rfl (Or.inl rfl) (pe_op op_fdiv (pv 1) (pe_op op_add (pe_callB (callLen (K:=K)) (by rfl) ml bt_len (pa_cons (pv 2) pa_nil)) pe_int))))))
  (pss_one (ps_ret (pe_tup (pa_cons (pv 3) (pa_cons (pv 1) pa_nil))))))),?_⟩
 refine ⟨_,rfl,a,_,rfl,.inl (SqL.of ha),fun S hS=>?_⟩
 have sS:=same_new hS (.lst (xs.map V.int))
 have eS:(upd H S (.lst (xs.map V.int))) S=some (.lst (xs.map V.int)):=upd_same
 generalize upd H S (.lst (xs.map V.int))=H1 at sS eS
 refine ⟨by show 0≤sizeLine; decide,fun L hL=>?_⟩
 have sL:=same_new hL (.lst [])
 have eL:(upd H1 L (.lst [])) L=some (.lst (([]:List Int).map V.int)):=upd_same
 have nSL:S≠L:=ne_of_none eS hL
 have eS1:=sL _ _ eS
 have fL:H L=none:=sS.free hL
 generalize upd H1 L (.lst [])=H2 at sL eL eS1
 refine while_by (fun σ H3=>∃ c ss os,σ=[some (.ref a),some (.int c),some (.ref S),some (.ref L)]∧Same H H3∧H3 S=some (.lst (ss.map V.int))∧H3 L=some (.lst (os.map V.int))∧(os++ss).Perm xs) (fun _ H3=>match H3 S with | some (.lst xs)=>xs.length | _=>0)
  ⟨c,xs,[],rfl,sS.trans sL,eS1,eL,.refl _⟩ ?_ ?_
 ·rintro σ H3 ⟨c,ss,os,rfl,s3,hS3,hL3,pm⟩
  have lens:=pm.length_eq
  rw [List.length_append] at lens
  refine ⟨_,rfl,by show 0≤sizeLine; decide,fun z hz=>?_⟩
  have s4:=s3.trans (same_new hz (.lst []))
  have hS4:=same_new hz (.lst []) _ _ hS3
  have hL4:=same_new hz (.lst []) _ _ hL3
  have mz:(match H3 S with | some (.lst xs)=>xs.length | _=>0)=ss.length:=by rw [hS3]; show (ss.map V.int).length=_; rw [List.length_map]
  refine ⟨S,z,ss,rfl,rfl,hS4,upd_same,_,rfl,?_⟩
  generalize upd H3 z (.lst [])=H4 at s4 hS4 hL4
  cases hss:ss with
  | nil =>
   subst hss
   rw [List.append_nil] at pm
   refine iteF ?_
   refine ⟨_,rfl,_,rfl,by show 2≤sizeLine; decide,fun p hp=>?_⟩
   exact q p L os c _ (s4.trans (same_new hp _)) fL upd_same (same_new hp _ _ _ hL4) pm
  | cons s0 st =>
   rw [←hss]
   have h0:0<ss.length:=by rw [hss]; simp
   rw [show (!ss.isEmpty)=true by rw [hss]; rfl]
   refine iteT ?_
   have lp:(0:Int)<(((ss.map V.int).length:Nat):Int):=by rw [List.length_map]; omega
   have d0:=Int.emod_nonneg c (Int.ne_of_gt lp)
   have d1:=Int.emod_lt_of_pos c lp
   obtain ⟨k,hk⟩:∃ k:Nat,c % (((ss.map V.int).length:Nat):Int)=(k:Int):=⟨(c % (((ss.map V.int).length:Nat):Int)).toNat,by omega⟩
   rw [hk,List.length_map] at d1
   have hk2:k<ss.length:=by omega
   have ek:ss[k]?=some ss[k]:=List.getElem?_eq_getElem hk2
   generalize ss[k]=x at ek
   have ev:(ss.map V.int)[k]?=some (.int x):=by rw [List.getElem?_map,ek]; rfl
   refine ⟨_,rfl,.inl ⟨rfl,_,SqL.of hL4⟩,_,rfl,.inl ⟨rfl,_,SqL.of hS4⟩,_,rfl,_,rfl,S,_,rfl,.inl (SqL.of hS4),_,_,rfl,rfl,lp,S,_,(k:Int),k,_,rfl,congrArg (fun z=>[V.int z]) hk,hS4,by omega,by omega,(ixN_seq (by rw [List.length_map]; exact ixN_nat' hk2)).1,ev,L,_,_,rfl,rfl,by rw [upd_ne (Ne.symm nSL)]; exact hL4,by rw [List.length_map]; exact szl (by omega),?_⟩
   rw [map_erase]
   have s5:=(s4.up hS (.lst ((ss.eraseIdx k).map V.int))).up fL (.lst (os.map V.int++[.int x]))
   have hS5:(upd (upd H4 S (.lst ((ss.eraseIdx k).map V.int))) L (.lst (os.map V.int++[.int x]))) S=some (.lst ((ss.eraseIdx k).map V.int)):=by rw [upd_ne nSL,upd_same]
   have hL5:(upd (upd H4 S (.lst ((ss.eraseIdx k).map V.int))) L (.lst (os.map V.int++[.int x]))) L=some (.lst ((os++[x]).map V.int)):=by rw [upd_same,List.map_append]; rfl
   generalize upd (upd H4 S (.lst ((ss.eraseIdx k).map V.int))) L (.lst (os.map V.int++[.int x]))=H5 at s5 hS5 hL5
   have pe:=erase_perm ek
   have le:=pe.length_eq
   rw [List.length_cons] at le
   refine ⟨_,rfl,_,rfl,S,_,rfl,.inl (SqL.of hS5),_,_,rfl,rfl,_,_,rfl,rfl,⟨by rw [List.length_map]; omega,by rw [List.length_map]; show ((ss.eraseIdx k).length:Int)+1<1073741824; omega⟩,?_⟩
   refine ⟨⟨_,ss.eraseIdx k,os++[x],rfl,s5,hS5,hL5,?_⟩,?_⟩
   ·refine List.Perm.trans ?_ pm
    rw [List.append_assoc]
    exact pe.append_left os
   ·rw [hS5,hS3]
    show ((ss.eraseIdx k).map V.int).length<(ss.map V.int).length
    rw [List.length_map,List.length_map]
    omega
 ·rintro σ H2 Q1 Q2 hq ⟨v,e,sz,k⟩
  refine ⟨v,e,sz,fun z hz=>?_⟩
  obtain ⟨p,q,ns,e1,e2,e3,e4,b,eb,w⟩:=k z hz
  exact ⟨p,q,ns,e1,e2,e3,e4,b,eb,hq _ _ w⟩
end
end My
namespace My
open PySem L2 Mth Wd
theorem at_flip (x y:Nat) {z:Int} (h:z=0∨z=1):atI [V.int (x:Int),V.int (y:Int)] z=some (.int ((if z=0 then x else y:Nat):Int))∧atI [V.int (x:Int),V.int (y:Int)] (1-z)=some (.int ((if z=0 then y else x:Nat):Int)):=by
 rcases h with rfl | rfl
 ·exact ⟨at0,at1⟩
 ·exact ⟨at1,at0⟩
theorem ren_flip (ps:List Int) (r:Rope) (z:Int):RenR ps r ((if z=0 then ix ps r.1 else ix ps r.2.1:Nat),(if z=0 then ix ps r.2.1 else ix ps r.1:Nat),r.2.2):=by
 by_cases h:z=0
 ·rw [if_pos h,if_pos h]; exact .inl rfl
 ·rw [if_neg h,if_neg h]; exact .inr rfl
def KeysAt (os:List Int) (i:Nat) (L:List (Int×Int)):Prop:=L.length≤2*i+2∧(∀ x:Int,x∈L.map (·.1)↔x=-2∨x=-1∨∃ y∈os.take i,x=2*y∨x=2*y+1) ∧
 ∀ k j:Nat,k<i->os[k]?=some (j:Int)->∀ b:Int,(b=0∨b=1)->∃ v,lk L (2*(j:Int)+b)=some v∧v / 2=(k:Int)
theorem lk_app {L M:List (Int×Int)} {e v:Int} (h:lk L e=some v):lk (L++M) e=some v:=by
 unfold lk at h ⊢
 rw [List.find?_append]
 cases q:L.find? fun p=>decide (p.1=e) with
 | none=>rw [q] at h; cases h
 | some x=>rw [q] at h; exact h
theorem lk_new {L:List (Int×Int)} {e v:Int} (h:e∉L.map (·.1)):lk (L++[(e,v)]) e=some v:=by
 have q:=lk_none h
 unfold lk at q ⊢
 rw [List.find?_append]
 cases y:L.find? fun p=>decide (p.1=e) with
 | none=>simp
 | some x=>rw [y] at q; cases q
theorem keys_next {os:List Int} {m i j:Nat} {L:List (Int×Int)} {v u:Int} (ho:os.Perm (nats m)) (h:KeysAt os i L) (hj:os[i]?=some (j:Int)) (hv:v / 2=(i:Int)) (hu:u / 2=(i:Int)) :
  (2*(j:Int))∉L.map (·.1)∧(2*(j:Int)+1)∉(L++[(2*(j:Int),v)]).map (·.1)∧KeysAt os (i+1) ((L++[(2*(j:Int),v)])++[(2*(j:Int)+1,u)]):=by
 have fr:=take_fresh (ps_nd ho) hj
 have no:∀ b:Int,(b=0∨b=1)->(2*(j:Int)+b)∉L.map (·.1):=by
  intro b hb z
  rcases (h.2.1 _).mp z with z | z | ⟨y,hy,z⟩
  ·omega
  ·omega
  ·exact fr (by rw [show (j:Int)=y by omega]; exact hy)
 have n0:(2*(j:Int))∉L.map (·.1):=by have:=no 0 (.inl rfl); rwa [Int.add_zero] at this
 have n1:(2*(j:Int)+1)∉(L++[(2*(j:Int),v)]).map (·.1):=fun z=>by
  rw [List.map_append,List.mem_append] at z
  rcases z with z | z
  ·exact no 1 (.inr rfl) z
  ·simp only [List.map_cons,List.map_nil,List.mem_singleton] at z
   omega
 refine ⟨n0,n1,⟨?_,fun x=>?_,fun k j' hk hj' b hb=>?_⟩⟩
 ·rw [List.length_append,List.length_append,List.length_singleton,List.length_singleton]
  have:=h.1
  omega
 ·rw [List.map_append,List.map_append,List.mem_append,List.mem_append,h.2.1 x,take_snoc hj]
  simp only [List.map_cons,List.map_nil,List.mem_singleton,List.mem_append]
  constructor
  ·rintro (((z | z | ⟨y,hy,z⟩) | z) | z)
   ·exact .inl z
   ·exact .inr (.inl z)
   ·exact .inr (.inr ⟨y,.inl hy,z⟩)
   ·exact .inr (.inr ⟨_,.inr rfl,.inl z⟩)
   ·exact .inr (.inr ⟨_,.inr rfl,.inr z⟩)
  ·rintro (z | z | ⟨y,hy | rfl,z⟩)
   ·exact .inl (.inl (.inl z))
   ·exact .inl (.inl (.inr (.inl z)))
   ·exact .inl (.inl (.inr (.inr ⟨y,hy,z⟩)))
   ·rcases z with z | z
    ·exact .inl (.inr z)
    ·exact .inr z
 ·rcases Nat.lt_or_ge k i with z | z
  ·obtain ⟨w,e1,e2⟩:=h.2.2 k j' z hj' b hb
   exact ⟨w,lk_app (lk_app e1),e2⟩
  ·obtain rfl:k=i:=by omega
   rw [hj] at hj'
   have ej:j'=j:=by have:=Option.some.inj hj'; omega
   subst ej
   rcases hb with rfl | rfl
   ·exact ⟨v,by rw [Int.add_zero]; exact lk_app (lk_new n0),hv⟩
   ·exact ⟨u,lk_new n1,hu⟩
theorem keys_all {os:List Int} {m:Nat} {L:List (Int×Int)} (ho:os.Perm (nats m)) (h:KeysAt os m L) {x:Int} (h1:-2≤x) (h2:x<2*(m:Int)):∃ v,lk L x=some v:=by
 refine lk_some ((h.2.1 x).mpr ?_)
 rw [List.take_of_length_le (by rw [ps_len ho]; exact Nat.le_refl _)]
 rcases Int.lt_or_le x 0 with z | z
 ·omega
 ·refine .inr (.inr ⟨((x.toNat / 2:Nat):Int),ps_mem ho (by omega),?_⟩)
  omega
theorem ren_netE {n m:Nat} {rs rs':List Rope} {os ps:List Int} (N:NetE n m rs) (ho:os.Perm (nats m)) (hp:ps.Perm (nats n)) (h0:ps[0]?=some 0) (hl:rs'.length=m) (h:∀ (k:Nat) (r':Rope),rs'[k]?=some r'->∃ (j:Nat) (r:Rope),os[k]?=some (j:Int)∧rs[j]?=some r∧RenR ps r r'):NetE n m rs':=by
 have back:∀ r'∈rs',∃ r∈rs,RenR ps r r':=fun r' hr'=>by
  obtain ⟨k,hk,e⟩:=List.getElem_of_mem hr'
  obtain ⟨j,r,_,h2,h3⟩:=h k r' (by rw [List.getElem?_eq_getElem hk,e])
  exact ⟨r,List.mem_of_getElem? h2,h3⟩
 have forth:∀ r∈rs,∃ r'∈rs',RenR ps r r':=fun r hr=>by
  obtain ⟨j,hj,e⟩:=List.getElem_of_mem hr
  have hjm:j<m:=by rw [←N.j.len]; exact hj
  have hk:=ix_lt ho hjm
  have hm:=ps_mem ho hjm
  have hkl:=List.idxOf_lt_length_iff.mpr hm
  have ek:os[ix os j]?=some (j:Int):=by
   show os[os.idxOf (j:Int)]?=_
   rw [List.getElem?_eq_getElem hkl,List.getElem_idxOf hkl]
  have hk':ix os j<rs'.length:=by rw [hl]; exact hk
  obtain ⟨j',r1,q1,q2,q3⟩:=h (ix os j) rs'[ix os j] (List.getElem?_eq_getElem hk')
  rw [ek] at q1
  have:j'=j:=by have:=Option.some.inj q1; omega
  subst this
  rw [List.getElem?_eq_getElem hj,e] at q2
  cases q2
  exact ⟨_,List.getElem_mem hk',q3⟩
 refine ⟨⟨N.j.two,N.j.few,hl,fun r' hr'=>?_⟩,fun r' hr'=>?_,fun r' hr'=>?_,hang_ren hp N.hang h0 forth⟩
 ·obtain ⟨r,hr,e | e⟩:=back r' hr'
  ·rw [e]; exact ⟨ix_lt hp (N.j.ends r hr).1,ix_lt hp (N.j.ends r hr).2⟩
  ·rw [e]; exact ⟨ix_lt hp (N.j.ends r hr).2,ix_lt hp (N.j.ends r hr).1⟩
 ·obtain ⟨r,hr,e | e⟩:=back r' hr' <;> (rw [e]; exact N.ease r hr)
 ·obtain ⟨r,hr,e | e⟩:=back r' hr' <;> (rw [e]; exact N.pos r hr)
theorem upd_other {H:Hp} {a b:Addr} {o o1 o2:HO} (ha:H a=some o1) (hb:H b=some o2) (ne:o1≠o2):upd H a o b=some o2:=by
 rw [upd_ne (fun z=>ne (by rw [z,ha] at hb; exact Option.some.inj hb))]
 exact hb
theorem map_nats (m:Nat):(nats m).map V.int=(List.range m).map fun i:Nat=>V.int (i:Int):=by unfold nats; rw [List.map_map]; rfl
section
variable {P:Program} {w:World} {K:PySem.W.Frag} {mg:Str->Option Value} {base:Heap} {f g h f1 f2 f3 f4:Addr} {fd gd hd d1 d2 d3 d4:FuncData}
structure Trn (n:Nat) (rs:List Rope) (ts:List (List Int)):Prop where
 len:ts.length=n
 ne:∀ t∈ts,t≠[]
 lens:∀ t∈ts,t.length≤28
 has:∀ (k:Nat) (r:Rope),rs[k]?=some r->∀ p:Nat,(p=r.1∨p=r.2.1)->∃ t x,ts[p]?=some t∧x∈t∧x / 2=(k:Int)
def NetT (H:Hp) (a:Addr) (n:Nat) (rs:List Rope) (ts:List (List Int)):Prop:=∃ ra ta,H a=some (.tup [.int (n:Int),.ref ra,.ref ta])∧TupR RopeR H ra rs∧TupR IntsT H ta ts
theorem NetT.net {H:Hp} {a:Addr} {n:Nat} {rs:List Rope} {ts:List (List Int)} (h:NetT H a n rs ts):NetR H a n rs:=by
 obtain ⟨ra,ta,h1,h2,_⟩:=h
 exact ⟨ra,.ref ta,h1,h2⟩
theorem mo_netT {H H':Hp} {a:Addr} {n:Nat} {rs:List Rope} {ts:List (List Int)} (s:Same H H') (h:NetT H a n rs ts):NetT H' a n rs ts:=by
 obtain ⟨ra,ta,h1,h2,h3⟩:=h
 exact ⟨ra,ta,s _ _ h1,mo_tup (R:=RopeR) (fun s h=>mo_rope s h) s h2,mo_tup (R:=IntsT) (fun s h=>mo_intsT s h) s h3⟩
def RowOf (L:List (Int×Int)) (t row:List Int):Prop:=row.length=t.length∧∀ x∈t,∃ v∈row,lk L x=some v
theorem trn_of {n m:Nat} {rs rows:List Rope} {ts rows2:List (List Int)} {os ps:List Int} {L:List (Int×Int)} (gi:Gi ts rs) (hm:rs.length≤14) (hp:ps.Perm (nats ts.length)) (KL:KeysAt os m L) (ho:os.length=m)
  (made:∀ (k:Nat) (r':Rope),rows[k]?=some r'->∃ (j:Nat) (r:Rope),os[k]?=some (j:Int)∧rs[j]?=some r∧RenR ps r r') (l2:rows2.length=ts.length)
  (rw2:∀ (p:Nat) (row:List Int),rows2[p]?=some row->∃ (j:Nat) (t:List Int),ps[p]?=some (j:Int)∧ts[j]?=some t∧RowOf L t row):Trn ts.length rows rows2:=by
 have el:∀ row∈rows2,∃ t∈ts,RowOf L t row:=fun row hr=>by
  obtain ⟨p,hp',e⟩:=List.getElem_of_mem hr
  obtain ⟨j,t,_,h2,h3⟩:=rw2 p row (by rw [List.getElem?_eq_getElem hp',e])
  exact ⟨t,List.mem_of_getElem? h2,h3⟩
 refine ⟨l2,fun row hr z=>?_,fun row hr=>?_,fun k r' hk p hpr=>?_⟩
 ·obtain ⟨t,ht,h1,_⟩:=el row hr
  rw [z] at h1
  exact gi.ne t ht (List.length_eq_zero_iff.mp h1.symm)
 ·obtain ⟨t,ht,h1,_⟩:=el row hr
  have:=gi.lens t ht
  omega
 ·obtain ⟨j,r,e1,e2,e3⟩:=made k r' hk
  have hkm:k<m:=by rw [←ho]; exact (List.getElem?_eq_some_iff.mp e1).1
  have rm:=List.mem_of_getElem? e2
  obtain ⟨g1,g2,_⟩:=gi.ends r rm
  have key:∀ (q:Nat) (b:Int),q<ts.length->(b=0∨b=1)->inT ts q (2*(j:Int)+b)->∃ t x,rows2[ix ps q]?=some t∧x∈t∧x / 2=(k:Int):=fun q b hq hb hin=>by
   obtain ⟨t0,ht0,hx⟩:=hin
   have hl:ix ps q<rows2.length:=by rw [l2]; exact ix_lt hp hq
   have er:rows2[ix ps q]?=some rows2[ix ps q]:=List.getElem?_eq_getElem hl
   obtain ⟨j2,t2,q1,q2,q3⟩:=rw2 _ _ er
   have hmem:=ps_mem hp hq
   have hkl:=List.idxOf_lt_length_iff.mpr hmem
   have eq1:ps[ix ps q]?=some (q:Int):=by
    show ps[ps.idxOf (q:Int)]?=_
    rw [List.getElem?_eq_getElem hkl,List.getElem_idxOf hkl]
   rw [eq1] at q1
   have:j2=q:=by have:=Option.some.inj q1; omega
   subst this
   rw [ht0] at q2
   cases q2
   obtain ⟨v,hv,hlk⟩:=q3.2 _ hx
   obtain ⟨v',e4,e5⟩:=KL.2.2 k j hkm e1 b hb
   rw [e4] at hlk
   cases hlk
   exact ⟨_,v,er,hv,e5⟩
  have ke:=key r.1 0 g1 (.inl rfl) (by rw [Int.add_zero]; exact gi.even j r e2)
  have ko:=key r.2.1 1 g2 (.inr rfl) ((gi.odd j r e2 _).mpr rfl)
  rcases e3 with e | e <;> (rw [e] at hpr; rcases hpr with rfl | rfl <;> first | exact ke | exact ko)
inductive SpNamedR (vs:List V) (H:Hp) (Q:VK):Prop
 | mk (R T:Addr) (cs bs:List Addr) (ts:List (List Int)) (rs:List Rope) (c:Int) (h_0:vs=[.ref R,.ref T,.int c]) (h_1:NetM H R T cs bs ts rs) (h_2:Gi ts rs) (h_3:(∀ t∈ts,Lo t)) (h_4:rs.length≤14) (h_5:∀ p rs' ts' H',Same H H'->NetT H' p ts.length rs' ts'->NetE ts.length rs.length rs'->Trn ts.length rs' ts'->Q (.ref p) H'):SpNamedR vs H Q
def spNamed:Sp:=fun vs H Q _=>SpNamedR vs H Q
theorem scNa:FnScope ["_law_ropes","_law_turns","_law_cell_here","_law_many","_law_order_here","_law_spots","_law_names","_law_made","_law_at","_law_one","_law_other","_law_ease_here","_law_pair","_law_flip","_law_rows","_law_place","_law_row","_law_cut"] ["_law_ropes","_law_turns","_law_cell_here"] (defScope s_law_named):=⟨rfl,rfl,rfl,by decide +kernel,rfl,by decide +kernel,by decide +kernel⟩
theorem ndEN:(["_law_end","_law_names"]:List Str).Nodup:=by decide +kernel
set_option maxHeartbeats 4000000 in
seal L2.PSs L2.PS L2.PE L2.PA in
theorem ok_named (F:Fun K "_law_named" "_law_named" s_law_named f fd) (G1:FnOk P w K mg base CX0 1 f1 d1 ["_law_some","_law_cell_here"] spOrder) (b1:Binds K d1 ["_law_some","_law_cell_here"] []) (k1:PySem.W.keepIn K (.ref f1)=true) (m1:mg "_law_order" = some (.ref f1))
  (ml:mg "len" = none) (mr:mg "range" = none) (mi:mg "list" = none) (mt:mg "tuple" = none):FnOk P w K mg base CX0 2 f fd ["_law_ropes","_law_turns","_law_cell_here"] spNamed:=by
 refine F.ok scNa (fun vs H Q E h=>?_) (fun cdv A outer s H vs Q E hr h=>?_)
 ·obtain ⟨R,T,cs,bs,ts,rs,c,rfl,_⟩:=h
  rfl
 obtain ⟨R,T,cs,bs,ts,rs,c,rfl,M,gi,lo,h14,q⟩:=h
 have hu0:(A.deeper (PyProof.Rows.envOfC "_law_named" (defScope s_law_named) s.heap.objs.size f cdv)).units+64<cLine:=hr.units
 have hu:(A.deeper (PyProof.Rows.envOfC "_law_named" (defScope s_law_named) s.heap.objs.size f cdv)).units+1<cLine:=Nat.lt_of_le_of_lt (Nat.add_le_add_left (by decide) _) hu0
 clear hu0
 refine ⟨_,pss_cons (ps_set (i:=3) scNa.nd rfl (Or.inl rfl) (pe_callB (callLen (K:=K)) (by rfl) ml bt_len (pa_cons (pv 0) pa_nil)))
  (pss_cons (ps_asg (pe_call G1 hr (by rfl) m1 k1 b1 .nil pass0 (pa_cons (pe_listRange rfl (by rfl) mi (by rfl) mr (pv 3)) (pa_cons (pv 2) pa_nil))) (pgTup (n:=2) (K:=K) rfl (pgs_cons (pg_name (i:=4) scNa.nd rfl (Or.inl rfl)) (pgs_cons (pg_name (i:=2) scNa.nd rfl (Or.inl rfl)) pgs_nil))))
  (pss_cons (ps_asg (pe_call G1 hr (by rfl) m1 k1 b1 .nil pass0 (pa_cons (pe_listRange2 rfl (by rfl) mi (by rfl) mr (pa_cons pe_int (pa_cons (pe_callB (callLen (K:=K)) (by rfl) ml bt_len (pa_cons (pv 1) pa_nil)) pa_nil))) (pa_cons (pv 2) pa_nil))) (pgTup (n:=2) (K:=K) rfl (pgs_cons (pg_name (i:=5) scNa.nd rfl (Or.inl rfl)) (pgs_cons (pg_name (i:=2) scNa.nd rfl (Or.inl rfl)) pgs_nil))))
  (pss_cons (ps_set (i:=5) scNa.nd rfl (Or.inl rfl) (pe_op op_cat (pe_lst (pa_cons pe_int (pa_cons pe_int pa_nil))) (pv 5)))
  (pss_cons (ps_set (i:=6) scNa.nd rfl (Or.inr rfl) (pe_disp (pps_cons (pe_un un_neg pe_int) (pe_op op_mul pe_int (pv 3)) (pps_cons (pe_un un_neg pe_int) (pe_op op_add (pe_op op_mul pe_int (pv 3)) pe_int) pps_nil)) rfl rfl (fun z=>by cases z) (by decide)))
  (pss_cons (ps_set (i:=7) scNa.nd rfl (Or.inl rfl) (pe_lst pa_nil))
  (pss_cons (ps_for PassesOwn.never rfl (pi_range1 (by rfl) mr (pa_cons (pv 3) pa_nil)) (pg_name (i:=8) scNa.nd rfl (Or.inl rfl))
   (pss_cons (ps_asg (pe_ix (ixL (K:=K)) (pv 0) (pe_ix (ixL (K:=K)) (pv 4) (pv 8) (fun _ _=>rfl)) (fun _ _=>rfl)) (pgTup (n:=3) (K:=K) rfl (pgs_cons (pg_name (i:=9) scNa.nd rfl (Or.inl rfl)) (pgs_cons (pg_name (i:=10) scNa.nd rfl (Or.inl rfl)) (pgs_cons (pg_name (i:=11) scNa.nd rfl (Or.inl rfl)) pgs_nil)))))
   (pss_cons (ps_set (i:=12) scNa.nd rfl (Or.inl rfl) (pe_lst (pa_cons (pe_bmK K PySem.F.plainAttrs_list PySem.F.slot_list_index PySem.F.type_list_index mt_index (pv 5) (pa_cons (pv 9) pa_nil)) (pa_cons (pe_bmK K PySem.F.plainAttrs_list PySem.F.slot_list_index PySem.F.type_list_index mt_index (pv 5) (pa_cons (pv 10) pa_nil)) pa_nil))))
   (pss_cons (ps_set (i:=13) scNa.nd rfl (Or.inl rfl) (pe_op op_mod (pv 2) pe_int))
   (pss_cons (ps_set (i:=2) scNa.nd rfl (Or.inl rfl) (pe_op op_fdiv (pv 2) pe_int))
   (pss_cons (ps_dput hu (pv 6) (pe_op op_mul pe_int (pe_ix (ixL (K:=K)) (pv 4) (pv 8) (fun _ _=>rfl))) (pe_op op_add (pe_op op_mul pe_int (pv 8)) (pv 13)) rfl)
   (pss_cons (ps_dput hu (pv 6) (pe_op op_add (pe_op op_mul pe_int (pe_ix (ixL (K:=K)) (pv 4) (pv 8) (fun _ _=>rfl))) pe_int) (pe_op op_sub (pe_op op_add (pe_op op_mul pe_int (pv 8)) pe_int) (pv 13)) rfl)
   (pss_one (ps_expr (pe_bmK K PySem.F.plainAttrs_list PySem.F.slot_list_append PySem.F.type_list_append mt_append (pv 7) (pa_cons (pe_tup (pa_cons (pe_ix (ixL (K:=K)) (pv 12) (pv 13) (fun _ _=>rfl)) (pa_cons (pe_ix (ixL (K:=K)) (pv 12) (pe_op op_sub pe_int (pv 13)) (fun _ _=>rfl)) (pa_cons (pv 11) pa_nil)))) pa_nil)))))))))))
  (pss_cons (ps_set (i:=14) scNa.nd rfl (Or.inl rfl) (pe_lst pa_nil))
  (pss_cons (ps_for PassesOwn.never rfl (piLst (K:=K) (pv 5)) (pg_name (i:=15) scNa.nd rfl (Or.inl rfl))
   (pss_cons (ps_setComp (i:=16) scNa.nd rfl (Or.inl rfl) (Nc:=["_law_end","_law_names"]) (cap:=[(1,6)]) (g:=gName 0) (te:=tDGet (tVar 1) (tVar 0)) rfl (piLst (K:=K) (pe_ix (ixL (K:=K)) (pv 1) (pv 15) (fun _ _=>rfl)))
    (comp_mk rfl rfl (by decide +kernel) (by decide +kernel) (List.forall_mem_cons.mpr ⟨⟨rfl,rfl⟩,List.forall_mem_nil _⟩) rfl (List.forall_mem_cons.mpr ⟨⟨_,_,rfl,rfl,rfl,rfl,rfl⟩,List.forall_mem_nil _⟩)) (fun C fp pins s' H'=>pg_name (i:=0) ndEN rfl (Or.inl rfl))
    (fun C fp pins s' H'=>pe_dget hu (pv 1) (pv 0) (fun _ _=>rfl)))
   (pss_cons (ps_set (i:=17) scNa.nd rfl (Or.inl rfl) (pe_op op_mod (pv 2) (pe_callB (callLen (K:=K)) (by rfl) ml bt_len (pa_cons (pv 16) pa_nil))))
   (pss_cons (ps_set (i:=2) scNa.nd rfl (Or.inl rfl) (pe_op op_fdiv (pv 2) (pe_callB (callLen (K:=K)) (by rfl) ml bt_len (pa_cons (pv 16) pa_nil))))
   (pss_one (ps_expr (pe_bmK K PySem.F.plainAttrs_list PySem.F.slot_list_append PySem.F.type_list_append mt_append (pv 14) (pa_cons (pe_callTy (callTup (K:=K)) (by rfl) mt bt_tuple (pa_cons (pe_op op_cat (pe_slice (slL (K:=K)) (pv 16) (po_some (pv 17)) po_none) (pe_slice (slL (K:=K)) (pv 16) po_none (po_some (pv 17)))) pa_nil)) pa_nil))))))))
  (pss_one (ps_ret (pe_tup (pa_cons (pe_callB (callLen (K:=K)) (by rfl) ml bt_len (pa_cons (pv 14) pa_nil)) (pa_cons (pe_callTy (callTup (K:=K)) (by rfl) mt bt_tuple (pa_cons (pv 7) pa_nil)) (pa_cons (pe_callTy (callTup (K:=K)) (by rfl) mt bt_tuple (pa_cons (pv 14) pa_nil)) pa_nil))))))))))))))
  ,?_⟩
 have lc:(((cs.map V.ref).length:Nat):Int)=(rs.length:Int):=by rw [List.length_map,M.rr.1]
 have lb:(((bs.map V.ref).length:Nat):Int)=(ts.length:Int):=by rw [List.length_map,M.tm.rows.1]
 have two:=gi.two
 have few:=gi.few
 have mul2:∀ x:Int,CMul 2 x:=fun x=>.inl ⟨by decide,by decide⟩
 refine ⟨_,rfl,R,_,rfl,.inl (SqL.of M.r1),?_⟩
 (try dsimp only)
 rw [lc]
 refine ⟨_,rfl,rs.length,rfl,by omega,fun a1 ha1=>?_⟩
 have sa1:=same_new ha1 (.lst ((List.range rs.length).map fun i:Nat=>V.int (i:Int)))
 have ea1:(upd H a1 (.lst ((List.range rs.length).map fun i:Nat=>V.int (i:Int)))) a1=some (.lst ((nats rs.length).map V.int)):=by rw [upd_same,map_nats]
 generalize upd H a1 (.lst ((List.range rs.length).map fun i:Nat=>V.int (i:Int)))=Ha at sa1 ea1
 refine ⟨_,rfl,a1,nats rs.length,c,rfl,ea1,by rw [nats_len]; omega,fun q1 L1 os c1 H1 s1 nL1 hq1 hL1 po=>?_⟩
 refine ⟨q1,_,rfl,SqT.of hq1,rfl,_,_,rfl,_,_,rfl,rfl,?_⟩
 have s01:=sa1.trans s1
 have M1:=M.keep s01
 refine ⟨_,rfl,T,_,rfl,.inl (SqL.of M1.tm.h1),2,ts.length-2,by rw [lb,show (2:Int)+((ts.length-2:Nat):Int)=(ts.length:Int) by omega],by decide,by decide,by omega,fun a2 ha2=>?_⟩
 have sa2:=same_new ha2 (.lst ((List.range (ts.length-2)).map fun i:Nat=>V.int (2+(i:Int))))
 have ea2:(upd H1 a2 (.lst ((List.range (ts.length-2)).map fun i:Nat=>V.int (2+(i:Int))))) a2=some (.lst (((List.range (ts.length-2)).map fun i:Nat=>(2+(i:Int))).map V.int)):=by rw [upd_same,List.map_map]; rfl
 generalize upd H1 a2 (.lst ((List.range (ts.length-2)).map fun i:Nat=>V.int (2+(i:Int))))=Hb at sa2 ea2
 refine ⟨_,rfl,a2,_,c1,rfl,ea2,by rw [List.length_map,List.length_range]; omega,fun q2 L2 ps0 c2 H2 s2 nL2 hq2 hL2 pp=>?_⟩
 refine ⟨q2,_,rfl,SqT.of hq2,rfl,_,_,rfl,_,_,rfl,rfl,?_⟩
 have s02:=s01.trans (sa2.trans s2)
 have hO2:=s2 _ _ (sa2 _ _ hL1)
 clear hq1 hq2 s1 s2 sa1 sa2 ea1 ea2 hL1 M1
 refine ⟨by show 2≤sizeLine; decide,fun la hla=>?_⟩
 have sa:=same_new hla (.lst [.int 0,.int 1])
 have ea:(upd H2 la (.lst [.int 0,.int 1])) la=some (.lst [.int 0,.int 1]):=upd_same
 generalize upd H2 la (.lst [.int 0,.int 1])=H3 at sa ea
 have lps:ps0.length=ts.length-2:=by have:=pp.length_eq; rwa [List.length_map,List.length_range] at this
 refine ⟨_,rfl,la,L2,_,_,rfl,rfl,ea,sa _ _ hL2,by rw [List.length_map]; exact szle (by simp; omega),fun Pl hPl=>?_⟩
 have pe:[V.int 0,V.int 1]++ps0.map V.int=([0,1]++ps0).map V.int:=rfl
 rw [pe]
 have pl:=spots_perm two pp
 have p0:([0,1]++ps0)[0]?=some 0:=rfl
 generalize [0,1]++ps0=ps at pl p0
 have s5:Same H (upd H3 Pl (.lst (ps.map V.int))):=s02.trans (sa.trans (same_new hPl _))
 have eP:(upd H3 Pl (.lst (ps.map V.int))) Pl=some (.lst (ps.map V.int)):=upd_same
 have eO:(upd H3 Pl (.lst (ps.map V.int))) L1=some (.lst (os.map V.int)):=same_new hPl _ _ _ (sa _ _ hO2)
 generalize upd H3 Pl (.lst (ps.map V.int))=H5 at s5 eP eO
 clear sa s02 hL2 hO2 ea hPl hla
 have M5:=M.keep s5
 refine fun D hD=>?_
 have sD0:=same_new hD (.dK [])
 refine ⟨_,rfl,_,rfl,_,_,rfl,rfl,mul2 _,_,rfl,_,rfl,_,_,rfl,rfl,mul2 _,_,_,rfl,rfl,?_⟩
 refine ⟨upd_same,[(Sum.inl (-2),.int (2*(rs.length:Int))),(Sum.inl (-1),.int (2*(rs.length:Int)+1))],rfl,by show 2≤15; decide,?_⟩
 have eN:mergeK [] [((Sum.inl (-2):Key),V.int (2*(rs.length:Int))),(Sum.inl (-1),.int (2*(rs.length:Int)+1))]=kvI [(-2,2*(rs.length:Int)),(-1,2*(rs.length:Int)+1)]:=by
  show putK (putK (kvI []) (Sum.inl (-2):Key) (.int (2*(rs.length:Int)))) (Sum.inl (-1):Key) (.int (2*(rs.length:Int)+1))=_
  rw [put_kvI (by simp),put_kvI (by simp)]
  rfl
 rw [eN]
 have K0:KeysAt os 0 [(-2,2*(rs.length:Int)),(-1,2*(rs.length:Int)+1)]:=⟨by simp,fun x=>by simp,fun k j hk=>absurd hk (Nat.not_lt_zero _)⟩
 generalize [((-2:Int),2*(rs.length:Int)),(-1,2*(rs.length:Int)+1)]=L0 at K0
 have sD:=sD0.up hD (.dK (kvI L0))
 have eD:(upd (upd H5 D (.dK [])) D (.dK (kvI L0))) D=some (.dK (kvI L0)):=upd_same
 generalize upd (upd H5 D (.dK [])) D (.dK (kvI L0))=H6 at sD eD
 refine ⟨by show 0≤sizeLine; decide,fun Mk hMk=>?_⟩
 have sM:=same_new hMk (.lst [])
 have eM:(upd H6 Mk (.lst [])) Mk=some (.lst []):=upd_same
 have eD1:=sM _ _ eD
 have s6:=sD.trans sM
 have nDM:D≠Mk:=ne_of_none eD hMk
 have fM:H5 Mk=none:=sD.free hMk
 generalize upd H6 Mk (.lst [])=H8 at sM eM eD1 s6
 clear sD eD sD0 sM
 try dsimp only
 try refine name_goH ?_
 first | refine seq_hide fun UL1 hUL1=>?_ | refine nx_hide fun UL1 hUL1=>?_
 refine ⟨_,rfl,_,rfl,by omega,by omega,?_⟩
 rw [show ((rs.length:Nat):Int).toNat=rs.length by omega]
 refine for_range (n:=rs.length) (fun i σ H2=>∃ cc u8 u9 u10 u11 u12 u13 L ds rows,σ=[some (.ref R),some (.ref T),some (.int cc),some (.int (rs.length:Int)),some (.ref L1),some (.ref Pl),some (.ref D),some (.ref Mk),u8,u9,u10,u11,u12,u13,none,none,none,none]∧Same H5 H2∧H2 D=some (.dK (kvI L))∧KeysAt os i L ∧
   H2 Mk=some (.lst (ds.map V.ref))∧At RopeR H2 ds rows∧rows.length=i∧∀ (k:Nat) (r':Rope),rows[k]?=some r'->∃ (j:Nat) (r:Rope),os[k]?=some (j:Int)∧rs[j]?=some r∧RenR ps r r')
  ⟨c2,none,none,none,none,none,none,L0,[],[],rfl,s6,eD1,K0,eM,At.nil,rfl,fun k r' hk=>by cases hk⟩ ?_ ?_
 ·rintro i σ H2 hi ⟨cc,u8,u9,u10,u11,u12,u13,L,ds,rows,rfl,s2,hD2,KL,hM2,hR2,lr,made⟩
  obtain ⟨j,hj,ej⟩:=ps_at po hi
  have hrj:rs[j]?=some rs[j]:=List.getElem?_eq_getElem hj
  generalize rs[j]=r at hrj
  obtain ⟨d,hd,e,hd1,hd2⟩:=(M5.keep s2).rr.get hrj
  have cst:(0:Int)+(i:Int)=((i:Nat):Int):=by omega
  have ati:atI (os.map V.int) ((0:Int)+(i:Int))=some (.int (j:Int)):=by rw [cst]; exact atI_nat (by rw [List.getElem?_map,ej]; rfl)
  refine ⟨_,rfl,_,rfl,_,rfl,L1,_,_,_,rfl,rfl,SqL.of (s2 _ _ eO),ati,R,_,_,_,rfl,rfl,SqL.of (M5.keep s2).r1,atI_nat (ref_at hd),?_⟩
  refine ⟨d,_,rfl,SqT.of hd1,rfl,_,_,rfl,_,_,rfl,_,_,rfl,rfl,?_⟩
  have rm:=List.mem_of_getElem? hrj
  obtain ⟨r1,r2,_⟩:=gi.ends r rm
  refine ⟨_,rfl,.inl ⟨rfl,_,SqL.of (s2 _ _ eP)⟩,_,rfl,Pl,ps,(r.1:Int),rfl,rfl,s2 _ _ eP,ps_mem pl r1,by rw [ps_len pl]; omega,_,rfl,.inl ⟨rfl,_,SqL.of (s2 _ _ eP)⟩,_,rfl,Pl,ps,(r.2.1:Int),rfl,rfl,s2 _ _ eP,ps_mem pl r2,by rw [ps_len pl]; omega,by show 2≤sizeLine; decide,fun pr hpr=>?_⟩
  generalize hx1:ps.idxOf ((r.1:Nat):Int)=x1
  generalize hx2:ps.idxOf ((r.2.1:Nat):Int)=x2
  have sp:=same_new hpr (.lst [.int ((x1:Nat):Int),.int ((x2:Nat):Int)])
  have hp3:(upd H2 pr (.lst [.int ((x1:Nat):Int),.int ((x2:Nat):Int)])) pr=some (.lst [.int ((x1:Nat):Int),.int ((x2:Nat):Int)]):=upd_same
  have s3:=s2.trans sp
  have hD3:=sp _ _ hD2
  have hM3:=sp _ _ hM2
  have hR3:=hR2.keep mo_rope sp
  have he3:FrR (upd H2 pr (.lst [.int ((x1:Nat):Int),.int ((x2:Nat):Int)])) e r.2.2:=mo_fr sp hd2
  have npM:pr≠Mk:=fun z=>by rw [z,hM2] at hpr; cases hpr
  generalize upd H2 pr (.lst [.int ((x1:Nat):Int),.int ((x2:Nat):Int)])=H3 at sp hp3 s3 hD3 hM3 hR3 he3
  clear sp hD2 hM2 hR2 hd2 hd1 s2 hpr
  refine ⟨_,rfl,_,_,rfl,rfl,(show (0:Int)<2 by decide),?_⟩
  refine ⟨_,rfl,_,_,rfl,rfl,⟨by decide,by decide⟩,?_⟩
  have f01:cc % 2=0∨cc % 2=1:=by omega
  (try dsimp only)
  generalize cc % 2=fl at f01
  generalize cc / 2=cn
  have szd:∀ (L:List (Int×Int)),L.length≤100->(kvI L).length<sizeLine:=fun L hL=>by rw [List.length_map]; exact szl (by omega)
  have kl:=KL.1
  refine ⟨_,rfl,_,_,rfl,rfl,mul2 _,_,rfl,_,_,rfl,rfl,_,rfl,_,rfl,_,rfl,L1,_,_,_,rfl,rfl,SqL.of (s3 _ _ eO),ati,_,_,rfl,rfl,mul2 _,D,_,rfl,DPut.k (k:=Sum.inl (2*(j:Int))) hD3 (szd _ (by omega)),?_⟩
  (try dsimp only)
  have hv1:(2*((0:Int)+(i:Int))+fl) / 2=(i:Int):=by omega
  generalize 2*((0:Int)+(i:Int))+fl=v1 at hv1
  rw [put_kvI (keys_next po KL ej hv1 hv1).1]
  have s4:=s3.up hD (.dK (kvI (L++[(2*(j:Int),v1)])))
  have hD4:(upd H3 D (.dK (kvI (L++[(2*(j:Int),v1)])))) D=some (.dK (kvI (L++[(2*(j:Int),v1)]))):=upd_same
  have hM4:=upd_other (o:=.dK (kvI (L++[(2*(j:Int),v1)]))) hD3 hM3 (fun z=>by cases z)
  have hp4:=upd_other (o:=.dK (kvI (L++[(2*(j:Int),v1)]))) hD3 hp3 (fun z=>by cases z)
  have hR4:=ropes_upd' (o:=.dK (kvI (L++[(2*(j:Int),v1)]))) hD3 (fun ys z=>by cases z) hR3
  have he4:FrR (upd H3 D (.dK (kvI (L++[(2*(j:Int),v1)])))) e r.2.2:=upd_other hD3 he3 (fun z=>by cases z)
  generalize upd H3 D (.dK (kvI (L++[(2*(j:Int),v1)])))=H4 at s4 hD4 hM4 hp4 hR4 he4
  clear s3 hD3 hM3 hp3 hR3 he3
  refine ⟨_,rfl,_,_,rfl,rfl,mul2 _,_,_,rfl,rfl,_,rfl,_,_,rfl,rfl,_,rfl,_,rfl,_,rfl,L1,_,_,_,rfl,rfl,SqL.of (s4 _ _ eO),ati,_,_,rfl,rfl,mul2 _,_,_,rfl,rfl,D,_,rfl,DPut.k (k:=Sum.inl (2*(j:Int)+1)) hD4 (szd _ (by rw [List.length_append,List.length_singleton]; omega)),?_⟩
  (try dsimp only)
  have hv2:(2*((0:Int)+(i:Int))+1-fl) / 2=(i:Int):=by omega
  generalize 2*((0:Int)+(i:Int))+1-fl=v2 at hv2
  obtain ⟨_,n2,KN⟩:=keys_next (v:=v1) (u:=v2) po KL ej hv1 hv2
  rw [put_kvI n2]
  generalize (L++[(2*(j:Int),v1)])++[(2*(j:Int)+1,v2)]=LN at KN
  have s5':=s4.up hD (.dK (kvI LN))
  have hD5:(upd H4 D (.dK (kvI LN))) D=some (.dK (kvI LN)):=upd_same
  have hM5:=upd_other (o:=.dK (kvI LN)) hD4 hM4 (fun z=>by cases z)
  have hp5:=upd_other (o:=.dK (kvI LN)) hD4 hp4 (fun z=>by cases z)
  have hR5:=ropes_upd' (o:=.dK (kvI LN)) hD4 (fun ys z=>by cases z) hR4
  have he5:FrR (upd H4 D (.dK (kvI LN))) e r.2.2:=upd_other hD4 he4 (fun z=>by cases z)
  generalize upd H4 D (.dK (kvI LN))=H5' at s5' hD5 hM5 hp5 hR5 he5
  clear s4 hD4 hM4 hp4 hR4 he4
  obtain ⟨f1',f2'⟩:=at_flip x1 x2 f01
  refine ⟨_,rfl,.inl ⟨rfl,_,SqL.of hM5⟩,_,rfl,_,rfl,pr,_,_,_,rfl,rfl,SqL.of hp5,f1',_,rfl,_,rfl,_,_,rfl,rfl,pr,_,_,_,rfl,rfl,SqL.of hp5,f2',_,rfl,by show 3≤sizeLine; decide,fun np hnp=>?_⟩
  have s7:=same_new hnp (.tup [.int ((if fl=0 then x1 else x2:Nat):Int),.int ((if fl=0 then x2 else x1:Nat):Int),.ref e])
  have rp:RopeR (upd H5' np (.tup [.int ((if fl=0 then x1 else x2:Nat):Int),.int ((if fl=0 then x2 else x1:Nat):Int),.ref e])) np ((if fl=0 then x1 else x2:Nat),(if fl=0 then x2 else x1:Nat),r.2.2):=⟨e,upd_same,mo_fr s7 he5⟩
  have s57:=s5'.trans s7
  have hD7:=s7 _ _ hD5
  have hM7:=s7 _ _ hM5
  have hR7:=hR5.keep mo_rope s7
  generalize upd H5' np (.tup [.int ((if fl=0 then x1 else x2:Nat):Int),.int ((if fl=0 then x2 else x1:Nat):Int),.ref e])=H7 at s7 rp s57 hD7 hM7 hR7
  refine ⟨Mk,ds.map V.ref,.ref np,rfl,rfl,hM7,by rw [List.length_map,hR7.1,lr]; exact szl (by omega),?_⟩
  refine ⟨cn,_,_,_,_,_,_,LN,ds++[np],rows++[((if fl=0 then x1 else x2:Nat),(if fl=0 then x2 else x1:Nat),r.2.2)],rfl,s57.up fM _,by rw [upd_ne nDM]; exact hD7,KN,by rw [upd_same,List.map_append]; rfl,ropes_upd' hM7 (fun ys z=>by cases z) (hR7.snoc rp),by rw [len_snoc,lr],fun k r' hk=>?_⟩
  rcases snoc_at hk with hk | ⟨ek,er⟩
  ·exact made k r' hk
  ·rw [ek,lr,er]
   refine ⟨j,r,ej,hrj,?_⟩
   subst hx1 hx2
   exact ren_flip ps r fl
 rintro σ H9 ⟨cc,u8,u9,u10,u11,u12,u13,L,ds,rows,rfl,s9,hD9,KL,hM9,hR9,lr,made⟩
 subst hUL1
 refine ⟨by show 0≤sizeLine; decide,fun Rw hRw=>?_⟩
 have sR:=same_new hRw (.lst [])
 have eR:(upd H9 Rw (.lst [])) Rw=some (.lst []):=upd_same
 generalize upd H9 Rw (.lst [])=H10 at sR eR
 have eP9:=s9 _ _ eP
 try dsimp only
 try refine name_goH ?_
 first | refine seq_hide fun UL2 hUL2=>?_ | refine nx_hide fun UL2 hUL2=>?_
 refine ⟨_,rfl,Pl,rfl,⟨_,SqL.of (sR _ _ eP9)⟩,?_⟩
 refine for_list (xs:=ps.map V.int) (fun i σ H2=>Same H9 H2∧(∃ cc u15 u16 u17,σ=[some (.ref R),some (.ref T),some (.int cc),some (.int (rs.length:Int)),some (.ref L1),some (.ref Pl),some (.ref D),some (.ref Mk),u8,u9,u10,u11,u12,u13,some (.ref Rw),u15,u16,u17])∧∃ (gs:List Addr) (rows2:List (List Int)),H2 Rw=some (.lst (gs.map V.ref))∧At IntsT H2 gs rows2∧rows2.length=i∧∀ (p:Nat) (row:List Int),rows2[p]?=some row->∃ (j:Nat) (t:List Int),ps[p]?=some (j:Int)∧ts[j]?=some t∧RowOf L t row)
  ⟨sR,⟨cc,none,none,none,rfl⟩,[],[],eR,At.nil,rfl,fun p row h=>by cases h⟩ (fun i σ H2 _ ⟨s2,_⟩=>SqL.of (s2 _ _ eP9)) ?_ ?_
 ·rintro i x σ H2 hx ⟨s2,⟨cc,u15,u16,u17,rfl⟩,gs,rows2,hY,hG,ly,rw2⟩
  rw [List.getElem?_map] at hx
  obtain ⟨y,hy,rfl⟩:=Option.map_eq_some_iff.mp hx
  have hi:i<ts.length:=by have:=(List.getElem?_eq_some_iff.mp hy).1; rwa [ps_len pl] at this
  obtain ⟨j,hj,ej⟩:=ps_at pl hi
  rw [hy] at ej
  obtain rfl:y=(j:Int):=Option.some.inj ej
  have htj:ts[j]?=some ts[j]:=List.getElem?_eq_getElem hj
  generalize ts[j]=t at htj
  have tm:=List.mem_of_getElem? htj
  have tl:=gi.lens t tm
  have tp:0<t.length:=List.length_pos_iff.mpr (gi.ne t tm)
  have Mz:=M.keep (s5.trans (s9.trans s2))
  obtain ⟨b,hb,hB⟩:=Mz.tm.rows.get htj
  refine ⟨_,rfl,_,rfl,T,_,_,_,rfl,rfl,SqL.of Mz.tm.h1,atI_nat (ref_at hb),b,rfl,⟨_,SqL.of hB⟩,fun acc hacc=>?_⟩
  refine comp_run (run_list hB) (by rw [List.length_map]; omega) hacc (fun j ys σ hp=>(∃ zs:List Int,ys=zs.map V.int∧zs.length=j∧∀ (k:Nat) (e:Int),k<j->t[k]?=some e->∃ v∈zs,lk L e=some v)∧∃ u,σ=[u,some (.ref D)]) ⟨⟨[],rfl,rfl,fun k e hk=>absurd hk (Nat.not_lt_zero _)⟩,none,rfl⟩ ?_ ?_
  ·rintro k ys2 σ H3 x H4 hk sm hacc2 ⟨⟨zs,rfl,lz,hzs⟩,u,rfl⟩ ⟨rfl,hx⟩ Cc hC
   rw [List.getElem?_map] at hx
   obtain ⟨e,he,rfl⟩:=Option.map_eq_some_iff.mp hx
   have em:=List.mem_of_getElem? he
   obtain ⟨v,hv⟩:=keys_all po KL (lo t tm e em) (gi.less j e ⟨t,htj,em⟩)
   refine ⟨_,rfl,_,rfl,D,_,rfl,get_kvI (sm _ _ (s2 _ _ hD9)) hv,hC _ _ _ (Same.refl _) ⟨⟨zs++[v],by simp,by simp [lz],fun k' e' hk' he'=>?_⟩,_,rfl⟩⟩
   rcases Nat.lt_or_ge k' k with z | z
   ·obtain ⟨w,hw,e1⟩:=hzs k' e' z he'
    exact ⟨w,by simp [hw],e1⟩
   ·obtain rfl:k'=k:=by omega
    rw [he] at he'
    cases he'
    exact ⟨v,by simp,hv⟩
  rintro ys2 σ H3 s3 ha3 hl3 ⟨⟨zs,rfl,lz,hzs⟩,u,rfl⟩
  rw [List.length_map] at lz hzs
  have ly2:(((zs.map V.int).length:Nat):Int)=(t.length:Int):=by rw [List.length_map,lz]
  have ly3:(zs.map V.int).length=t.length:=by rw [List.length_map,lz]
  refine ⟨_,rfl,_,rfl,acc,_,rfl,.inl (SqL.of ha3),_,_,rfl,rfl,by rw [ly2]; omega,?_⟩
  refine ⟨_,rfl,_,rfl,acc,_,rfl,.inl (SqL.of ha3),_,_,rfl,rfl,⟨by rw [ly2]; omega,by rw [ly2]; show (t.length:Int)<1073741824; omega⟩,?_⟩
  (try dsimp only)
  rw [ly2]
  have tp':(0:Int)<(t.length:Int):=by omega
  have d0:=Int.emod_nonneg cc (Int.ne_of_gt tp')
  have d1:=Int.emod_lt_of_pos cc tp'
  obtain ⟨k,hk⟩:∃ k:Nat,cc % (t.length:Int)=(k:Int):=⟨(cc % (t.length:Int)).toNat,by omega⟩
  rw [hk] at d1 ⊢
  have jl:k≤(zs.map V.int).length:=by rw [ly3]; omega
  have hY3:=s3 _ _ hY
  refine ⟨_,rfl,.inl ⟨rfl,_,SqL.of hY3⟩,_,rfl,_,rfl,_,rfl,acc,_,rfl,SqL.of ha3,fun p1 hp1=>?_⟩
  rw [cut_drop _ jl,←List.map_drop]
  have s5a:=same_new hp1 (.lst ((zs.drop k).map V.int))
  have e5:(upd H3 p1 (.lst ((zs.drop k).map V.int))) p1=some (.lst ((zs.drop k).map V.int)):=upd_same
  generalize upd H3 p1 (.lst ((zs.drop k).map V.int))=H5a at s5a e5
  refine ⟨_,rfl,_,rfl,_,rfl,acc,_,rfl,SqL.of (s5a _ _ ha3),fun p2 hp2=>?_⟩
  rw [cut_take _ jl,←List.map_take]
  have s6a:=same_new hp2 (.lst ((zs.take k).map V.int))
  have e6:(upd H5a p2 (.lst ((zs.take k).map V.int))) p2=some (.lst ((zs.take k).map V.int)):=upd_same
  generalize upd H5a p2 (.lst ((zs.take k).map V.int))=H6a at s6a e6
  refine ⟨p1,p2,_,_,rfl,rfl,s6a _ _ e5,e6,by rw [List.length_map,List.length_map,List.length_drop,List.length_take]; exact szle (by omega),fun p3 hp3=>?_⟩
  rw [←List.map_append]
  have ru:RowOf L t (zs.drop k++zs.take k):=⟨by rw [List.length_append,List.length_drop,List.length_take]; omega,fun x hx=>by
   obtain ⟨k',hk',e'⟩:=List.getElem_of_mem hx
   obtain ⟨v,hv,e1⟩:=hzs k' x (by omega) (by rw [List.getElem?_eq_getElem hk',e'])
   refine ⟨v,?_,e1⟩
   rw [←List.take_append_drop k zs,List.mem_append] at hv
   exact List.mem_append.mpr hv.symm⟩
  generalize zs.drop k++zs.take k=un at ru
  have s7a:=same_new hp3 (.lst (un.map V.int))
  have e7:(upd H6a p3 (.lst (un.map V.int))) p3=some (.lst (un.map V.int)):=upd_same
  generalize upd H6a p3 (.lst (un.map V.int))=H7a at s7a e7
  refine ⟨p3,_,rfl,.inl ⟨SqL.of e7,fun p4 hp4=>?_⟩⟩
  have s8a:=same_new hp4 (.tup (un.map V.int))
  have s38:=s3.trans (s5a.trans (s6a.trans (s7a.trans s8a)))
  have g8:IntsT (upd H7a p4 (.tup (un.map V.int))) p4 un:=upd_same
  generalize upd H7a p4 (.tup (un.map V.int))=H8a at s8a s38 g8
  have lg:gs.length=i:=by rw [hG.1,ly]
  refine ⟨Rw,gs.map V.ref,.ref p4,rfl,rfl,s38 _ _ hY,by rw [List.length_map,lg]; exact szl (by omega),?_⟩
  have hG8:=(hG.keep mo_intsT s38).snoc g8
  refine ⟨(s2.trans s38).up hRw _,⟨_,_,_,_,rfl⟩,gs++[p4],rows2++[un],by rw [upd_same,List.map_append]; rfl,⟨hG8.1,fun a b y e1 e2=>?_⟩,by rw [List.length_append,ly]; rfl,fun p row hrow=>?_⟩
  ·have z:=hG8.2 a b y e1 e2
   unfold IntsT at z ⊢
   rw [upd_ne (fun w=>by rw [w,s38 _ _ hY] at z; cases z)]
   exact z
  ·rcases Nat.lt_or_ge p rows2.length with z | z
   ·rw [List.getElem?_append_left z] at hrow
    exact rw2 p row hrow
   ·have hl:=(List.getElem?_eq_some_iff.mp hrow).1
    rw [List.length_append,List.length_singleton] at hl
    obtain rfl:p=rows2.length:=by omega
    rw [List.getElem?_concat_length] at hrow
    cases hrow
    exact ⟨j,t,by rw [ly]; exact hy,htj,ru⟩
 rintro σ Hz ⟨sz,⟨cc,u15,u16,u17,rfl⟩,gs,rows2,hY,hG,ly,rw2⟩
 subst hUL2
 rw [List.length_map,ps_len pl] at ly
 refine ⟨_,rfl,Rw,_,rfl,.inl (SqL.of hY),_,rfl,Mk,_,rfl,.inl ⟨SqL.of (sz _ _ hM9),fun p1 hp1=>?_⟩⟩
 have s7:=same_new hp1 (.tup (ds.map V.ref))
 have e7:TupR RopeR (upd Hz p1 (.tup (ds.map V.ref))) p1 rows:=⟨ds,upd_same,hR9.keep mo_rope (sz.trans s7)⟩
 generalize upd Hz p1 (.tup (ds.map V.ref))=H7 at s7 e7
 refine ⟨_,rfl,Rw,_,rfl,.inl ⟨SqL.of (s7 _ _ hY),fun p2 hp2=>?_⟩⟩
 have s8:=same_new hp2 (.tup (gs.map V.ref))
 have e8:TupR IntsT (upd H7 p2 (.tup (gs.map V.ref))) p2 rows2:=⟨gs,upd_same,hG.keep mo_intsT (s7.trans s8)⟩
 generalize upd H7 p2 (.tup (gs.map V.ref))=H8 at s8 e8
 refine ⟨by show 3≤sizeLine; decide,fun p hp=>?_⟩
 have s9':=same_new hp (.tup [.int (((gs.map V.ref).length:Nat):Int),.ref p1,.ref p2])
 refine q p rows rows2 _ (s5.trans (s9.trans (sz.trans (s7.trans (s8.trans s9'))))) ⟨p1,p2,?_,mo_tup (R:=RopeR) (fun s h=>mo_rope s h) (s8.trans s9') e7,mo_tup (R:=IntsT) (fun s h=>mo_intsT s h) s9' e8⟩ (ren_netE (gi_netE gi) po pl p0 lr made) (trn_of (n:=ts.length) gi h14 pl KL (ps_len po) made ly rw2)
 rw [upd_same,List.length_map,hG.1,ly]
end
end My
namespace My
open PySem L2 Mth Wd
section
variable {P:Program} {w:World} {K:PySem.W.Frag} {mg:Str->Option Value} {base:Heap} {f g h f1 f2 f3 f4:Addr} {fd gd hd d1 d2 d3 d4:FuncData}
inductive SpNetR (vs:List V) (H:Hp) (Q:VK):Prop
 | mk (a:Addr) (zs:List Int) (z c:Int) (h_0:vs=[.ref a,.int z,.int c]) (h_1:H a=some (.lst (zs.map V.int))) (h_2:zs.length≤13) (h_3:∀ p H' n rs ts,Same H H'->NetT H' p n rs ts->NetE n (zs.length+1) rs->Trn n rs ts->Q (.ref p) H'):SpNetR vs H Q
def spNet:Sp:=fun vs H Q _=>SpNetR vs H Q
theorem scNt:FnScope ["_law_cells","_law_first","_law_names","_law_ropes","_law_turns","_law_cell_here"] ["_law_cells","_law_first","_law_names"] (defScope sNet):=⟨rfl,rfl,rfl,by decide +kernel,rfl,by decide +kernel,by decide +kernel⟩
set_option maxHeartbeats 4000000 in
seal L2.PSs L2.PS L2.PE L2.PA in
theorem ok_net (F:Fun K "_law_net" "_law_net" sNet f fd) (G1:FnOk P w K mg base CX0 2 f1 d1 ["_law_cell_here"] spEase) (b1:Binds K d1 ["_law_cell_here"] []) (k1:PySem.W.keepIn K (.ref f1)=true) (m1:mg "_law_ease" = some (.ref f1))
  (G2:FnOk P w K mg base CX0 3 f2 d2 ["_law_ropes","_law_turns","_law_cell_here"] spGrow) (b2:Binds K d2 ["_law_ropes","_law_turns","_law_cell_here"] []) (k2:PySem.W.keepIn K (.ref f2)=true) (m2:mg "_law_grow" = some (.ref f2))
  (G3:FnOk P w K mg base CX0 2 f3 d3 ["_law_ropes","_law_turns","_law_cell_here"] spNamed) (b3:Binds K d3 ["_law_ropes","_law_turns","_law_cell_here"] []) (k3:PySem.W.keepIn K (.ref f3)=true) (m3:mg "_law_named" = some (.ref f3)) :
  FnOk P w K mg base CX0 4 f fd ["_law_cells","_law_first","_law_names"] spNet:=by
 refine F.ok scNt (fun vs H Q E h=>?_) (fun cdv A outer s H vs Q E hr h=>?_)
 ·obtain ⟨a,zs,z,c,rfl,_⟩:=h
  rfl
 obtain ⟨a,zs,z,c,rfl,ha,hz,q⟩:=h
 have hr2:=hr.mono (show 2≤3 by decide)
 refine ⟨_,pss_cons (ps_set (i:=3) scNt.nd rfl (Or.inl rfl) (pe_lst (pa_cons (pe_tup (pa_cons pe_int (pa_cons pe_int (pa_cons (pe_call G1 hr2 (by rfl) m1 k1 b1 .nil pass0 (pa_cons (pv 1) pa_nil)) pa_nil)))) pa_nil)))
  (pss_cons (ps_set (i:=4) scNt.nd rfl (Or.inl rfl) (pe_lst (pa_cons (pe_lst (pa_cons pe_int (pa_cons (pe_un un_neg pe_int) pa_nil))) (pa_cons (pe_lst (pa_cons pe_int (pa_cons (pe_un un_neg pe_int) pa_nil))) pa_nil))))
  (pss_cons (ps_for PassesOwn.never rfl (pi_list (pv 0)) (pg_name (i:=5) scNt.nd rfl (Or.inl rfl))
   (pss_one (ps_expr (pe_call G2 hr (by rfl) m2 k2 b2 .nil pass0 (pa_cons (pv 3) (pa_cons (pv 4) (pa_cons (pv 5) pa_nil)))))))
  (pss_one (ps_ret (pe_call G3 hr2 (by rfl) m3 k3 b3 .nil pass0 (pa_cons (pv 3) (pa_cons (pv 4) (pa_cons (pv 2) pa_nil)))))))),?_⟩
 refine ⟨_,rfl,_,rfl,fun e he h0 ea hea=>⟨by show 3≤sizeLine; decide,fun p1 hp1=>⟨by show 1≤sizeLine; decide,fun R hR=>?_⟩⟩⟩
 have t1:=same_new hea (.tup [.int e.num,.int e.den])
 have e1:FrR (upd H ea (.tup [.int e.num,.int e.den])) ea e:=upd_same
 generalize upd H ea (.tup [.int e.num,.int e.den])=H1 at t1 e1 hp1 hR
 have t2:=same_new hp1 (.tup [.int 0,.int 1,.ref ea])
 have e2:RopeR (upd H1 p1 (.tup [.int 0,.int 1,.ref ea])) p1 (0,1,e):=⟨ea,upd_same,t2 _ _ e1⟩
 generalize upd H1 p1 (.tup [.int 0,.int 1,.ref ea])=H2 at t2 e2 hR
 have t3:=same_new hR (.lst [.ref p1])
 have e3:(upd H2 R (.lst [.ref p1])) R=some (.lst [.ref p1]):=upd_same
 have e2':=mo_rope t3 e2
 have nR:H R=none:=(t1.trans t2).free hR
 have s3:=(t1.trans t2).trans t3
 generalize upd H2 R (.lst [.ref p1])=H3 at t3 e3 e2' s3
 refine ⟨_,rfl,by show 2≤sizeLine; decide,fun c0 hc0=>⟨_,rfl,by show 2≤sizeLine; decide,fun c1 hc1=>⟨by show 2≤sizeLine; decide,fun T hT=>?_⟩⟩⟩
 dsimp only at hc0 hc1 hT ⊢
 have u1:=same_new hc0 (.lst [.int 0,.int (-2)])
 have g1:IntsL (upd H3 c0 (.lst [.int 0,.int (-2)])) c0 [0,-2]:=upd_same
 generalize upd H3 c0 (.lst [.int 0,.int (-2)])=H4 at u1 g1 hc1 hT
 have u2:=same_new hc1 (.lst [.int 1,.int (-1)])
 have g2:IntsL (upd H4 c1 (.lst [.int 1,.int (-1)])) c1 [1,-1]:=upd_same
 generalize upd H4 c1 (.lst [.int 1,.int (-1)])=H5 at u2 g2 hT
 have u3:=same_new hT (.lst [.ref c0,.ref c1])
 have g3:(upd H5 T (.lst [.ref c0,.ref c1])) T=some (.lst [.ref c0,.ref c1]):=upd_same
 generalize upd H5 T (.lst [.ref c0,.ref c1])=H6 at u3 g3
 have s4:=s3.trans u1
 have s5:=s4.trans u2
 have s6:=s5.trans u3
 have nc0:H c0=none:=s3.free hc0
 have nc1:H c1=none:=s4.free hc1
 have nT:H T=none:=s5.free hT
 have M0:NetM H6 R T [p1] [c0,c1] [[0,-2],[1,-1]] [(0,1,e)]:=by
  have k1:R≠c0:=fun z=>by rw [←z,e3] at hc0; cases hc0
  have k2:R≠c1:=fun z=>by rw [←z,u1 _ _ e3] at hc1; cases hc1
  have k3:R≠T:=fun z=>by rw [←z,u2 _ _ (u1 _ _ e3)] at hT; cases hT
  have k4:c0≠c1:=fun z=>by rw [←z,show H4 c0=_ from g1] at hc1; cases hc1
  have k5:c0≠T:=fun z=>by rw [←z,u2 _ _ g1] at hT; cases hT
  have k6:c1≠T:=fun z=>by rw [←z,show H5 c1=_ from g2] at hT; cases hT
  refine ⟨⟨g3,At.snoc (bs:=[c0]) (xs:=[[0,-2]]) (At.snoc (bs:=[]) (xs:=[]) At.nil ?_) ?_,?_⟩,((u1.trans u2).trans u3) _ _ e3,At.snoc (bs:=[]) (xs:=[]) At.nil (mo_rope ((u1.trans u2).trans u3) e2'),?_⟩
  ·exact mo_ints (u2.trans u3) g1
  ·exact mo_ints u3 g2
  ·simp only [List.nodup_cons,List.mem_cons,List.not_mem_nil,or_false,not_or,List.nodup_nil,and_true,not_false_eq_true]
   exact ⟨⟨fun z=>k5 z.symm,fun z=>k6 z.symm⟩,k4⟩
  ·simp only [List.mem_cons,List.not_mem_nil,or_false,not_or]
   exact ⟨k3,k1,k2⟩
 have ha6:=s6 _ _ ha
 refine ⟨_,rfl,a,rfl,⟨_,SqL.of ha6⟩,?_⟩
 refine for_list (xs:=zs.map V.int) (fun i σ H2=>Same H H2∧∃ cs bs ts rs u,σ=[some (.ref a),some (.int z),some (.int c),some (.ref R),some (.ref T),u]∧NetM H2 R T cs bs ts rs∧Gi ts rs∧(∀ t∈ts,Lo t)∧rs.length=i+1∧∀ x∈bs,H x=none)
  ⟨s6,_,_,_,_,none,rfl,M0,Gi.first he h0,(fun t ht x hx=>by
   simp only [List.mem_cons,List.not_mem_nil,or_false] at ht
   rcases ht with rfl | rfl <;> (simp only [List.mem_cons,List.not_mem_nil,or_false] at hx; omega)),rfl,fun x hx=>by
   simp only [List.mem_cons,List.not_mem_nil,or_false] at hx
   rcases hx with rfl | rfl
   ·exact nc0
   ·exact nc1⟩ (fun i σ H2 _ ⟨s,_⟩=>SqL.of (s _ _ ha)) ?_ ?_
 ·rintro i x σ H2 hx ⟨s2,cs,bs,ts,rs,u,rfl,M,gi,lo,hl,nb⟩
  rw [List.getElem?_map] at hx
  obtain ⟨y,hy,rfl⟩:=Option.map_eq_some_iff.mp hx
  have hi:i<zs.length:=(List.getElem?_eq_some_iff.mp hy).1
  exact ⟨_,rfl,_,rfl,_,rfl,R,T,cs,bs,ts,rs,y,H,rfl,M,gi,lo,by omega,by omega,s2,nR,nT,nb,fun H' cs' bs' ts' rs' sH M' gi' lo' hl' nb'=>⟨sH,cs',bs',ts',rs',_,rfl,M',gi',lo',by omega,nb'⟩⟩
 rintro σ H7 ⟨s7,cs,bs,ts,rs,u,rfl,M7,gi,lo,hl,nb⟩
 rw [List.length_map] at hl
 exact ⟨_,rfl,_,rfl,_,rfl,R,T,cs,bs,ts,rs,c,rfl,M7,gi,lo,by omega,fun p rs' ts' H' s' hN hE hT=>q p H' ts.length rs' ts' (s7.trans s') hN (hl ▸ hE) hT⟩
inductive SpSomeR (K:PySem.W.Frag) (vs:List V) (H:Hp) (Q:VK):Prop
 | mk (a b:Addr) (ns ms:List Int) (M at_:Nat) (h_0:vs=[.ref a,.int (at_:Int),.ref b]) (h_1:at_≤1000) (h_2:ScA K H a ns) (h_3:H b=some (.lst (ms.map V.int))) (h_4:0<ms.length) (h_5:ms.length≤100) (h_6:M≤14) (h_7:(∀ m∈ms,0≤m∧m+1≤(M:Int))) (h_8:∀ p H' n m rs ts,Same H H'->NetT H' p n rs ts->NetE n m rs->Trn n rs ts->m≤M->Q (.ref p) H'):SpSomeR K vs H Q
def spSome (K:PySem.W.Frag):Sp:=fun vs H Q _=>SpSomeR K vs H Q
theorem scSn:FnScope ["_law_script","_law_at","_law_sizes","_law_many","_law_cells"] ["_law_script","_law_at","_law_sizes"] (defScope sSomeNet):=⟨rfl,rfl,rfl,by decide +kernel,rfl,by decide +kernel,by decide +kernel⟩
theorem ndKS:(["_law_k","_law_script"]:List Str).Nodup:=by decide +kernel
set_option maxHeartbeats 4000000 in
seal L2.PSs L2.PS L2.PE L2.PA in
theorem ok_some (F:Fun K "_law_some_net" "_law_some_net" sSomeNet f fd) (G1:FnOk P w K mg base CX0 1 f1 d1 ["_law_script","_law_k"] (spCell K)) (b1:Binds K d1 ["_law_script","_law_k"] []) (k1:PySem.W.keepIn K (.ref f1)=true) (m1:mg "_law_cell" = some (.ref f1))
  (G2:FnOk P w K mg base CX0 4 f2 d2 ["_law_cells","_law_first","_law_names"] spNet) (b2:Binds K d2 ["_law_cells","_law_first","_law_names"] []) (k2:PySem.W.keepIn K (.ref f2)=true) (m2:mg "_law_net" = some (.ref f2)) (ml:mg "len" = none) (mn:mg "min" = none) (mr:mg "range" = none) :
  FnOk P w K mg base CX0 5 f fd ["_law_script","_law_at","_law_sizes"] (spSome K):=by
 refine F.ok scSn (fun vs H Q E h=>?_) (fun cdv A outer s H vs Q E hr h=>?_)
 ·obtain ⟨a,b,ns,ms,M,at_,rfl,_⟩:=h
  rfl
 obtain ⟨a,b,ns,ms,M,at_,rfl,ha1,hS,hb,l0,l1,hM,hm,q⟩:=h
 have hr1:=hr.mono (show 1≤4 by decide)
 refine ⟨_,pss_cons (ps_set (i:=3) scSn.nd rfl (Or.inl rfl) (pe_ix ix_list (pv 2) (pe_op op_mod (pe_call G1 hr1 (by rfl) m1 k1 b1 .nil pass0 (pa_cons (pv 0) (pa_cons (pv 1) pa_nil))) (pe_callB call_len_seq (by rfl) ml bt_len (pa_cons (pv 2) pa_nil))) (fun _ _=>rfl)))
  (pss_cons (ps_setComp (i:=4) scSn.nd rfl (Or.inl rfl) (Nc:=["_law_k","_law_script"]) (cap:=[(1,0)]) (g:=gName 0) (te:=tCall (spCell K) [] E0 (tCons (tVar 1) (tCons (tVar 0) tNil))) rfl
    (pi_range2 (by rfl) mr (pa_cons (pe_op op_add (pv 1) pe_int) (pa_cons (pe_callB (call_min2 rfl) (by rfl) mn bt_min (pa_cons (pe_callB call_len_seq (by rfl) ml bt_len (pa_cons (pv 0) pa_nil)) (pa_cons (pe_op op_add (pe_op op_add (pv 1) pe_int) (pv 3)) pa_nil))) pa_nil)))
    (comp_mk rfl rfl (by decide +kernel) (by decide +kernel) (List.forall_mem_cons.mpr ⟨⟨rfl,rfl⟩,List.forall_mem_nil _⟩) rfl (List.forall_mem_cons.mpr ⟨⟨_,_,rfl,rfl,rfl,rfl,rfl⟩,List.forall_mem_nil _⟩))
    (fun C fp pins s' H'=>pg_name (i:=0) ndKS rfl (Or.inl rfl)) (fun C fp pins s' H'=>pe_call G1 hr1 (by rfl) m1 k1 b1 .nil pass0 (pa_cons (pv 1) (pa_cons (pv 0) pa_nil))))
  (pss_one (ps_ret (pe_call G2 hr (by rfl) m2 k2 b2 .nil pass0 (pa_cons (pv 4) (pa_cons (pe_call G1 hr1 (by rfl) m1 k1 b1 .nil pass0 (pa_cons (pv 0) (pa_cons (pe_op op_add (pv 1) pe_int) pa_nil))) (pa_cons (pe_call G1 hr1 (by rfl) m1 k1 b1 .nil pass0 (pa_cons (pv 0) (pa_cons (pe_op op_add (pv 1) pe_int) pa_nil))) pa_nil))))))),?_⟩
 have lpos:(0:Int)<((ms.map V.int).length:Int):=by rw [List.length_map]; omega
 refine ⟨_,rfl,_,rfl,_,rfl,a,ns,_,rfl,hS,by omega,by omega,fun z1=>⟨_,rfl,b,_,rfl,.inl (SqL.of hb),_,_,rfl,rfl,lpos,?_⟩⟩
 obtain ⟨m,hmm,hat⟩:∃ m,m∈ms∧atI (ms.map V.int) (z1 % ((ms.map V.int).length:Int))=some (.int m):=by
  have y0:=Int.emod_nonneg z1 (show ((ms.map V.int).length:Int)≠0 by omega)
  have y1:=Int.emod_lt_of_pos z1 lpos
  obtain ⟨y,hy⟩:=Int.eq_ofNat_of_zero_le y0
  rw [hy]
  rw [hy,List.length_map] at y1
  refine ⟨ms[y]'(by omega),List.getElem_mem _,atI_nat ?_⟩
  rw [List.getElem?_map,List.getElem?_eq_getElem (by omega)]; rfl
 obtain ⟨mm0,mm1⟩:=hm m hmm
 refine ⟨b,_,_,_,rfl,rfl,SqL.of hb,hat,?_⟩
 refine ⟨_,rfl,_,_,rfl,rfl,_,rfl,a,_,rfl,.inl hS.1,_,rfl,_,_,rfl,rfl,_,rfl,_,_,rfl,rfl,_,_,rfl,?_⟩
 have hns:((ns.map V.int).length:Int)≤63:=by rw [List.length_map]; have:=hS.2; omega
 obtain ⟨L,eL,L0,L1⟩:∃ L:Int,L=(if ((at_:Int)+3+m)<((ns.map V.int).length:Int) then ((at_:Int)+3+m) else ((ns.map V.int).length:Int))∧0≤L∧L≤(at_:Int)+3+m:=⟨_,rfl,by split <;> omega,by split <;> omega⟩
 refine ⟨_,_,rfl,⟨by omega,by omega,by rw [←eL]; omega,by rw [←eL]; omega⟩,?_⟩
 rw [←eL]
 refine fun acc hacc=>?_
 refine comp_run run_range (by omega) hacc (fun i ys σ _=>∃ zs:List Int,ys=zs.map V.int∧zs.length=i∧∃ u,σ=[u,some (.ref a)]) ⟨[],rfl,rfl,none,rfl⟩ ?_ ?_
 ·rintro i ys σ H2 x H3 hi sm hacc2 ⟨zs,rfl,lz,u,rfl⟩ ⟨rfl,rfl⟩ Cc hC
  exact ⟨_,rfl,_,rfl,a,ns,_,rfl,⟨sm.seq hS.1,hS.2⟩,by omega,by omega,fun z=>hC _ _ _ (Same.refl _) ⟨zs++[z],by simp,by simp [lz],_,rfl⟩⟩
 rintro ys σ H2 s2 hc hl ⟨zs,rfl,lz,u,rfl⟩
 refine ⟨_,rfl,_,rfl,_,rfl,_,_,rfl,rfl,a,ns,_,rfl,⟨s2.seq hS.1,hS.2⟩,by omega,by omega,fun z2=>⟨_,rfl,_,rfl,_,_,rfl,rfl,a,ns,_,rfl,⟨s2.seq hS.1,hS.2⟩,by omega,by omega,fun z3=>?_⟩⟩
 exact ⟨acc,zs,_,_,rfl,hc,by omega,fun p H' n rs ts s5 w1 w2 w3=>q p H' n _ rs ts (s2.trans s5) w1 w2 w3 (by omega)⟩
end
end My
namespace My
open PySem L2 Mth Wd
structure HB (n m α β:Nat):Prop where
 n13:n≤13
 m16:m≤16
 bd:(8+β*m+α)*n+β*m+α+20≤3900
structure NetK (n m α β:Nat) (rs:List Rope):Prop where
 hb:HB n m α β
 len:rs.length≤m
 ends:∀ r∈rs,r.1<n+2∧r.2.1<n+2∧Sb α β r.2.2
 pos:∀ r∈rs,0<r.2.2
 hang:Hang (n+2) rs
theorem NetK.two {n m α β:Nat} {rs:List Rope} (k:NetK n m α β rs):∀ r∈rs,r.1<n+2∧r.2.1<n+2:=fun r hr=>⟨(k.ends r hr).1,(k.ends r hr).2.1⟩
theorem NetK.den {n m α β:Nat} {rs:List Rope} (k:NetK n m α β rs):denP rs≤2 ^ (β*m) :=
 Nat.le_trans (denP_le fun r hr=>(k.ends r hr).2.2.2) (Nat.pow_le_pow_right (by decide) (Nat.mul_le_mul_left _ k.len))
def joinL (n:Nat) (rs:List Rope):List (List Rat):=joinT (cutT (lapT (n+2) rs)) (rightT (lapT (n+2) rs))
theorem NetK.row {n m α β:Nat} {rs:List Rope} (k:NetK n m α β rs) {y:List Rat} (hy:y∈joinL n rs):y.length=n+1∧∀ q∈y,IsI ((denP rs:Nat)*q)∧Vb (α+4) q:=by
 have sq:=(lapT_sq k.two).1
 obtain ⟨i,hi,e⟩:=List.getElem_of_mem hy
 have hi':i<n:=by
  have:i<(joinL n rs).length:=hi
  unfold joinL joinT at this
  rw [List.length_zipWith,(cut_len sq).1] at this
  omega
 have e2:(joinL n rs)[i]?=some ((((lapT (n+2) rs).getD (i+2) []).drop 2)++[0-en (lapT (n+2) rs) (i+2) 0]):=by
  unfold joinL joinT
  rw [List.getElem?_zipWith,cut_row sq hi',right_get sq hi']
 rw [List.getElem?_eq_getElem hi,e] at e2
 cases e2
 have rl:=(sq.row (i:=i+2) (by omega)).1
 have m16:rs.length≤16:=Nat.le_trans k.len k.hb.m16
 refine ⟨by rw [List.length_append,List.length_drop,rl]; simp,fun q hq=>?_⟩
 rcases List.mem_append.mp hq with h | h
 ·have h:=List.mem_of_mem_drop h
  obtain ⟨j,hj,ej⟩:=List.getElem_of_mem h
  have:q=en (lapT (n+2) rs) (i+2) j:=by unfold en; rw [List.getD_eq_getElem?_getD (l:=(lapT (n+2) rs).getD (i+2) []),List.getElem?_eq_getElem hj,ej]; rfl
  rw [this]
  exact lap_bd k.ends m16 _ _
 ·rw [List.mem_singleton] at h
  rw [h]
  obtain ⟨a,b⟩:=lap_bd k.ends m16 (i+2) 0
  constructor
  ·have:=a.neg
   rwa [show -((denP rs:Nat)*en (lapT (n+2) rs) (i+2) 0)=(denP rs:Nat)*(0-en (lapT (n+2) rs) (i+2) 0) by grind] at this
  ·have:=Ab.neg b
   rwa [show -1*en (lapT (n+2) rs) (i+2) 0=0-en (lapT (n+2) rs) (i+2) 0 by grind] at this
theorem NetK.dvd {n m α β:Nat} {rs:List Rope} (k:NetK n m α β rs) {y:List Rat} (hy:y∈joinL n rs):∀ q∈y,(q.den:Int) ∣ (denP rs:Int):=fun q hq=>by
 obtain ⟨c,hc⟩:=((k.row hy).2 q hq).1
 exact den_dvd (k:=c) (by rw [ic]; exact hc)
theorem NetK.tk {n m α β:Nat} {rs:List Rope} (k:NetK n m α β rs):TK n (n+1) (β*m) (β*m+(α+4)) (β*m) (joinL n rs):=by
 have sq:=(lapT_sq k.two).1
 have hd:=k.den
 have pd:(0:Int)<(denP rs:Int):=by have:=denP_pos rs; omega
 have hcb:∀ r∈joinL n rs,(cb r).natAbs≤2 ^ (β*m):=fun r hr=>Nat.le_trans (cb_le pd (k.dvd hr)) (by rw [Int.natAbs_natCast]; exact hd)
 have hdq:∀ r∈joinL n rs,∀ q∈r,q.den≤2 ^ (β*m):=fun r hr q hq=>Nat.le_trans (Nat.le_of_dvd (denP_pos rs) (by exact_mod_cast k.dvd hr q hq)) hd
 have b:=k.hb.bd
 generalize β*m=s at *
 have e1:(8+s+α)*n=8*n+s*n+α*n:=by rw [Nat.add_mul,Nat.add_mul]
 rw [e1] at b
 have n13:=k.hb.n13
 refine ⟨?_,fun r hr=>(k.row hr).1,by omega,by omega,hdq,fun r hr q hq=>?_,hcb,fun r hr q hq=>?_,?_,by omega,?_⟩
 ·unfold joinL joinT
  rw [List.length_zipWith,(cut_len sq).1,right_len sq]; omega
 ·have h1:=wh_vb (b:=(q.den:Int)) (D:=s) (Int.dvd_refl _) ((k.row hr).2 q hq).2 (by rw [Int.natAbs_natCast]; exact hdq r hr q hq)
  have:wh (q.den:Int) q=q.num:=by
   unfold wh
   rw [Int.fdiv_self (by have:=q.den_nz; omega),Int.mul_one]
  rw [this] at h1
  exact big2 h1 (by omega)
 ·exact wh_vb ((cb_pos r).2 q hq) ((k.row hr).2 q hq).2 (hcb r hr)
 ·have:(4+(s+(α+4)))*n=8*n+s*n+α*n:=by rw [←e1]; congr 1; omega
  omega
 ·have:s*(n+1)=s*n+s:=Nat.mul_succ _ _
  omega
theorem NetK.ne {n m α β:Nat} {rs:List Rope} (k:NetK n m α β rs):dt n (n+1) (joinL n rs)≠0:=by
 have sq:=(lapT_sq k.two).1
 have c:=cut_len sq
 unfold joinL joinT
 rw [dt_join c.1 (right_len sq) c.2]
 exact cut_ne (fun r hr=>⟨(k.ends r hr).1,(k.ends r hr).2.1,k.pos r hr⟩) k.hang
structure HtX (n B:Nat) (rs:List Rope) (X:Nat->Rat):Prop where
 x0:X 0=1
 x1:X 1=0
 bal:∀ i,2≤i->i<n+2->outs X rs i=0
 wh:∃ W:Int,W≠0∧W.natAbs≤2 ^ B∧∀ j,j<n+2->∃ k:Int,(W:Rat)*X j=k∧k.natAbs≤2 ^ B
theorem NetK.htx {n m α β:Nat} {rs:List Rope} (k:NetK n m α β rs) {x:Nat->Rat} (hx:∀ y∈joinL n rs,fx n x (vq y)=0):HtX n ((8+β*m+α)*n) rs (lift2 1 0 x):=by
 have tk:=k.tk
 have n13:=k.hb.n13
 refine ⟨rfl,rfl,ht_ok k.two hx,?_⟩
 have sc:=dt_scaled (n:=n) (m:=n+1) (joinL n rs) cb (fun r hr=>(tk.hcb hr).2.1)
 have pp:prodB ((joinL n rs).map cb)≠0:=by
  have:=(prodB_ok (d:=β*m) ((joinL n rs).map cb) (fun b hb=>by
   obtain ⟨r,hr,rfl⟩:=List.mem_map.mp hb
   exact ⟨(tk.hcb hr).1,(tk.hcb hr).2.2⟩)).1
  omega
 obtain ⟨W,w0,wl,wx⟩:=ans_bd (n:=n) (E:=β*m+(α+4)) (A:=(whR (joinL n rs)).map vr) (x:=x) (by unfold whR; rw [List.length_map,List.length_map]; exact tk.len) (by omega)
  (fun a ha j=>by obtain ⟨r,_,rfl⟩:=List.mem_map.mp ha; exact IsI.of _)
  (fun a ha j=>by
   obtain ⟨r,hr,rfl⟩:=List.mem_map.mp ha
   exact nat_ab (getD_abs ((tk.hwh r hr).2) j))
  (fun a ha=>by
   obtain ⟨r,hr,rfl⟩:=List.mem_map.mp ha
   unfold whR at hr
   obtain ⟨y,hy,rfl⟩:=List.mem_map.mp hr
   rw [vr_wh (tk.hcb hy).2.1]
   have c0:((cb y:Int):Rat)≠0:=by
    have:cb y≠0:=by have:=(tk.hcb hy).1; omega
    exact_mod_cast this
   exact (fx_scale c0).mpr (hx y hy))
  (by
   unfold whR
   rw [sc]
   intro z
   rcases Rat.mul_eq_zero.mp z with h | h
   ·exact pp (by exact_mod_cast h)
   ·exact k.ne h)
 have eB:(4+(β*m+(α+4)))*n=(8+β*m+α)*n:=by congr 1; omega
 rw [eB] at wl wx
 refine ⟨W,w0,wl,fun j hj=>?_⟩
 match j,hj with
 | 0,_=>exact ⟨W,by show (W:Rat)*1=W; grind,wl⟩
 | 1,_=>exact ⟨0,by show (W:Rat)*0=0; grind,by simp⟩
 | j+2,hj=>exact wx j (by omega)
section
variable {P:Program} {w:World} {K:PySem.W.Frag} {mg:Str->Option Value} {base:Heap} {f g h C C2 f1 f2 f3 f4:Addr} {fd gd hd d1 d2 d3 d4:FuncData}
theorem sIx2 {n:Nat} (h:2≤n):HT.sIx n 0 (some 2)=2:=by simp [HT.sIx]; omega
inductive SpPoleR (vs:List V) (H:Hp) (Q:VK):Prop
 | mk (a:Addr) (T:List (List Rat)) (n:Nat) (h_0:vs=[.ref a]) (h_1:TupR (TupR FrR) H a T) (h_2:Sq (n+2) T) (h_3:n≤100) (h_4:∀ p H',Same H H'->TupR (TupR FrR) H' p (cutT T)->Q (.ref p) H'):SpPoleR vs H Q
def spPole:Sp:=fun vs H Q _=>SpPoleR vs H Q
theorem scPo:FnScope ["table"] ["table"] (defScope sPoleless):=⟨rfl,rfl,rfl,by decide +kernel,rfl,by decide +kernel,by decide +kernel⟩
theorem ok_pole (F:Fun K "poleless" "poleless" sPoleless f fd) (mt:mg "tuple" = none):FnOk P w K mg base CX0 1 f fd ["table"] spPole:=by
 refine F.ok scPo (fun vs H Q E h=>?_) (fun cdv A outer s H vs Q E hr h=>?_)
 ·obtain ⟨a,T,n,rfl,_⟩:=h
  rfl
 obtain ⟨a,T,n,rfl,⟨bs,ha,hA⟩,sq,hn,q⟩:=h
 refine ⟨_,pss_one (ps_ret (pe_callTy call_tuple_of (by rfl) mt bt_tuple (pa_cons (pe_comp (Nc:=["row"]) (cap:=[]) (g:=gName 0) (te:=tSl (rSlT K) (tVar 0) (tPart (tC (.int 2))) tNoPart) rfl (pi_tup (pe_slice sl_tup (pv 0) (po_some pe_int) po_none))
   (comp_mk rfl rfl (by decide +kernel) (by decide +kernel) (List.forall_mem_nil _) rfl (List.forall_mem_nil _)) (fun C fp pins s' H'=>pg_name (i:=0) ndRo' rfl (Or.inl rfl)) (fun C fp pins s' H'=>pe_slice sl_tup (pv 0) (po_some pe_int) po_none)) pa_nil))),?_⟩
 have lb:bs.length=n+2:=by rw [hA.1]; exact sq.len
 refine ⟨_,rfl,2,rfl,a,_,rfl,SqT.of ha,fun z=>?_,fun p0 hp0=>?_⟩
 ·have:=z.1
  rw [sIx2 (by rw [List.length_map]; omega)] at this
  cases this
 rw [show cutV (bs.map V.ref) (some 2) none=(bs.drop 2).map V.ref by rw [show (some (2:Int))=some ((2:Nat):Int) from rfl,cut_drop _ (by rw [List.length_map]; omega),List.map_drop]]
 have s0:=same_new hp0 (.tup ((bs.drop 2).map V.ref))
 have h0:(upd H p0 (.tup ((bs.drop 2).map V.ref))) p0=some (.tup ((bs.drop 2).map V.ref)):=upd_same
 generalize upd H p0 (.tup ((bs.drop 2).map V.ref))=H1 at s0 h0
 have hA1:=(hA.keep mo_tf' s0).drop 2
 refine ⟨p0,rfl,⟨_,SqT.of h0⟩,fun acc hacc=>?_⟩
 refine comp_run (run_tup h0) (by rw [List.length_map,List.length_drop]; omega) hacc (fun i ys σ hp=>∃ ds:List Addr,ys=ds.map V.ref∧At (TupR FrR) hp ds ((cutT T).take i)∧∃ u,σ=[u]) ⟨[],rfl,At.nil,none,rfl⟩ ?_ ?_
 ·rintro i ys σ H2 x H3 hi sm hacc2 ⟨ds,rfl,hD,u,rfl⟩ ⟨rfl,hx⟩ Cc hC
  obtain ⟨b,row,rfl,_,hy,cs,hB,hCs⟩:=hA1.ref hx
  have hB2:=sm _ _ hB
  have rl:row.length=n+2:=sq.col row (List.mem_of_mem_drop (List.mem_of_getElem? hy))
  have cl:cs.length=n+2:=by rw [hCs.1]; exact rl
  refine ⟨_,rfl,2,rfl,b,_,rfl,SqT.of hB2,fun z=>?_,fun p hp=>?_⟩
  ·have:=z.1
   rw [sIx2 (by rw [List.length_map]; omega)] at this
   cases this
  rw [show cutV (cs.map V.ref) (some 2) none=(cs.drop 2).map V.ref by rw [show (some (2:Int))=some ((2:Nat):Int) from rfl,cut_drop _ (by rw [List.length_map]; omega),List.map_drop]]
  have sp:=same_new hp (.tup ((cs.drop 2).map V.ref))
  refine hC _ _ _ sp ⟨ds++[p],by simp,?_,_,rfl⟩
  have ec:(cutT T)[i]?=some (row.drop 2):=by unfold cutT; rw [List.getElem?_map,hy]; rfl
  rw [take_succ_of ec]
  exact (hD.keep mo_tf' (del_mono acc sp)).snoc (tfd' ⟨cs.drop 2,upd_same,(hCs.keep mo_fr (sm.trans sp)).drop 2⟩ (sp _ _ hacc2))
 ·rintro ys σ H4 s4 ha4 hl4 ⟨gs,rfl,hG,u,rfl⟩
  rw [List.length_map,List.length_drop,List.take_of_length_le (by rw [(cut_len sq).1]; omega)] at hG
  refine ⟨acc,_,rfl,.inl ⟨SqL.of ha4,fun p hp=>?_⟩⟩
  have sp:=same_new hp (.tup (gs.map V.ref))
  exact q p _ ((s0.trans s4).trans sp) ⟨gs,upd_same,(hG.keep mo_tf' (del_sub H4 acc)).keep mo_tf' sp⟩
end
end My
namespace My
open PySem L2 Mth Wd
theorem sb_ratio {W k:Int} {q:Rat} {a b:Nat} (w0:W≠0) (e:(W:Rat)*q=k) (h1:k.natAbs≤2 ^ b) (h2:W.natAbs≤2 ^ a):Sb b a q:=by
 refine sb_of w0 h1 h2 ?_
 rw [frac_rat k W w0]
 have w1:(W:Rat)≠0:=by exact_mod_cast w0
 have:(k:Rat) / (W:Rat)=q:=by
  rw [←e,Rat.mul_comm]
  rw [Rat.div_def,Rat.mul_assoc,Rat.mul_inv_cancel _ w1,Rat.mul_one]
 rw [this]; rfl
theorem sb_vb {M:Nat} {q:Rat} {D v:Nat} (m0:0<M) (hi:IsI ((M:Nat)*q)) (hM:M≤2 ^ D) (hv:Vb v q):Sb (D+v) D q:=by
 obtain ⟨k,hk⟩:=hi
 have ab:Ab ((2 ^ D:Nat):Rat) ((M:Nat):Rat):=nat_ab (x:=(M:Int)) (by rw [Int.natAbs_natCast]; exact hM)
 have:=ab.mul hv
 rw [hk,←Rat.natCast_mul,←Nat.pow_add] at this
 exact sb_ratio (W:=(M:Int)) (by omega) (by rw [ic]; exact hk) (ab_nat this) (by rw [Int.natAbs_natCast]; exact hM)
theorem NetK.sf {n m α β:Nat} {rs:List Rope} (k:NetK n m α β rs) (i j:Nat):Sf (en (lapT (n+2) rs) i j):=by
 obtain ⟨a,b⟩:=lap_bd k.ends (Nat.le_trans k.len k.hb.m16) i j
 have:=k.hb.bd
 exact (sb_vb (denP_pos rs) a k.den b).mono (by omega) (by omega)
theorem sf0:Sf 0:=Sb.zero.mono (Nat.zero_le _) (Nat.zero_le _)
theorem range_lift (n:Nat) (x:Nat->Rat):(List.range (n+2)).map (lift2 1 0 x)=1 :: 0 :: (List.range n).map x:=by
 rw [List.range_succ_eq_map,List.range_succ_eq_map]
 simp [List.map_map]
 exact ⟨rfl,rfl,fun _ _=>rfl⟩
section
variable {P:Program} {w:World} {K:PySem.W.Frag} {mg:Str->Option Value} {base:Heap} {f g h C C2 f1 f2 f3 f4:Addr} {fd gd hd d1 d2 d3 d4:FuncData}
inductive SpHtsR (vs:List V) (H:Hp) (Q:VK):Prop
 | mk (a:Addr) (n m α β:Nat) (rs:List Rope) (h_0:vs=[.ref a]) (h_1:NetR H a (n+2) rs) (h_2:NetK n m α β rs) (h_3:∀ p H' X,Same H H'->HtX n ((8+β*m+α)*n) rs X->TupR FrR H' p ((List.range (n+2)).map X)->Q (.ref p) H'):SpHtsR vs H Q
def spHts:Sp:=fun vs H Q _=>SpHtsR vs H Q
theorem scHt:FnScope ["net","table","right"] ["net"] (defScope sHeights):=⟨rfl,rfl,rfl,by decide +kernel,rfl,by decide +kernel,by decide +kernel⟩
theorem ok_heights (F:Fun K "heights" "heights" sHeights f fd) (G1:FnOk P w K mg base CX0 4 f1 d1 ["net"] spETab) (b1:Binds K d1 ["net"] []) (k1:PySem.W.keepIn K (.ref f1)=true) (m1:mg "ease_table" = some (.ref f1))
  (G2:FnOk P w K mg base CX0 3 f2 d2 ["one","other"] (spBin fun x y=>x-y)) (b2:Binds K d2 ["one","other"] []) (k2:PySem.W.keepIn K (.ref f2)=true) (m2:mg "minus" = some (.ref f2))
  (G3:FnOk P w K mg base CX0 1 f3 d3 ["table"] spPole) (b3:Binds K d3 ["table"] []) (k3:PySem.W.keepIn K (.ref f3)=true) (m3:mg "poleless" = some (.ref f3))
  (G4:FnOk P w K mg base CX0 4 f4 d4 ["table","right"] (spAnswer C2)) (b4:Binds K d4 ["table","right"] []) (k4:PySem.W.keepIn K (.ref f4)=true) (m4:mg "answer" = some (.ref f4)) (mt:mg "tuple" = none) :
  FnOk P w K mg base CX0 5 f fd ["net"] spHts:=by
 refine F.ok scHt (fun vs H Q E h=>?_) (fun cdv A outer s H vs Q E hr h=>?_)
 ·obtain ⟨a,n,m,α,β,rs,rfl,_⟩:=h
  rfl
 obtain ⟨a,n,m,α,β,rs,rfl,hN,k,q⟩:=h
 have hr3:=hr.mono (show 3≤4 by decide)
 have hr1:=hr.mono (show 1≤4 by decide)
 refine ⟨_,pss_cons (ps_set (i:=1) scHt.nd rfl (Or.inl rfl) (pe_call G1 hr (by rfl) m1 k1 b1 .nil pass0 (pa_cons (pv 0) pa_nil)))
  (pss_cons (ps_set (i:=2) scHt.nd rfl (Or.inl rfl) (pe_callTy call_tuple_of (by rfl) mt bt_tuple (pa_cons (pe_comp (Nc:=["row"]) (cap:=[]) (g:=gName 0) (te:=tCall (spBin fun x y=>x-y) [] E0 (tCons (tTup (tCons (tC (.int 0)) (tCons (tC (.int 1)) tNil))) (tCons (tOp (rIxT K) (tVar 0) (tC (.int 0))) tNil))) rfl (pi_tup (pe_slice sl_tup (pv 1) (po_some pe_int) po_none))
   (comp_mk rfl rfl (by decide +kernel) (by decide +kernel) (List.forall_mem_nil _) rfl (List.forall_mem_nil _)) (fun C fp pins s' H'=>pg_name (i:=0) ndRo' rfl (Or.inl rfl)) (fun C fp pins s' H'=>pe_call G2 hr3 (by rfl) m2 k2 b2 .nil pass0 (pa_cons (pe_tup (pa_cons pe_int (pa_cons pe_int pa_nil))) (pa_cons (pe_ix ix_tup (pv 0) pe_int (fun _ _=>rfl)) pa_nil)))) pa_nil)))
  (pss_one (ps_ret (pe_op op_catT (pe_tup (pa_cons (pe_tup (pa_cons pe_int (pa_cons pe_int pa_nil))) (pa_cons (pe_tup (pa_cons pe_int (pa_cons pe_int pa_nil))) pa_nil)))
   (pe_call (CX:=CX0) G4 hr (by rfl) m4 k4 b4 .nil pass0 (pa_cons (pe_call G3 hr1 (by rfl) m3 k3 b3 .nil pass0 (pa_cons (pv 1) pa_nil)) (pa_cons (pv 2) pa_nil))))))),?_⟩
 have m16:rs.length≤16:=Nat.le_trans k.len k.hb.m16
 have n13:=k.hb.n13
 have bd:=k.hb.bd
 have bl:β*rs.length≤β*m:=Nat.mul_le_mul_left _ k.len
 have bl1:(β+1)*rs.length=β*rs.length+rs.length:=by rw [Nat.add_mul,Nat.one_mul]
 have sq:=(lapT_sq k.two).1
 have ksf:=k.sf
 refine ⟨_,rfl,a,n+2,α,β,rs,rfl,hN,by omega,by omega,k.ends,by omega,by omega,fun t H1 s1 hT=>?_⟩
 have ht:=(cut_len sq)
 have hrl:=right_len sq
 obtain ⟨bs,ha,hA⟩:=hT
 have lb:bs.length=n+2:=by rw [hA.1]; exact sq.len
 refine ⟨_,rfl,2,rfl,t,_,rfl,SqT.of ha,fun z=>?_,fun p0 hp0=>?_⟩
 ·have:=z.1
  rw [sIx2 (by rw [List.length_map]; omega)] at this
  cases this
 rw [show cutV (bs.map V.ref) (some 2) none=(bs.drop 2).map V.ref by rw [show (some (2:Int))=some ((2:Nat):Int) from rfl,cut_drop _ (by rw [List.length_map]; omega),List.map_drop]]
 have s0:=same_new hp0 (.tup ((bs.drop 2).map V.ref))
 have h0:(upd H1 p0 (.tup ((bs.drop 2).map V.ref))) p0=some (.tup ((bs.drop 2).map V.ref)):=upd_same
 generalize upd H1 p0 (.tup ((bs.drop 2).map V.ref))=H2 at s0 h0
 have hA1:=(hA.keep mo_tf' s0).drop 2
 refine ⟨p0,rfl,⟨_,SqT.of h0⟩,fun acc hacc=>?_⟩
 refine comp_run (run_tup h0) (by rw [List.length_map,List.length_drop]; omega) hacc (fun i ys σ hp=>∃ ds:List Addr,ys=ds.map V.ref∧At FrR hp ds ((rightT (lapT (n+2) rs)).take i)∧∃ u,σ=[u]) ⟨[],rfl,At.nil,none,rfl⟩ ?_ ?_
 ·rintro i ys σ H3 x H4 hi sm hacc2 ⟨ds,rfl,hD,u,rfl⟩ ⟨rfl,hx⟩ Cc hC
  obtain ⟨b,row,rfl,_,hy,cs,hB,hCs⟩:=hA1.ref hx
  have hB2:=sm _ _ hB
  have rl:row.length=n+2:=sq.col row (List.mem_of_mem_drop (List.mem_of_getElem? hy))
  have er:row[0]?=some (row.getD 0 0):=by rw [List.getD_eq_getElem?_getD,List.getElem?_eq_getElem (by omega)]; rfl
  obtain ⟨c,hc,hcf⟩:=hCs.get er
  have i':i<n:=by
   have:i<(bs.drop 2).length:=by rw [List.length_map] at hi; exact hi
   rw [List.length_drop] at this; omega
  have erow:row=(lapT (n+2) rs).getD (i+2) []:=by
   rw [List.getElem?_drop,Nat.add_comm 2 i,(sq.row (i:=i+2) (by omega)).2] at hy
   exact (Option.some.inj hy).symm
  refine ⟨by show 2≤sizeLine; decide,fun z hz=>?_⟩
  have sz:=same_new hz (.tup [.int 0,.int 1])
  have ez:FrR (upd H4 z (.tup [.int 0,.int 1])) z 0:=upd_same
  generalize upd H4 z (.tup [.int 0,.int 1])=H5 at sz ez
  refine ⟨_,rfl,b,_,_,_,rfl,rfl,SqT.of (sz _ _ hB2),atI_nat (j:=0) (ref_at hc),z,c,0,row.getD 0 0,rfl,ez,sz _ _ (sm _ _ hcf),sf0,by rw [erow]; exact ksf (i+2) 0,fun p hp=>?_⟩
  have sp:=same_new hp (.tup [.int (0-row.getD 0 0).num,.int (0-row.getD 0 0).den])
  have szp:=sz.trans sp
  refine hC _ _ _ szp ⟨ds++[p],by simp,?_,_,rfl⟩
  have ec:(rightT (lapT (n+2) rs))[i]?=some (0-row.getD 0 0):=by unfold rightT; rw [List.getElem?_map,hy]; rfl
  rw [take_succ_of ec]
  exact (hD.keep mo_fr (del_mono acc szp)).snoc (FrR.del (q:=0-row.getD 0 0) upd_same (szp _ _ hacc2))
 ·rintro ys σ H4 s4 ha4 hl4 ⟨gs,rfl,hG,u,rfl⟩
  rw [List.length_map,List.length_drop,List.take_of_length_le (by rw [hrl]; omega)] at hG
  refine ⟨acc,_,rfl,.inl ⟨SqL.of ha4,fun rt hrt=>?_⟩⟩
  have s5:=same_new hrt (.tup (gs.map V.ref))
  have hR:TupR FrR (upd H4 rt (.tup (gs.map V.ref))) rt (rightT (lapT (n+2) rs)):=⟨gs,upd_same,(hG.keep mo_fr (del_sub H4 acc)).keep mo_fr s5⟩
  generalize upd H4 rt (.tup (gs.map V.ref))=H5 at s5 hR
  have s15:=(s0.trans s4).trans s5
  refine ⟨by show 2≤sizeLine; decide,fun z1 hz1=>⟨by show 2≤sizeLine; decide,fun z2 hz2=>⟨by show 2≤sizeLine; decide,fun z3 hz3=>?_⟩⟩⟩
  have t1:=same_new hz1 (.tup [.int 1,.int 1])
  have e1:FrR (upd H5 z1 (.tup [.int 1,.int 1])) z1 1:=upd_same
  generalize upd H5 z1 (.tup [.int 1,.int 1])=H6 at t1 e1 hz2 hz3
  have t2:=same_new hz2 (.tup [.int 0,.int 1])
  have e2:FrR (upd H6 z2 (.tup [.int 0,.int 1])) z2 0:=upd_same
  generalize upd H6 z2 (.tup [.int 0,.int 1])=H7 at t2 e2 hz3
  have t3:=same_new hz3 (.tup [.ref z1,.ref z2])
  have e3:(upd H7 z3 (.tup [.ref z1,.ref z2])) z3=some (.tup [.ref z1,.ref z2]):=upd_same
  generalize upd H7 z3 (.tup [.ref z1,.ref z2])=H8 at t3 e3
  have s18:=s15.trans ((t1.trans t2).trans t3)
  refine ⟨_,rfl,t,lapT (n+2) rs,n,rfl,⟨bs,s18 _ _ ha,hA.keep mo_tf' s18⟩,sq,by omega,fun pt H9 s9 hP=>?_⟩
  refine ⟨_,rfl,pt,rt,cutT (lapT (n+2) rs),rightT (lapT (n+2) rs),n,_,_,_,rfl,hP,mo_tup (R:=FrR) (fun s h=>mo_fr s h) (((t1.trans t2).trans t3).trans s9) hR,ht.1,hrl,ht.2,k.tk,fun z=>absurd z k.ne,fun _ pa H10 x s10 hx hX=>?_⟩
  have htx:=k.htx hx
  obtain ⟨xs,hpa,hXs⟩:=hX
  have s910:=s9.trans s10
  have sAll:=(s1.trans s18).trans s910
  have a1:At FrR H10 ([z1,z2]++xs) (1 :: 0 :: (List.range n).map x):=by
   refine At.app (xs:=[1,0]) (At.snoc (bs:=[z1]) (xs:=[1]) (At.snoc (bs:=[]) (xs:=[]) At.nil ?_) ?_) hXs
   ·exact ((t2.trans t3).trans s910) _ _ e1
   ·exact (t3.trans s910) _ _ e2
  rw [←range_lift] at a1
  have lx:xs.length=n:=by rw [hXs.1]; simp
  refine ⟨z3,pa,[.ref z1,.ref z2],xs.map V.ref,rfl,rfl,SqT.of (s910 _ _ e3),SqT.of hpa,by simp,by rw [List.length_map]; exact szle (by simp; omega),fun z=>?_,fun z p hp=>?_⟩
  ·have xe:xs=[]:=List.map_eq_nil_iff.mp z
   subst xe
   exact q z3 H10 _ sAll htx ⟨[z1,z2],s910 _ _ e3,a1⟩
  ·have sp:=same_new hp (.tup ([.ref z1,.ref z2]++xs.map V.ref))
   exact q p _ _ (sAll.trans sp) htx ⟨[z1,z2]++xs,by rw [upd_same]; simp,a1.keep mo_fr sp⟩
end
end My
namespace My
open PySem L2 Mth Wd
theorem seq_cut {t u:L2.TS} {D:Ends} {σ:L2.St} {H:Hp} {G:L2.St->Hp->Prop} (m:∀ U:L2.St->Hp->Prop,(∀ σ H,G σ H->U σ H)->t { D with nx:=U } σ H) (r:∀ σ H,G σ H->u D σ H):tSeq t u D σ H:=m _ r
def Uw (Z:Int) (N c:Nat) (q:Rat):Prop:=∃ k:Int,(Z:Rat)*q=k∧k.natAbs≤c*2 ^ N
theorem Uw.add {Z:Int} {N c d:Nat} {p q:Rat} (h:Uw Z N c p) (g:Uw Z N d q):Uw Z N (c+d) (p+q):=by
 obtain ⟨k,h1,h2⟩:=h
 obtain ⟨l,g1,g2⟩:=g
 refine ⟨k+l,by rw [Rat.intCast_add,←h1,←g1]; grind,?_⟩
 rw [Nat.add_mul]
 exact Nat.le_trans (Int.natAbs_add_le _ _) (Nat.add_le_add h2 g2)
theorem Uw.neg {Z:Int} {N c:Nat} {p:Rat} (h:Uw Z N c p):Uw Z N c (-p):=by
 obtain ⟨k,h1,h2⟩:=h
 exact ⟨-k,by rw [Rat.intCast_neg,←h1]; grind,by rw [Int.natAbs_neg]; exact h2⟩
theorem Uw.sub {Z:Int} {N c d:Nat} {p q:Rat} (h:Uw Z N c p) (g:Uw Z N d q):Uw Z N (c+d) (p-q):=by
 rw [Rat.sub_eq_add_neg]; exact h.add g.neg
theorem Uw.mono {Z:Int} {N c d:Nat} {p:Rat} (h:Uw Z N c p) (e:c≤d):Uw Z N d p:=by
 obtain ⟨k,h1,h2⟩:=h
 exact ⟨k,h1,Nat.le_trans h2 (Nat.mul_le_mul_right _ e)⟩
theorem Uw.zero (Z:Int) (N:Nat):Uw Z N 0 0:=⟨0,by rw [Rat.mul_zero]; rfl,by simp⟩
theorem Uw.sf {Z:Int} {N c:Nat} {q:Rat} (h:Uw Z N c q) (z0:Z≠0) (hz:Z.natAbs≤2 ^ 3900) (hc:c≤64) (hN:N+6≤3900):Sf q:=by
 obtain ⟨k,h1,h2⟩:=h
 refine sb_ratio z0 h1 (Nat.le_trans h2 ?_) hz
 have:c*2 ^ N≤2 ^ (N+6):=by rw [Nat.pow_add,Nat.mul_comm]; exact Nat.mul_le_mul_left _ hc
 exact Nat.le_trans this (Nat.pow_le_pow_right (by decide) hN)
structure HtS (n:Nat) (rs:List Rope) (X:Nat->Rat) (Z:Int) (N:Nat):Prop where
 z0:Z≠0
 zl:Z.natAbs≤2 ^ 3900
 nl:N+6≤3900
 hs:∀ j,j<n+2->Sf (X j)
 fs:∀ r∈rs,Sf (X r.1-X r.2.1)
 es:∀ r∈rs,Sf r.2.2
 ru:∀ r∈rs,Uw Z N 1 (runs X r)
theorem HtX.sizes {n m α β:Nat} {rs:List Rope} {X:Nat->Rat} (k:NetK n m α β rs) (h:HtX n ((8+β*m+α)*n) rs X):∃ Z N,HtS n rs X Z N:=by
 obtain ⟨W,w0,wl,wx⟩:=h.wh
 have bd:=k.hb.bd
 have bm:∀ r∈rs,β≤β*m:=fun r hr=>by
  have:0<rs.length:=List.length_pos_of_mem hr
  have:=k.len
  exact Nat.le_mul_of_pos_right _ (by omega)
 generalize (8+β*m+α)*n=B at *
 have hd:=k.den
 have hp:=denP_pos rs
 have fall:∀ r∈rs,∃ c:Int,(W:Rat)*(X r.1-X r.2.1)=c∧c.natAbs≤2 ^ (B+1):=fun r hr=>by
  obtain ⟨a1,a2,a3⟩:=k.ends r hr
  obtain ⟨x,e1,l1⟩:=wx _ a1
  obtain ⟨y,e2,l2⟩:=wx _ a2
  refine ⟨x-y,by rw [Rat.intCast_sub,←e1,←e2]; grind,?_⟩
  have:=Int.natAbs_sub_le x y
  rw [Nat.pow_succ]; omega
 refine ⟨W*(denP rs:Int),β*m+α+(B+1),Int.mul_ne_zero w0 (by omega),?_,by omega,fun j hj=>?_,fun r hr=>?_,fun r hr=>?_,fun r hr=>?_⟩
 ·rw [Int.natAbs_mul,Int.natAbs_natCast]
  exact Nat.le_trans (pmul wl hd) (Nat.pow_le_pow_right (by decide) (by omega))
 ·obtain ⟨c,e,l⟩:=wx j hj
  exact (sb_ratio w0 e l wl).mono (by omega) (by omega)
 ·obtain ⟨c,e,l⟩:=fall r hr
  exact (sb_ratio w0 e l wl).mono (by omega) (by omega)
 ·have:=bm r hr
  exact (k.ends r hr).2.2.mono (by omega) (by omega)
 ·obtain ⟨c,e,l⟩:=fall r hr
  obtain ⟨v,hv⟩:=isi_den (denP_dvd hr)
  refine ⟨v*c,?_,?_⟩
  ·rw [Rat.intCast_mul,Rat.intCast_mul,←hv,←e,ic]
   unfold runs; grind
  ·have ab:Ab ((2 ^ (β*m):Nat):Rat) ((denP rs:Nat):Rat):=nat_ab (x:=(denP rs:Int)) (by rw [Int.natAbs_natCast]; exact hd)
   have vb:=ab.mul (k.ends r hr).2.2.vb
   rw [hv,←Rat.natCast_mul,←Nat.pow_add] at vb
   rw [Int.natAbs_mul,Nat.one_mul]
   exact pmul (ab_nat vb) l
theorem HtS.away {n:Nat} {rs:List Rope} {X:Nat->Rat} {Z:Int} {N:Nat} (s:HtS n rs X Z N) (i:Nat) {r:Rope} (hr:r∈rs):Uw Z N 2 (away X i r):=by
 have h:=s.ru r hr
 have:∀ c:Prop,[Decidable c]->Uw Z N 1 (if c then runs X r else 0):=fun c _=>by
  by_cases e:c
  ·rw [if_pos e]; exact h
  ·rw [if_neg e]; exact (Uw.zero Z N).mono (by omega)
 exact (this _).sub (this _)
theorem outs_snoc {X:Nat->Rat} {rs:List Rope} {k i:Nat} {r:Rope} (e:rs[k]?=some r):outs X (rs.take (k+1)) i=outs X (rs.take k) i+Wd.away X i r:=by
 unfold outs
 rw [take_succ_of e,List.map_append,List.sum_append]
 simp only [List.map_cons,List.map_nil,List.sum_cons,List.sum_nil,Rat.add_zero]
theorem HtS.sum {n:Nat} {rs:List Rope} {X:Nat->Rat} {Z:Int} {N:Nat} (s:HtS n rs X Z N) (i:Nat):∀ k,k≤rs.length->Uw Z N (2*k) (outs X (rs.take k) i):=by
 intro k
 induction k with
 | zero=>intro _; exact Uw.zero Z N
 | succ k ih =>
  intro hk
  have e:rs[k]?=some rs[k]:=List.getElem?_eq_getElem hk
  rw [outs_snoc e,Nat.mul_succ]
  exact (ih (by omega)).add (s.away i (List.getElem_mem _))
theorem range_at {n i:Nat} (X:Nat->Rat) (h:i<n):((List.range n).map X)[i]?=some (X i):=by
 rw [List.getElem?_map,List.getElem?_range h]; rfl
section
variable {P:Program} {w:World} {K:PySem.W.Frag} {mg:Str->Option Value} {base:Heap} {f g h C C2 f1 f2 f3 f4:Addr} {fd gd hd d1 d2 d3 d4:FuncData}
inductive SpFallR (vs:List V) (H:Hp) (Q:VK):Prop
 | mk (a b:Addr) (r:Rope) (n:Nat) (X:Nat->Rat) (h_0:vs=[.ref a,.ref b]) (h_1:RopeR H a r) (h_2:TupR FrR H b ((List.range n).map X)) (h_3:r.1<n) (h_4:r.2.1<n) (h_5:Sf (X r.1)) (h_6:Sf (X r.2.1)) (h_7:GivQ H Q (X r.1-X r.2.1)):SpFallR vs H Q
def spFall:Sp:=fun vs H Q _=>SpFallR vs H Q
theorem scFa:FnScope ["rope","levels"] ["rope","levels"] (defScope sFallOf):=⟨rfl,rfl,rfl,by decide +kernel,rfl,by decide +kernel,by decide +kernel⟩
theorem ok_fall (F:Fun K "fall_of" "fall_of" sFallOf f fd) (G:FnOk P w K mg base CX0 3 g gd ["one","other"] (spBin fun x y=>x-y)) (bG:Binds K gd ["one","other"] []) (kG:PySem.W.keepIn K (.ref g)=true) (mG:mg "minus" = some (.ref g)) :
  FnOk P w K mg base CX0 4 f fd ["rope","levels"] spFall:=by
 refine F.ok scFa (fun vs H Q E h=>?_) (fun cdv A outer s H vs Q E hr h=>?_)
 ·obtain ⟨a,b,r,n,X,rfl,_⟩:=h
  rfl
 obtain ⟨a,b,r,n,X,rfl,⟨e,ha,he⟩,⟨bs,hb,hB⟩,r1,r2,s1,s2,q⟩:=h
 refine ⟨_,pss_one (ps_ret (pe_call G hr (by rfl) mG kG bG .nil pass0 (pa_cons (pe_ix ix_tup (pv 1) (pe_ix ix_tup (pv 0) pe_int (fun _ _=>rfl)) (fun _ _=>rfl)) (pa_cons (pe_ix ix_tup (pv 1) (pe_ix ix_tup (pv 0) pe_int (fun _ _=>rfl)) (fun _ _=>rfl)) pa_nil)))),?_⟩
 obtain ⟨c1,h1,g1⟩:=hB.get (range_at X r1)
 obtain ⟨c2,h2,g2⟩:=hB.get (range_at X r2)
 exact ⟨_,rfl,_,rfl,a,_,_,_,rfl,rfl,SqT.of ha,t3_0 _ _ _,b,_,_,_,rfl,rfl,SqT.of hb,atI_nat (ref_at h1),_,rfl,_,rfl,a,_,_,_,rfl,rfl,SqT.of ha,t3_1 _ _ _,b,_,_,_,rfl,rfl,SqT.of hb,atI_nat (ref_at h2),c1,c2,_,_,rfl,g1,g2,s1,s2,q⟩
inductive SpRunByR (vs:List V) (H:Hp) (Q:VK):Prop
 | mk (a b:Addr) (n:Nat) (rs:List Rope) (X:Nat->Rat) (h_0:vs=[.ref a,.ref b]) (h_1:NetR H a n rs) (h_2:TupR FrR H b ((List.range n).map X)) (h_3:rs.length≤100) (h_4:(∀ r∈rs,r.1<n∧r.2.1<n∧Sf (X r.1)∧Sf (X r.2.1)∧Sf (X r.1-X r.2.1)∧Sf r.2.2)) (h_5:∀ p H',Same H H'->TupR FrR H' p (rs.map (runs X))->Q (.ref p) H'):SpRunByR vs H Q
def spRunBy:Sp:=fun vs H Q _=>SpRunByR vs H Q
theorem scRB:FnScope ["net","levels"] ["net","levels"] (defScope sRunBy):=⟨rfl,rfl,rfl,by decide +kernel,rfl,by decide +kernel,by decide +kernel⟩
theorem ndRL:(["rope","levels"]:List Str).Nodup:=by decide +kernel
theorem ok_runby (F:Fun K "runnings_by" "runnings_by" sRunBy f fd) (G1:FnOk P w K mg base CX0 3 f1 d1 ["one","other"] (spBin fun x y=>x*y)) (b1:Binds K d1 ["one","other"] []) (k1:PySem.W.keepIn K (.ref f1)=true) (m1:mg "times" = some (.ref f1))
  (G2:FnOk P w K mg base CX0 4 f2 d2 ["rope","levels"] spFall) (b2:Binds K d2 ["rope","levels"] []) (k2:PySem.W.keepIn K (.ref f2)=true) (m2:mg "fall_of" = some (.ref f2)) (mt:mg "tuple" = none) :
  FnOk P w K mg base CX0 5 f fd ["net","levels"] spRunBy:=by
 refine F.ok scRB (fun vs H Q E h=>?_) (fun cdv A outer s H vs Q E hr h=>?_)
 ·obtain ⟨a,b,n,rs,X,rfl,_⟩:=h
  rfl
 obtain ⟨a,b,n,rs,X,rfl,⟨ra,tv,ha,bs,hra,hRs⟩,hL,hm,hrs,q⟩:=h
 have hr3:=hr.mono (show 3≤4 by decide)
 refine ⟨_,pss_one (ps_ret (pe_callTy call_tuple_of (by rfl) mt bt_tuple (pa_cons (pe_comp (Nc:=["rope","levels"]) (cap:=[(1,1)]) (g:=gName 0) (te:=tCall (spBin fun x y=>x*y) [] E0 (tCons (tOp (rIxT K) (tVar 0) (tC (.int 2))) (tCons (tCall spFall [] E0 (tCons (tVar 0) (tCons (tVar 1) tNil))) tNil))) rfl (pi_tup (pe_ix ix_tup (pv 0) pe_int (fun _ _=>rfl)))
   (comp_mk rfl rfl (by decide +kernel) (by decide +kernel) (List.forall_mem_cons.mpr ⟨⟨rfl,rfl⟩,List.forall_mem_nil _⟩) rfl (List.forall_mem_cons.mpr ⟨⟨_,_,rfl,rfl,rfl,rfl,rfl⟩,List.forall_mem_nil _⟩)) (fun C fp pins s' H'=>pg_name (i:=0) ndRL rfl (Or.inl rfl))
   (fun C fp pins s' H'=>pe_call G1 hr3 (by rfl) m1 k1 b1 .nil pass0 (pa_cons (pe_ix ix_tup (pv 0) pe_int (fun _ _=>rfl)) (pa_cons (pe_call G2 hr (by rfl) m2 k2 b2 .nil pass0 (pa_cons (pv 0) (pa_cons (pv 1) pa_nil))) pa_nil)))) pa_nil))),?_⟩
 have lb:bs.length=rs.length:=hRs.1
 refine ⟨_,rfl,a,_,_,_,rfl,rfl,SqT.of ha,t3_1 _ _ _,ra,rfl,⟨_,SqT.of hra⟩,fun acc hacc=>?_⟩
 refine comp_run (run_tup hra) (by rw [List.length_map]; omega) hacc (fun i ys σ hp=>∃ ds:List Addr,ys=ds.map V.ref∧At FrR hp ds ((rs.map (runs X)).take i)∧∃ u,σ=[u,some (.ref b)]) ⟨[],rfl,At.nil,none,rfl⟩ ?_ ?_
 ·rintro i ys σ H3 x H4 hi sm hacc2 ⟨ds,rfl,hD,u,rfl⟩ ⟨rfl,hx⟩ Cc hC
  obtain ⟨c,r,rfl,_,hy,e,hc,he⟩:=hRs.ref hx
  obtain ⟨r1,r2,s1,s2,s3,s4⟩:=hrs r (List.mem_of_getElem? hy)
  refine ⟨_,rfl,c,_,_,_,rfl,rfl,SqT.of (sm _ _ hc),t3_2 _ _ _,_,rfl,_,rfl,c,b,r,n,X,rfl,⟨e,sm _ _ hc,sm _ _ he⟩,mo_tup (R:=FrR) (fun s h=>mo_fr s h) sm hL,r1,r2,s1,s2,fun p hp=>?_⟩
  have sp:=same_new hp (.tup [.int (X r.1-X r.2.1).num,.int (X r.1-X r.2.1).den])
  have hf:FrR (upd H4 p (.tup [.int (X r.1-X r.2.1).num,.int (X r.1-X r.2.1).den])) p (X r.1-X r.2.1):=upd_same
  generalize upd H4 p (.tup [.int (X r.1-X r.2.1).num,.int (X r.1-X r.2.1).den])=H5 at sp hf
  refine ⟨e,p,_,_,rfl,sp _ _ (sm _ _ he),hf,s4,s3,fun p2 hp2=>?_⟩
  have sp2:=same_new hp2 (.tup [.int (r.2.2*(X r.1-X r.2.1)).num,.int (r.2.2*(X r.1-X r.2.1)).den])
  have sA:=sp.trans sp2
  refine hC _ _ _ sA ⟨ds++[p2],by simp,?_,_,rfl⟩
  have ec:(rs.map (runs X))[i]?=some (runs X r):=by rw [List.getElem?_map,hy]; rfl
  rw [take_succ_of ec]
  exact (hD.keep mo_fr (del_mono acc sA)).snoc (FrR.del (q:=runs X r) upd_same (sA _ _ hacc2))
 ·rintro ys σ H4 s4 ha4 hl4 ⟨gs,rfl,hG,u,rfl⟩
  rw [List.length_map,lb,List.take_of_length_le (by rw [List.length_map]; exact Nat.le_refl _)] at hG
  refine ⟨acc,_,rfl,.inl ⟨SqL.of ha4,fun p hp=>?_⟩⟩
  have sp:=same_new hp (.tup (gs.map V.ref))
  exact q p _ (s4.trans sp) ⟨gs,upd_same,(hG.keep mo_fr (del_sub H4 acc)).keep mo_fr sp⟩
inductive SpRunsR (vs:List V) (H:Hp) (Q:VK):Prop
 | mk (a:Addr) (n m α β:Nat) (rs:List Rope) (h_0:vs=[.ref a]) (h_1:NetR H a (n+2) rs) (h_2:NetK n m α β rs) (h_3:∀ p H' X,Same H H'->HtX n ((8+β*m+α)*n) rs X->TupR FrR H' p (rs.map (runs X))->Q (.ref p) H'):SpRunsR vs H Q
def spRuns:Sp:=fun vs H Q _=>SpRunsR vs H Q
theorem scRu:FnScope ["net"] ["net"] (defScope sRunnings):=⟨rfl,rfl,rfl,by decide +kernel,rfl,by decide +kernel,by decide +kernel⟩
theorem ok_runnings (F:Fun K "runnings" "runnings" sRunnings f fd) (G1:FnOk P w K mg base CX0 5 f1 d1 ["net","levels"] spRunBy) (b1:Binds K d1 ["net","levels"] []) (k1:PySem.W.keepIn K (.ref f1)=true) (m1:mg "runnings_by" = some (.ref f1))
  (G2:FnOk P w K mg base CX0 5 f2 d2 ["net"] spHts) (b2:Binds K d2 ["net"] []) (k2:PySem.W.keepIn K (.ref f2)=true) (m2:mg "heights" = some (.ref f2)) :
  FnOk P w K mg base CX0 6 f fd ["net"] spRuns:=by
 refine F.ok scRu (fun vs H Q E h=>?_) (fun cdv A outer s H vs Q E hr h=>?_)
 ·obtain ⟨a,n,m,α,β,rs,rfl,_⟩:=h
  rfl
 obtain ⟨a,n,m,α,β,rs,rfl,hN,k,q⟩:=h
 refine ⟨_,pss_one (ps_ret (pe_call G1 hr (by rfl) m1 k1 b1 .nil pass0 (pa_cons (pv 0) (pa_cons (pe_call G2 hr (by rfl) m2 k2 b2 .nil pass0 (pa_cons (pv 0) pa_nil)) pa_nil)))),?_⟩
 refine ⟨_,rfl,_,rfl,a,n,m,α,β,rs,rfl,hN,k,fun p H1 X s1 hX hT=>?_⟩
 obtain ⟨Z,N,z⟩:=hX.sizes k
 have m16:rs.length≤16:=Nat.le_trans k.len k.hb.m16
 exact ⟨a,p,n+2,rs,X,rfl,mo_net s1 hN,hT,by omega,fun r hr=>⟨(k.ends r hr).1,(k.ends r hr).2.1,z.hs _ (k.ends r hr).1,z.hs _ (k.ends r hr).2.1,z.fs r hr,z.es r hr⟩,fun p2 H2 s2 h2=>q p2 H2 X (s1.trans s2) hX h2⟩
inductive SpEaseOfR (vs:List V) (H:Hp) (Q:VK):Prop
 | mk (a:Addr) (n m α β:Nat) (rs:List Rope) (h_0:vs=[.ref a]) (h_1:NetR H a (n+2) rs) (h_2:NetK n m α β rs) (h_3:∀ p H' X,Same H H'->HtX n ((8+β*m+α)*n) rs X->FrR H' p (outs X rs 0)->Q (.ref p) H'):SpEaseOfR vs H Q
def spEaseOf:Sp:=fun vs H Q _=>SpEaseOfR vs H Q
theorem scEO:FnScope ["net","ease","rope","running"] ["net"] (defScope sEaseOf):=⟨rfl,rfl,rfl,by decide +kernel,rfl,by decide +kernel,by decide +kernel⟩
theorem ok_easeof (F:Fun K "ease_of" "ease_of" sEaseOf f fd) (G1:FnOk P w K mg base CX0 3 f1 d1 ["one","other"] (spBin fun x y=>x+y)) (b1:Binds K d1 ["one","other"] []) (k1:PySem.W.keepIn K (.ref f1)=true) (m1:mg "plus" = some (.ref f1))
  (G2:FnOk P w K mg base CX0 3 f2 d2 ["one","other"] (spBin fun x y=>x-y)) (b2:Binds K d2 ["one","other"] []) (k2:PySem.W.keepIn K (.ref f2)=true) (m2:mg "minus" = some (.ref f2))
  (G3:FnOk P w K mg base CX0 6 f3 d3 ["net"] spRuns) (b3:Binds K d3 ["net"] []) (k3:PySem.W.keepIn K (.ref f3)=true) (m3:mg "runnings" = some (.ref f3)) (mz:mg "zip" = none) :
  FnOk P w K mg base CX0 7 f fd ["net"] spEaseOf:=by
 refine F.ok scEO (fun vs H Q E h=>?_) (fun cdv A outer s H vs Q E hr h=>?_)
 ·obtain ⟨a,n,m,α,β,rs,rfl,_⟩:=h
  rfl
 obtain ⟨a,n,m,α,β,rs,rfl,hN,k,q⟩:=h
 have hr3:=hr.mono (show 3≤6 by decide)
 refine ⟨_,pss_cons (ps_set (i:=1) scEO.nd rfl (Or.inl rfl) (pe_tup (pa_cons pe_int (pa_cons pe_int pa_nil))))
  (pss_cons (ps_for PassesOwn.never rfl (pi_zipK (t1:=true) (t2:=true) (by rfl) mz (pa_cons (pe_ix ix_tup (pv 0) pe_int (fun _ _=>rfl)) (pa_cons (pe_call G3 hr (by rfl) m3 k3 b3 .nil pass0 (pa_cons (pv 0) pa_nil)) pa_nil))) (pg_tup rfl (pgs_cons (pg_name (i:=2) scEO.nd rfl (Or.inl rfl)) (pgs_cons (pg_name (i:=3) scEO.nd rfl (Or.inl rfl)) pgs_nil)))
   (pss_cons (ps_if (pt_cmpR op_eq (pe_ix ix_tup (pv 2) pe_int (fun _ _=>rfl)) pe_int (nomark _)) (pss_one (ps_set (i:=1) scEO.nd rfl (Or.inl rfl) (pe_call G1 hr3 (by rfl) m1 k1 b1 .nil pass0 (pa_cons (pv 1) (pa_cons (pv 3) pa_nil))))) pss_nil)
   (pss_one (ps_if (pt_cmpR op_eq (pe_ix ix_tup (pv 2) pe_int (fun _ _=>rfl)) pe_int (nomark _)) (pss_one (ps_set (i:=1) scEO.nd rfl (Or.inl rfl) (pe_call G2 hr3 (by rfl) m2 k2 b2 .nil pass0 (pa_cons (pv 1) (pa_cons (pv 3) pa_nil))))) pss_nil))))
  (pss_one (ps_ret (pv 1)))),?_⟩
 have m16:rs.length≤16:=Nat.le_trans k.len k.hb.m16
 refine ⟨by show 2≤sizeLine; decide,fun z1 hz1=>?_⟩
 have t1:=same_new hz1 (.tup [.int 0,.int 1])
 have e1:FrR (upd H z1 (.tup [.int 0,.int 1])) z1 0:=upd_same
 generalize upd H z1 (.tup [.int 0,.int 1])=H1 at t1 e1
 obtain ⟨ra,tv,ha,bs,hra,hRs⟩:=id hN
 refine ⟨_,rfl,a,_,_,_,rfl,rfl,SqT.of (t1 _ _ ha),t3_1 _ _ _,_,rfl,a,n,m,α,β,rs,rfl,mo_net t1 hN,k,fun pr H2 X s2 hX hR=>?_⟩
 obtain ⟨Z,N,z⟩:=hX.sizes k
 obtain ⟨cs,hpr,hCs⟩:=hR
 have s12:=t1.trans s2
 refine ⟨ra,pr,rfl,⟨_,SqS.t (s12 _ _ hra)⟩,⟨_,SqS.t hpr⟩,?_⟩
 have lb:bs.length=rs.length:=hRs.1
 have lc:cs.length=rs.length:=by rw [hCs.1,List.length_map]
 refine for_zipK (xs:=bs.map V.ref) (ys:=cs.map V.ref) rs.length (by rw [List.length_map,List.length_map]; omega) (fun i σ H3=>Same H2 H3∧∃ (e:Addr) (u v:Option V),σ=[some (.ref a),some (.ref e),u,v]∧FrR H3 e (outs X (rs.take i) 0))
  ⟨Same.refl _,z1,none,none,rfl,s2 _ _ e1⟩ (fun i σ H3 _ ⟨s3,_⟩=>⟨SqS.t (s3 _ _ (s12 _ _ hra)),SqS.t (s3 _ _ hpr)⟩) ?_ ?_
 ·rintro i x y σ H3 p hx hy ⟨s3,e,u,v,rfl,he⟩ hp
  obtain ⟨c,r,rfl,_,hri,ea,hc,hea⟩:=hRs.ref hx
  obtain ⟨d,q0,rfl,_,hqi,hd⟩:=hCs.ref hy
  have q0e:q0=runs X r:=by rw [List.getElem?_map,hri] at hqi; exact (Option.some.inj hqi).symm
  subst q0e
  have rm:=List.mem_of_getElem? hri
  have ik:i<rs.length:=(List.getElem?_eq_some_iff.mp hri).1
  have s4:=same_new hp (.tup [.ref c,.ref d])
  have h4:(upd H3 p (.tup [.ref c,.ref d])) p=some (.tup [.ref c,.ref d]):=upd_same
  generalize upd H3 p (.tup [.ref c,.ref d])=H4 at s4 h4
  refine ⟨p,_,rfl,SqT.of h4,rfl,_,_,rfl,_,_,rfl,rfl,?_⟩
  have us:=z.sum 0 i (by omega)
  have ur:=z.ru r rm
  have sum1:Sf (outs X (rs.take i) 0):=us.sf z.z0 z.zl (by omega) z.nl
  have srun:Sf (runs X r):=ur.sf z.z0 z.zl (by omega) z.nl
  have hc4:=(s12.trans (s3.trans s4)) _ _ hc
  have hd4:=(s3.trans s4) _ _ hd
  have he4:=s4 _ _ he
  have s24:=s3.trans s4
  have osn:=outs_snoc (X:=X) (i:=0) hri
  unfold Wd.away at osn
  refine seq_cut (t:=tIfS _ _ _) (G:=fun σ H5=>Same H4 H5∧∃ e5:Addr,σ=[some (.ref a),some (.ref e5),some (.ref c),some (.ref d)]∧FrR H5 e5 (outs X (rs.take i) 0+(if 0=r.1 then runs X r else 0))) (fun U fin=>?_) ?_
  ·refine ⟨_,rfl,c,_,_,_,rfl,rfl,SqT.of hc4,t3_0 _ _ _,rfl,_,rfl,?_⟩
   by_cases c1:r.1=0
   ·exact iteDT (iv (by omega)) ⟨_,rfl,_,rfl,e,d,_,_,rfl,he4,hd4,sum1,srun,fun p5 hp5=>fin _ _ ⟨same_new hp5 _,p5,rfl,by rw [if_pos c1.symm]; exact upd_same⟩⟩
   ·exact iteDF (ivn (by omega)) (fin _ _ ⟨Same.refl _,e,rfl,by rw [if_neg (fun z=>c1 z.symm),Rat.add_zero]; exact he4⟩)
  ·rintro σ H5 ⟨s5,e5,rfl,h5⟩
   have sum2:Sf (outs X (rs.take i) 0+(if 0=r.1 then runs X r else 0)):=by
    by_cases c1:0=r.1
    ·rw [if_pos c1]; exact (us.add ur).sf z.z0 z.zl (by omega) z.nl
    ·rw [if_neg c1,Rat.add_zero]; exact sum1
   refine ⟨_,rfl,c,_,_,_,rfl,rfl,SqT.of (s5 _ _ hc4),t3_1 _ _ _,rfl,_,rfl,?_⟩
   by_cases c2:r.2.1=0
   ·refine iteDT (iv (by omega)) ⟨_,rfl,_,rfl,e5,d,_,_,rfl,h5,s5 _ _ hd4,sum2,srun,fun p6 hp6=>?_⟩
    refine ⟨s24.trans (s5.trans (same_new hp6 _)),p6,_,_,rfl,?_⟩
    rw [osn,if_pos c2.symm,show ∀ x y w:Rat,x+(y-w)=x+y-w from fun x y w=>by grind]
    exact upd_same
   ·refine iteDF (ivn (by omega)) ⟨s24.trans s5,e5,_,_,rfl,?_⟩
    rw [osn,show (if 0=r.2.1 then runs X r else 0)=0 from if_neg (fun z=>c2 z.symm),show ∀ x y:Rat,x+(y-0)=x+y from fun x y=>by grind]
    exact h5
 ·rintro σ H3 ⟨s3,e,u,v,rfl,he⟩
  rw [List.take_length] at he
  exact ⟨_,rfl,q e H3 X (s12.trans s3) hX he⟩
end
end My
namespace My
open PySem L2 Mth Wd
structure EaseK (q:Rat):Prop where
 pos:0<q.num
 top:q.num<10 ^ 40
 bot:(q.den:Int)<10 ^ 40
def leastL:List Int->Int
 | []=>0
 | [a]=>a
 | a :: l=>min a (leastL l)
theorem leastL_ok:∀ {l:List Int},l≠[]->leastL l∈l∧∀ x∈l,leastL l≤x
 | [a],_=>by simp [leastL]
 | a :: b :: l,_=>by
  obtain ⟨h1,h2⟩:=leastL_ok (l:=b :: l) (by simp)
  have e:leastL (a :: b :: l)=min a (leastL (b :: l)):=rfl
  rw [e]
  constructor
  ·rcases Int.le_total a (leastL (b :: l)) with z | z
   ·rw [Int.min_eq_left z]; simp
   ·rw [Int.min_eq_right z]; exact List.mem_cons_of_mem _ h1
  ·intro x hx
   rcases List.mem_cons.mp hx with rfl | hx
   ·exact Int.min_le_left _ _
   ·exact Int.le_trans (Int.min_le_right _ _) (h2 x hx)
def begL (t:List Int):List Int:=t.drop (t.idxOf (leastL t))++t.take (t.idxOf (leastL t))
theorem leastL_is {t:List Int} {m:Int} (hm:m∈t) (h:∀ a∈t,m≤a):leastL t=m:=by
 obtain ⟨h1,h2⟩:=leastL_ok (l:=t) (List.ne_nil_of_mem hm)
 have:=h _ h1
 have:=h2 _ hm
 omega
def addT (l:List Int) (e:Int):List Int:=if e∈l then l else l++[e]
theorem put_addT (l:List Int) (e:Int):putK (kvT l) (Sum.inl e:Key) (.bl true)=kvT (addT l e):=by
 unfold addT
 by_cases h:e∈l
 ·rw [if_pos h]
  have a:valV (kvT l) (Sum.inl e:Key)=some (.bl true):=by rw [val_kvT,if_pos h]
  unfold putK
  rw [valV_any,a,if_pos (show (some (V.bl true)).isSome=true from rfl)]
  unfold kvT
  rw [List.map_map]
  refine List.map_congr_left fun x _=>?_
  show (if (Sum.inl x:Key)=Sum.inl e then ((Sum.inl x:Key),V.bl true) else (Sum.inl x,V.bl true))=_
  split <;> rfl
 ·rw [if_neg h,put_kvT h]
theorem mem_addT {l:List Int} {e x:Int}:x∈addT l e↔x∈l∨x=e:=by
 unfold addT
 split
 ·rename_i h
  constructor
  ·exact .inl
  ·rintro (z | rfl)
   ·exact z
   ·exact h
 ·simp
theorem nd_addT {l:List Int} {e:Int} (h:l.Nodup):(addT l e).Nodup:=by
 unfold addT
 split
 ·exact h
 ·rename_i z
  rw [List.nodup_append]
  exact ⟨h,by simp,fun a ha b hb=>by rw [List.mem_singleton] at hb; subst hb; exact fun q=>z (q ▸ ha)⟩
theorem len_addT (l:List Int) (e:Int):l.length≤(addT l e).length∧((addT l e).length=l.length->addT l e=l):=by
 unfold addT
 split
 ·exact ⟨Nat.le_refl _,fun _=>rfl⟩
 ·refine ⟨by simp,fun h=>?_⟩
  simp at h
structure LedK (n:Nat) (s:Int) (rs:List Rope) (l:List Int):Prop where
 nd:l.Nodup
 inn:∀ x∈l,InR n x
 st:s∈l
 least:∀ S:Int->Prop,S s->(∀ r∈rs,(S r.1↔S r.2.1))->∀ x∈l,S x
theorem LedK.len {n:Nat} {s:Int} {rs:List Rope} {l:List Int} (k:LedK n s rs l):l.length≤n:=len_le n _ k.nd k.inn
theorem LedK.add {n:Nat} {s:Int} {rs:List Rope} {l:List Int} (k:LedK n s rs l) {r:Rope} (hr:r∈rs) (h:(r.1:Int)∈l∨(r.2.1:Int)∈l) {e:Int} (he:e=r.1∨e=r.2.1) (hi:InR n e):LedK n s rs (addT l e):=by
 refine ⟨nd_addT k.nd,fun x hx=>?_,mem_addT.mpr (.inl k.st),fun S h0 hc x hx=>?_⟩
 ·rcases mem_addT.mp hx with z | rfl
  ·exact k.inn x z
  ·exact hi
 ·rcases mem_addT.mp hx with z | rfl
  ·exact k.least S h0 hc x z
  ·have:=hc r hr
   rcases h with h | h <;> have h2:=k.least S h0 hc _ h <;> rcases he with rfl | rfl
   ·exact h2
   ·exact this.mp h2
   ·exact this.mpr h2
   ·exact h2
section
variable {P:Program} {w:World} {K:PySem.W.Frag} {mg:Str->Option Value} {base:Heap} {f g h f1 f2 f3 f4:Addr} {fd gd hd d1 d2 d3 d4:FuncData}
inductive SpIsER (vs:List V) (H:Hp) (Q:VK):Prop
 | mk (p:Addr) (q:Rat) (h_0:vs=[.ref p]) (h_1:FrR H p q) (h_2:EaseK q) (h_3:Q (.bl true) H):SpIsER vs H Q
def spIsE:Sp:=fun vs H Q _=>SpIsER vs H Q
theorem scIE:FnScope ["ease","beyond","number"] ["ease"] (defScope s_is_ease):=⟨rfl,rfl,rfl,by decide +kernel,rfl,by decide +kernel,by decide +kernel⟩
theorem ok_isEase (F:Fun K "is_ease" "is_ease" s_is_ease f fd) (G:FnOk P w K mg base CX0 1 g gd ["one","other"] spGcd) (bG:Binds K gd ["one","other"] []) (kG:PySem.W.keepIn K (.ref g)=true) (mG:mg "common_part" = some (.ref g)) (ml:mg "len" = none) :
  FnOk P w K mg base CX0 2 f fd ["ease"] spIsE:=by
 refine F.ok scIE (fun vs H Q E h=>?_) (fun cdv A outer s H vs Q E hr h=>?_)
 ·obtain ⟨p,q,rfl,_⟩:=h
  rfl
 obtain ⟨p,q,rfl,hp,⟨e1,e2,e3⟩,k⟩:=h
 refine ⟨_,pss_cons (ps_set (i:=1) scIE.nd rfl (Or.inl rfl) (pe_op op_pow pe_int pe_int))
  (pss_cons (ps_if (pt_cmpR op_ne (pe_callB (callLen (K:=K)) (by rfl) ml bt_len (pa_cons (pv 0) pa_nil)) pe_int (nomark _)) pss_never pss_nil)
  (pss_cons (ps_for PassesOwn.never rfl (piTup (K:=K) (pv 0)) (pg_name (i:=2) scIE.nd rfl (Or.inl rfl))
   (pss_one (ps_if (PW.pt (pw_or (pt_cmpR op_lt (pv 2) pe_int (nomark _)) (pw_or1 (pt_cmpR op_ge (pv 2) (pv 1) (nomark _))))) pss_never pss_nil)))
  (pss_one (ps_ret (pe_cmpR op_eq (pe_call G hr (by rfl) mG kG bG .nil pass0 (pa_cons (pe_ix (ixT (K:=K)) (pv 0) pe_int (fun _ _=>rfl)) (pa_cons (pe_ix (ixT (K:=K)) (pv 0) pe_int (fun _ _=>rfl)) pa_nil))) pe_int (nomark _)))))),?_⟩
 have hp':H p=some (.tup [.int q.num,.int q.den]):=hp
 have dn:=q.den_nz
 refine ⟨_,_,rfl,rfl,⟨by decide,by decide,by decide⟩,?_⟩
 refine ⟨_,rfl,p,_,rfl,.inr (SqT.of hp'),rfl,_,rfl,iteF ?_⟩
 refine ⟨_,rfl,p,rfl,⟨_,SqT.of hp'⟩,?_⟩
 refine for_tup (xs:=[.int q.num,.int q.den]) (fun i σ H2=>H2=H∧∃ u,σ=[some (.ref p),some (.int (10 ^ ((40:Int).toNat))),u]) ⟨rfl,none,rfl⟩ (fun i σ H2 _ ⟨e,_⟩=>by rw [e]; exact SqT.of hp') ?_ ?_
 ·rintro i x σ H2 hx ⟨rfl,u,rfl⟩
  have key:∃ z:Int,x=.int z∧0<z∧z<10 ^ 40:=by
   match i,hx with
   | 0,hx=>exact ⟨_,(Option.some.inj hx).symm,e1,e2⟩
   | 1,hx=>exact ⟨_,(Option.some.inj hx).symm,by omega,e3⟩
  obtain ⟨z,rfl,z0,z1⟩:=key
  refine ⟨_,rfl,_,_,rfl,rfl,_,rfl,iteDF (show ¬ (z<1) by omega) ?_⟩
  refine ⟨_,rfl,_,rfl,_,_,rfl,rfl,_,rfl,iteDF (show ¬ ((10:Int) ^ ((40:Int).toNat)≤z) by rw [show ((40:Int).toNat)=40 from rfl]; omega) ?_⟩
  exact ⟨rfl,_,rfl⟩
 ·rintro σ H2 ⟨rfl,u,rfl⟩
  refine ⟨_,rfl,p,_,_,_,rfl,rfl,SqT.of hp',at0,_,rfl,p,_,_,_,rfl,rfl,SqT.of hp',at1,_,_,rfl,rfl,?_⟩
  have e:(Int.gcd q.num (q.den:Int):Int)=1:=by
   have:=q.reduced
   unfold Int.gcd
   rw [Int.natAbs_natCast]
   exact_mod_cast this
  rw [e]
  exact k
inductive SpBegR (vs:List V) (H:Hp) (Q:VK):Prop
 | mk (a:Addr) (t:List Int) (h_0:vs=[.ref a]) (h_1:H a=some (.tup (t.map V.int))) (h_2:t≠[]) (h_3:t.length≤1000) (h_4:∀ p H',Same H H'->H' p=some (.tup ((begL t).map V.int))->Q (.ref p) H'):SpBegR vs H Q
def spBeg:Sp:=fun vs H Q _=>SpBegR vs H Q
theorem scBe:FnScope ["turn","cut"] ["turn"] (defScope s_begun_least):=⟨rfl,rfl,rfl,by decide +kernel,rfl,by decide +kernel,by decide +kernel⟩
theorem ok_beg (F:Fun K "begun_least" "begun_least" s_begun_least f fd) (mn:mg "min" = none):FnOk P w K mg base CX0 1 f fd ["turn"] spBeg:=by
 refine F.ok scBe (fun vs H Q E h=>?_) (fun cdv A outer s H vs Q E hr h=>?_)
 ·obtain ⟨a,t,rfl,_⟩:=h
  rfl
 obtain ⟨a,t,rfl,ha,ht,hl,q⟩:=h
 refine ⟨_,pss_cons (ps_set (i:=1) scBe.nd rfl (Or.inl rfl) (pe_bmT PySem.F.plainAttrs_tuple PySem.F.slot_tuple_index PySem.F.type_tuple_index mt_indexT (pv 0) (pa_cons (pe_callB (call_minT rfl) (by rfl) mn bt_min (pa_cons (pv 0) pa_nil)) pa_nil)))
  (pss_one (ps_ret (pe_op op_catT (pe_slice (slTA (K:=K)) (pv 0) (po_some (pv 1)) po_none) (pe_slice (slTA (K:=K)) (pv 0) po_none (po_some (pv 1)))))),?_⟩
 have tl:0<t.length:=List.length_pos_iff.mpr ht
 refine ⟨_,rfl,⟨a,_,rfl,ha⟩,_,rfl,a,t,rfl,ha,tl,fun m mm mle=>?_⟩
 refine ⟨a,t,m,rfl,rfl,ha,mm,?_⟩
 have em:=leastL_is mm mle
 have hc:t.idxOf m<t.length:=List.idxOf_lt_length_iff.mpr mm
 have eb:begL t=t.drop (t.idxOf m)++t.take (t.idxOf m):=by unfold begL; rw [em]
 generalize t.idxOf m=c at hc eb
 refine ⟨_,rfl,_,rfl,_,rfl,a,_,rfl,SqT.of ha,fun z=>?_,fun z p hp=>?_⟩
 ·-- the whole turn
  have c0:c=0:=by rw [sIx_nat (by rw [List.length_map]; omega)] at z; exact z.1
  subst c0
  refine ⟨_,rfl,_,rfl,_,rfl,a,_,rfl,SqT.of ha,fun z2=>?_,fun z2 p2 hp2=>?_⟩
  ·have:=z2.2
   rw [sIx_nat (Nat.zero_le _),List.length_map] at this
   omega
  ·refine ⟨a,p2,_,[],rfl,rfl,SqT.of (same_new hp2 _ _ _ ha),?_,?_,?_,fun _=>?_,fun z3=>absurd rfl z3⟩
   ·rw [show cutV (t.map V.int) none (some ((0:Nat):Int))=[] by rw [cut_take _ (Nat.zero_le _)]; rfl]; exact SqT.of upd_same
   ·intro z4
    have:=congrArg List.length z4
    simp at this
    exact ht this
   ·rw [List.length_map]; exact szle (by simp; omega)
   ·refine q a _ (same_new hp2 _) ?_
    rw [eb]
    simpa using same_new hp2 _ _ _ ha
 ·have ec:cutV (t.map V.int) (some (c:Int)) none=(t.drop c).map V.int:=by rw [cut_drop _ (by rw [List.length_map]; omega),List.map_drop]
  rw [ec]
  have s1:=same_new hp (.tup ((t.drop c).map V.int))
  have g1:(upd H p (.tup ((t.drop c).map V.int))) p=some (.tup ((t.drop c).map V.int)):=upd_same
  generalize upd H p (.tup ((t.drop c).map V.int))=H1 at s1 g1
  have cn:c≠0:=fun e=>z (by subst e; rw [sIx_nat (Nat.zero_le _)]; exact ⟨rfl,rfl⟩)
  refine ⟨_,rfl,_,rfl,_,rfl,a,_,rfl,SqT.of (s1 _ _ ha),fun z2=>?_,fun z2 p2 hp2=>?_⟩
  ·have:=z2.2
   rw [sIx_nat (by rw [List.length_map]; omega),List.length_map] at this
   omega
  ·have ec2:cutV (t.map V.int) none (some (c:Int))=(t.take c).map V.int:=by rw [cut_take _ (by rw [List.length_map]; omega),List.map_take]
   rw [ec2]
   have s2:=same_new hp2 (.tup ((t.take c).map V.int))
   have g2:(upd H1 p2 (.tup ((t.take c).map V.int))) p2=some (.tup ((t.take c).map V.int)):=upd_same
   generalize upd H1 p2 (.tup ((t.take c).map V.int))=H2 at s2 g2
   refine ⟨p,p2,_,_,rfl,rfl,SqT.of (s2 _ _ g1),SqT.of g2,?_,?_,fun z3=>?_,fun _ p3 hp3=>?_⟩
   ·intro z4
    have:=congrArg List.length z4
    simp at this
    omega
   ·simp; exact szle (by omega)
   ·have:=congrArg List.length z3
    rw [List.length_map,List.length_take] at this
    have e0:([]:List V).length=0:=rfl
    omega
   ·refine q p3 _ (s1.trans (s2.trans (same_new hp3 _))) ?_
    rw [upd_same,eb,List.map_append]
inductive SpToldR (vs:List V) (H:Hp) (Q:VK):Prop
 | mk (a:Addr) (ts:List (List Int)) (h_0:vs=[.ref a]) (h_1:TupR IntsT H a ts) (h_2:ts.length≤1000) (h_3:(∀ t∈ts,t≠[]∧t.length≤1000)) (h_4:∀ p H',Same H H'->TupR IntsT H' p (ts.map begL)->Q (.ref p) H'):SpToldR vs H Q
def spTold:Sp:=fun vs H Q _=>SpToldR vs H Q
theorem scTo:FnScope ["turns"] ["turns"] (defScope s_told_turns):=⟨rfl,rfl,rfl,by decide +kernel,rfl,by decide +kernel,by decide +kernel⟩
theorem ndTurn:(["turn"]:List Str).Nodup:=by decide +kernel
theorem ok_told (F:Fun K "told_turns" "told_turns" s_told_turns f fd) (G:FnOk P w K mg base CX0 1 g gd ["turn"] spBeg) (bG:Binds K gd ["turn"] []) (kG:PySem.W.keepIn K (.ref g)=true) (mG:mg "begun_least" = some (.ref g)) (mt:mg "tuple" = none):FnOk P w K mg base CX0 2 f fd ["turns"] spTold:=by
 refine F.ok scTo (fun vs H Q E h=>?_) (fun cdv A outer s H vs Q E hr h=>?_)
 ·obtain ⟨a,ts,rfl,_⟩:=h
  rfl
 obtain ⟨a,ts,rfl,⟨bs,ha,hB⟩,hl,ht,q⟩:=h
 refine ⟨_,pss_one (ps_ret (pe_callTy (callTup (K:=K)) (by rfl) mt bt_tuple (pa_cons (pe_comp (Nc:=["turn"]) (cap:=[]) (g:=gName 0) (te:=tCall spBeg [] E0 (tCons (tVar 0) tNil)) rfl (piTup (K:=K) (pv 0))
   (comp_mk rfl rfl (by decide +kernel) (by decide +kernel) (List.forall_mem_nil _) rfl (List.forall_mem_nil _)) (fun C fp pins s' H'=>pg_name (i:=0) ndTurn rfl (Or.inl rfl))
   (fun C fp pins s' H'=>pe_call G hr (by rfl) mG kG bG .nil pass0 (pa_cons (pv 0) pa_nil))) pa_nil))),?_⟩
 have lb:bs.length=ts.length:=hB.1
 refine ⟨_,rfl,a,rfl,⟨_,SqT.of ha⟩,fun acc hacc=>?_⟩
 refine comp_run (run_tup ha) (by rw [List.length_map]; omega) hacc (fun i ys σ hp=>∃ ds:List Addr,ys=ds.map V.ref∧At IntsT hp ds ((ts.map begL).take i)∧∃ u,σ=[u]) ⟨[],rfl,At.nil,none,rfl⟩ ?_ ?_
 ·rintro i ys σ H3 x H4 hi sm hacc2 ⟨ds,rfl,hD,u,rfl⟩ ⟨rfl,hx⟩ Cc hC
  obtain ⟨c,t,rfl,_,hy,hc⟩:=hB.ref hx
  obtain ⟨t1,t2⟩:=ht t (List.mem_of_getElem? hy)
  refine ⟨_,rfl,c,t,rfl,sm _ _ hc,t1,t2,fun p H5 s5 hp=>?_⟩
  refine hC _ _ _ s5 ⟨ds++[p],by simp,?_,_,rfl⟩
  have ec:(ts.map begL)[i]?=some (begL t):=by rw [List.getElem?_map,hy]; rfl
  rw [take_snoc ec]
  exact (hD.keep mo_intsT (del_mono acc s5)).snoc (IntsT.del (t:=begL t) hp (s5 _ _ hacc2))
 ·rintro ys σ H4 s4 ha4 hl4 ⟨gs,rfl,hG,u,rfl⟩
  rw [List.length_map,lb,List.take_of_length_le (by rw [List.length_map]; exact Nat.le_refl _)] at hG
  refine ⟨acc,_,rfl,.inl ⟨SqL.of ha4,fun p hp=>?_⟩⟩
  have sp:=same_new hp (.tup (gs.map V.ref))
  exact q p _ (s4.trans sp) ⟨gs,upd_same,(hG.keep mo_intsT (del_sub H4 acc)).keep mo_intsT sp⟩
inductive SpLdtR (vs:List V) (H:Hp) (Q:VK):Prop
 | mk (s:Int) (a:Addr) (n:Nat) (rs:List Rope) (h_0:vs=[.int s,.ref a]) (h_1:InR n s) (h_2:n≤100) (h_3:TupR RopeR H a rs) (h_4:(∀ r∈rs,r.1<n∧r.2.1<n)) (h_5:∀ d l H',Same H H'->H' d=some (.dK (kvT l))->LedK n s rs l->(∀ r∈rs,((r.1:Int)∈l↔(r.2.1:Int)∈l))->Q (.ref d) H'):SpLdtR vs H Q
def spLdt:Sp:=fun vs H Q _=>SpLdtR vs H Q
theorem scLdt:FnScope ["start","ropes","met","before","rope"] ["start","ropes"] (defScope s_led_to):=⟨rfl,rfl,rfl,by decide +kernel,rfl,by decide +kernel,by decide +kernel⟩
theorem ok_ldt (F:Fun K "led_to" "led_to" s_led_to f fd) (ml:mg "len" = none):FnOk P w K mg base CX0 1 f fd ["start","ropes"] spLdt:=by
 refine F.ok scLdt (fun vs H Q E h=>?_) (fun cdv A outer s H vs Q E hr h=>?_)
 ·obtain ⟨s,a,n,rs,rfl,_⟩:=h
  rfl
 obtain ⟨s0,a,n,rs,rfl,hs,hn,⟨bs,ha,hB⟩,hrs,q⟩:=h
 have hu:=hu_of hr
 refine ⟨_,pss_cons (ps_set (i:=2) scLdt.nd rfl (Or.inl rfl) (pe_disp (pps_cons (pv 0) pe_bl pps_nil) rfl rfl (by simp) (by decide)))
  (pss_cons (ps_set (i:=3) scLdt.nd rfl (Or.inl rfl) pe_int)
  (pss_cons (ps_while PassesOwn.never (pt_cmpR op_lt (pv 3) (pe_callB call_lenD (by rfl) ml bt_len (pa_cons (pv 2) pa_nil)) (nomark _))
   (pss_cons (ps_set (i:=3) scLdt.nd rfl (Or.inl rfl) (pe_callB call_lenD (by rfl) ml bt_len (pa_cons (pv 2) pa_nil)))
   (pss_one (ps_for PassesOwn.never rfl (piTup (K:=K) (pv 1)) (pg_name (i:=4) scLdt.nd rfl (Or.inl rfl))
    (pss_one (ps_if (PW.pt (pw_or (pt_cmp (pc_din hu (pe_ix (ixT (K:=K)) (pv 4) pe_int (fun _ _=>rfl)) (pv 2))) (pw_or1 (pt_cmp (pc_din hu (pe_ix (ixT (K:=K)) (pv 4) pe_int (fun _ _=>rfl)) (pv 2))))))
     (pss_cons (ps_dput hu (pv 2) (pe_ix (ixT (K:=K)) (pv 4) pe_int (fun _ _=>rfl)) pe_bl rfl) (pss_one (ps_dput hu (pv 2) (pe_ix (ixT (K:=K)) (pv 4) pe_int (fun _ _=>rfl)) pe_bl rfl))) pss_nil))))))
  (pss_one (ps_ret (pv 2))))),?_⟩
 intro d hd
 refine ⟨_,rfl,upd_same,[(Sum.inl s0,.bl true)],rfl,by show 1≤15; decide,?_⟩
 have s1:Same H (upd (upd H d (.dK [])) d (.dK (mergeK [] [(Sum.inl s0,.bl true)]))):=(same_new hd _).up hd _
 have e1:(upd (upd H d (.dK [])) d (.dK (mergeK [] [((Sum.inl s0:Key),V.bl true)]))) d=some (.dK (kvT [s0])):=upd_same
 generalize upd (upd H d (.dK [])) d (.dK (mergeK [] [((Sum.inl s0:Key),V.bl true)]))=H1 at s1 e1
 refine while_by (fun σ H2=>∃ (l:List Int) (b:Nat) (u:Option V),σ=[some (.int s0),some (.ref a),some (.ref d),some (.int (b:Int)),u]∧Same H H2∧H2 d=some (.dK (kvT l))∧LedK n s0 rs l∧b≤l.length∧(b=l.length->∀ r∈rs,((r.1:Int)∈l↔(r.2.1:Int)∈l)))
  (fun σ _=>match σ with | [_,_,_,some (.int b),_]=>n+1-b.toNat | _=>0) ⟨[s0],0,none,rfl,s1,e1,⟨by simp,fun x hx=>by rw [List.mem_singleton] at hx; subst hx; exact hs,by simp,fun S h0 _ x hx=>by rw [List.mem_singleton] at hx; subst hx; exact h0⟩,Nat.zero_le _,fun z=>by simp at z⟩ ?_ ?_
 ·rintro σ H2 ⟨l,b,u,rfl,sm,hd2,k,hb,hcl⟩
  refine ⟨_,rfl,_,rfl,d,_,rfl,hd2,_,_,rfl,rfl,_,rfl,?_⟩
  rw [List.length_map]
  by_cases hlt:b<l.length
  ·refine iteDT (by omega) ?_
   refine ⟨_,rfl,d,_,rfl,hd2,?_⟩
   rw [List.length_map]
   try dsimp only
   try refine name_goH ?_
   first | refine seq_hide fun UL2 hUL2=>?_ | refine nx_hide fun UL2 hUL2=>?_
   refine ⟨_,rfl,a,rfl,⟨_,SqT.of (sm _ _ ha)⟩,?_⟩
   refine for_tup (xs:=bs.map V.ref) (fun i σ H3=>∃ (l':List Int) (u:Option V),σ=[some (.int s0),some (.ref a),some (.ref d),some (.int ((l.length:Nat):Int)),u]∧Same H H3∧H3 d=some (.dK (kvT l'))∧LedK n s0 rs l'∧l.length≤l'.length∧(l.length=l'.length->l'=l∧∀ r∈rs.take i,((r.1:Int)∈l↔(r.2.1:Int)∈l)))
    ⟨l,u,rfl,sm,hd2,k,Nat.le_refl _,fun _=>⟨rfl,by simp⟩⟩ (fun i σ H3 _ ⟨_,_,_,s3,_⟩=>SqT.of (s3 _ _ ha)) ?_ ?_
   ·rintro i x σ H3 hx ⟨l',u',rfl,s3,hd3,k3,le3,cl3⟩
    obtain ⟨c,r,rfl,_,hy,e,hc,he⟩:=hB.ref hx
    have hrm:r∈rs:=List.mem_of_getElem? hy
    obtain ⟨r1,r2⟩:=hrs r hrm
    have hc3:=s3 _ _ hc
    have in1:InR n (r.1:Int):=⟨by omega,by omega⟩
    have in2:InR n (r.2.1:Int):=⟨by omega,by omega⟩
    have go:∀ (hin:(r.1:Int)∈l'∨(r.2.1:Int)∈l'),∃ l2,LedK n s0 rs (addT l' r.1)∧(addT (addT l' r.1) r.2.1)=l2∧LedK n s0 rs l2∧l.length≤l2.length∧(l.length=l2.length->l2=l∧∀ r∈rs.take (i+1),((r.1:Int)∈l↔(r.2.1:Int)∈l)):=by
     intro hin
     have ka:=k3.add hrm hin (.inl rfl) in1
     have kb:=ka.add hrm (.inl (mem_addT.mpr (.inr rfl))) (.inr rfl) in2
     refine ⟨_,ka,rfl,kb,?_,fun hl=>?_⟩
     ·have:=(len_addT l' r.1).1
      have:=(len_addT (addT l' r.1) r.2.1).1
      omega
     ·have a1:=len_addT l' r.1
      have a2:=len_addT (addT l' r.1) r.2.1
      have b1:=a1.2 (by omega)
      have b2:=a2.2 (by omega)
      obtain ⟨rfl,c2⟩:=cl3 (by omega)
      refine ⟨by rw [b2,b1],fun r' hr'=>?_⟩
      rw [take_snoc hy] at hr'
      rcases List.mem_append.mp hr' with z | z
      ·exact c2 r' z
      ·rw [List.mem_singleton] at z
       subst z
       have m1:(r'.1:Int)∈l':=by rw [←b1]; exact mem_addT.mpr (.inr rfl)
       have m2:(r'.2.1:Int)∈l':=by rw [b1] at b2; rw [←b2]; exact mem_addT.mpr (.inr rfl)
       exact ⟨fun _=>m2,fun _=>m1⟩
    refine ⟨_,rfl,c,_,_,_,rfl,rfl,SqT.of hc3,t3_0 _ _ _,_,rfl,d,_,rfl,DGet.k (k:=Sum.inl (r.1:Int)) hd3,_,rfl,?_⟩
    have cd:c≠d:=fun z=>by rw [z,hd3] at hc3; cases hc3
    have sz3:(kvT l').length<sizeLine:=by rw [List.length_map]; have:=k3.len; exact szl (by omega)
    have fin:∀ (hin:(r.1:Int)∈l'∨(r.2.1:Int)∈l') (o:HO),∃ (l'':List Int) (u:Option V),[some (.int s0),some (.ref a),some (.ref d),some (.int ((l.length:Nat):Int)),some (V.ref c)]=[some (.int s0),some (.ref a),some (.ref d),some (.int ((l.length:Nat):Int)),u]∧Same H (upd (upd H3 d o) d (.dK (putK (kvT (addT l' r.1)) (Sum.inl (r.2.1:Int):Key) (.bl true))))∧(upd (upd H3 d o) d (.dK (putK (kvT (addT l' r.1)) (Sum.inl (r.2.1:Int):Key) (.bl true)))) d=some (.dK (kvT l''))∧LedK n s0 rs l''∧l.length≤l''.length∧(l.length=l''.length->l''=l∧∀ r∈rs.take (i+1),((r.1:Int)∈l↔(r.2.1:Int)∈l)):=by
     intro hin o
     obtain ⟨l2,ka,e2,kb,c1,c2⟩:=go hin
     refine ⟨l2,_,rfl,(s3.up hd _).up hd _,?_,kb,c1,c2⟩
     rw [upd_same,put_addT,e2]
    have puts:∀ (hin:(r.1:Int)∈l'∨(r.2.1:Int)∈l'),LedK n s0 rs (addT l' r.1):=fun hin=>(go hin).elim fun _ z=>z.1
    rw [val_kvT]
    by_cases h1:(r.1:Int)∈l'
    ·rw [if_pos h1]
     refine iteT (iteT ?_)
     refine ⟨_,rfl,_,rfl,c,_,_,_,rfl,rfl,SqT.of hc3,t3_0 _ _ _,d,_,rfl,DPut.k (k:=Sum.inl (r.1:Int)) hd3 sz3,?_⟩
     rw [put_addT]
     refine ⟨_,rfl,_,rfl,c,_,_,_,rfl,rfl,SqT.of (by rw [upd_ne cd]; exact hc3),t3_1 _ _ _,d,_,rfl,DPut.k (k:=Sum.inl (r.2.1:Int)) upd_same (by rw [List.length_map]; have:=(puts (.inl h1)).len; exact szl (by omega)),?_⟩
     exact fin (.inl h1) _
    ·rw [if_neg h1]
     refine iteF ?_
     refine ⟨_,rfl,c,_,_,_,rfl,rfl,SqT.of hc3,t3_1 _ _ _,_,rfl,d,_,rfl,DGet.k (k:=Sum.inl (r.2.1:Int)) hd3,_,rfl,?_⟩
     rw [val_kvT]
     by_cases h2:(r.2.1:Int)∈l'
     ·rw [if_pos h2]
      refine iteT ?_
      refine ⟨_,rfl,_,rfl,c,_,_,_,rfl,rfl,SqT.of hc3,t3_0 _ _ _,d,_,rfl,DPut.k (k:=Sum.inl (r.1:Int)) hd3 sz3,?_⟩
      rw [put_addT]
      refine ⟨_,rfl,_,rfl,c,_,_,_,rfl,rfl,SqT.of (by rw [upd_ne cd]; exact hc3),t3_1 _ _ _,d,_,rfl,DPut.k (k:=Sum.inl (r.2.1:Int)) upd_same (by rw [List.length_map]; have:=(puts (.inr h2)).len; exact szl (by omega)),?_⟩
      exact fin (.inr h2) _
     ·rw [if_neg h2]
      refine iteF ?_
      refine ⟨l',_,rfl,s3,hd3,k3,le3,fun z=>?_⟩
      obtain ⟨rfl,c2⟩:=cl3 z
      refine ⟨rfl,fun r' hr'=>?_⟩
      rw [take_snoc hy] at hr'
      rcases List.mem_append.mp hr' with z | z
      ·exact c2 r' z
      ·rw [List.mem_singleton] at z
       subst z
       exact ⟨fun z=>absurd z h1,fun z=>absurd z h2⟩
   ·rintro σ H3 ⟨l',u',rfl,s3,hd3,k3,le3,cl3⟩
    subst hUL2
    rw [List.length_map,hB.1,List.take_length] at cl3
    refine ⟨⟨l',l.length,_,rfl,s3,hd3,k3,le3,fun z=>?_⟩,?_⟩
    ·obtain ⟨rfl,c2⟩:=cl3 z
     exact c2
    ·have:=k.len
     show n+1-((l.length:Nat):Int).toNat<n+1-((b:Nat):Int).toNat
     omega
  ·refine iteDF (by omega) ?_
   exact ⟨_,rfl,q d l H2 sm hd2 k (hcl (by omega))⟩
 ·rintro σ H2 Q1 Q2 hq ⟨v,e,v',e',d',kv,z1,z2,y,y2,z3,z4,b,z5,z⟩
  exact ⟨v,e,v',e',d',kv,z1,z2,y,y2,z3,z4,b,z5,hq _ _ z⟩
end
end My
namespace My
open PySem L2 Mth Wd
section
variable {P:Program} {w:World} {K:PySem.W.Frag} {mg:Str->Option Value} {base:Heap} {f g h f1 f2 f3 f4 C fI:Addr} {fd gd hd d1 d2 d3 d4 dI:FuncData}
def spLin (C:Addr):Sp:=fun vs H Q _=>∃ (e t:Addr) (y:V),vs=[.ref e,y]∧H e=some (excN e C t)∧∀ d,H d=none->Q .non (upd (upd H e (excF e C t d)) d (.xd [("place",y)]))
theorem scLin:FnScope ["self","place"] ["self","place"] (defScope sLInit):=⟨rfl,rfl,rfl,by decide +kernel,rfl,by decide +kernel,by decide +kernel⟩
theorem ok_lin (F:Fun K "__init__" "Loose.__init__" sLInit f fd) (xs:XStore K C "place"):FnOk P w K mg base CX0 1 f fd ["self","place"] (spLin C):=by
 refine F.ok scLin (fun vs H Q E h=>?_) (fun cdv A outer s H vs Q E hr h=>?_)
 ·obtain ⟨e,t,y,rfl,_⟩:=h
  rfl
 obtain ⟨e,t,y,rfl,he,q⟩:=h
 refine ⟨_,pss_one (ps_fldX (pv 0) (pv 1) rfl),?_⟩
 exact ⟨_,rfl,_,rfl,e,C,t,rfl,he,xs,q⟩
def spHgX (C:Addr):Sp:=fun vs H Q E=>∃ (n:Nat) (a:Addr) (rs:List Rope),vs=[.int (n:Int),.ref a]∧0<n∧n≤100∧TupR RopeR H a rs∧(∀ r∈rs,r.1<n∧r.2.1<n)∧(∀ H',Same H H'->E (.ref C) none H')∧(Hang n rs->∀ H',Same H H'->Q .non H')
theorem scHa:FnScope ["places","ropes","met","place"] ["places","ropes"] (defScope s_check_hanging):=⟨rfl,rfl,rfl,by decide +kernel,rfl,by decide +kernel,by decide +kernel⟩
theorem ok_hgX (F:Fun K "check_hanging" "check_hanging" s_check_hanging f fd) (G:FnOk P w K mg base CX0 1 g gd ["start","ropes"] spLdt) (bG:Binds K gd ["start","ropes"] []) (kG:PySem.W.keepIn K (.ref g)=true) (mG:mg "led_to" = some (.ref g)) (mr:mg "range" = none)
  (GI:FnOk P w K mg base CX0 1 fI dI ["self","place"] (spLin C)) (bI:Binds K dI ["self","place"] []) (iI:PySem.W.isFn K (.ref fI)=true) (mC:mg "Loose" = some (.ref C)) (xC:excI K C [.type "ValueError",.type "Exception",.type "BaseException",.type "object"] "ValueError.__new__" fI=true):FnOk P w K mg base (CXr P w) 3 f fd ["places","ropes"] (spHgX C):=by
 refine okX F scHa (fun vs H Q E h=>?_) (fun cdv A outer s H vs Q E hr h=>?_)
 ·obtain ⟨n,a,rs,rfl,_⟩:=h
  rfl
 obtain ⟨n,a,rs,rfl,n0,hn,hT,hrs,qE,qN⟩:=h
 have hu:=hu_of hr
 have r1:=hr.mono (show 1≤2 by decide)
 refine ⟨_,pss_cons (ps_set (i:=2) scHa.nd rfl (Or.inl rfl) (pe_call G r1 (by rfl) mG kG bG .nil pass0 (pa_cons pe_int (pa_cons (pv 1) pa_nil))))
  (pss_one (ps_for PassesOwn.leaving rfl (pi_range1 (by rfl) mr (pa_cons (pv 0) pa_nil)) (pg_name (i:=3) scHa.nd rfl (Or.inl rfl))
   (pss_one (ps_if (pt_cmp (pc_dnotin hu (pv 3) (pv 2))) (pss_one (ps_raiseI (by rfl) mC xC PySem.F.excBase_ValueError rfl raise_outI GI hr bI iI (pa_cons (pv 3) pa_nil))) pss_nil)))),?_⟩
 refine ⟨_,rfl,0,a,n,rs,rfl,⟨by omega,by omega⟩,hn,hT,hrs,fun d l H1 s1 hd k cl=>?_⟩
 refine ⟨_,rfl,(n:Int),rfl,by omega,by omega,?_⟩
 rw [show ((n:Int)).toNat=n by omega]
 refine for_range (n:=n) (fun i σ H2=>H2=H1∧(∀ p:Nat,p<i->(p:Int)∈l)∧∃ u,σ=[some (.int n),some (.ref a),some (.ref d),u]) ⟨rfl,fun p hp=>absurd hp (Nat.not_lt_zero _),none,rfl⟩ ?_ ?_
 ·rintro i σ H2 hi ⟨rfl,al,u,rfl⟩
  refine ⟨_,rfl,_,rfl,d,_,rfl,DGet.k (k:=Sum.inl ((0:Int)+(i:Nat))) hd,_,rfl,?_⟩
  rw [val_kvT,show (0:Int)+(i:Nat)=(i:Int) by omega]
  by_cases hin:(i:Int)∈l
  ·rw [if_pos hin]
   refine iteF ⟨rfl,fun p hp=>?_,_,rfl⟩
   rcases Nat.lt_or_ge p i with z | z
   ·exact al p z
   ·obtain rfl:p=i:=by omega
    exact hin
  ·rw [if_neg hin]
   refine iteT ?_
   refine ⟨_,rfl,by show 1≤sizeLine; decide,fun e t he=>?_⟩
   refine ⟨e,t,_,rfl,upd_same,fun d2 hd2=>⟨rfl,⟨d2,?_⟩,qE _ fun b o q=>?_⟩⟩
   ·have:e≠d2:=fun z=>by rw [z,upd_same] at hd2; cases hd2
    rw [upd_ne this,upd_same]
   ·have q2:=s1 _ _ q
    have ne:b≠e:=ne_of_none q2 he
    have nd:b≠d2:=fun z=>by rw [z] at q2; rw [upd_ne (fun y=>by rw [y] at q2; rw [he] at q2; cases q2),q2] at hd2; cases hd2
    rw [del_ne ne,upd_ne nd,upd_ne ne,upd_ne ne]
    exact q2
 ·rintro σ H2 ⟨rfl,al,u,rfl⟩
  refine qN (fun S h0 hS p hp=>?_) _ s1
  have:=k.least (fun x=>∀ m:Nat,x=(m:Int)->S m) (fun m hm=>by obtain rfl:m=0:=(by omega); exact h0) (fun r hr=>?_) (p:Int) (al p hp) p rfl
  ·exact this
  ·have:=hS r hr
   constructor
   ·intro z m hm
    obtain rfl:m=r.2.1:=by omega
    exact this.mp (z _ rfl)
   ·intro z m hm
    obtain rfl:m=r.1:=by omega
    exact this.mpr (z _ rfl)
end
end My
namespace My
open PySem L2 Mth Wd
section
variable {K:PySem.W.Frag}
theorem comp_runF {J:It} {n:Nat} {H1:Hp} {f:Nat->Hp->V->Hp->Prop} {acc:Addr} {σ0:St} {g:TG} {tt:TT} {te:TE} {G:Hp->Prop} (r:Run J H1 n f) (hn:n≤1000) (hacc:H1 acc=none) (Iv:Nat->List V->St->Hp->Prop) (h0:Iv 0 [] σ0 H1)
  (hs:∀ (i:Nat) (ys:List V) (σ:St) (H2:Hp) (x:V) (H3:Hp),i<n->Same H1 H2->H2 acc=some (.lst ys)->Iv i ys σ (del H2 acc)->f i H2 x H3->∀ (C:St->VK) (N:St->Hp->Prop),(∀ (σ4:St) (v:V) (H5:Hp),Same H2 H5->Iv (i+1) (ys++[v]) σ4 (del H5 acc)->C σ4 v H5)->(∀ (σ4:St) (H5:Hp),Same H2 H5->Iv (i+1) ys σ4 (del H5 acc)->N σ4 H5) →
   g x σ H3 fun σ4 H4=>tt σ4 H4 fun ok H5=>if ok=true then te σ4 H5 (C σ4) else N σ4 H5)
  (fin:∀ (ys:List V) (σ:St) (H2:Hp),Same H1 H2->H2 acc=some (.lst ys)->Iv n ys σ (del H2 acc)->G H2) :
  ∃ W:Nat->Nat->List V->St->Hp->Prop,(∃ m,W 0 m [] σ0 (upd H1 acc (.lst [])))∧∀ i m ys σc H2,W i m ys σc H2 →
   (J.stop i H2∧G H2)∨(J.go i H2∧∀ x H3,J.yld i H2 x H3->g x σc H3 fun σ4 H4=>tt σ4 H4 fun ok H5=>if ok=true then (te σ4 H5 fun v H6=>H6 acc=some (.lst ys)∧ys.length<sizeLine∧∃ m',m' < m∧W (i+1) m' (ys++[v]) σ4 (upd H6 acc (.lst (ys++[v])))) else ∃ m',m' < m∧W (i+1) m' ys σ4 H5):=by
 refine ⟨fun i m ys σ H2=>m=n-i∧i≤n∧Same H1 H2∧H2 acc=some (.lst ys)∧ys.length≤i∧Iv i ys σ (del H2 acc),⟨n,rfl,Nat.zero_le _,?_,upd_same,Nat.le_refl _,?_⟩,?_⟩
 ·intro b o e; rw [upd_ne (ne_of_none e hacc)]; exact e
 ·rw [del_upd,del_new hacc]; exact h0
 ·rintro i m ys σc H2 ⟨rfl,hi,sm,ha,hl,iv⟩
  rcases Nat.lt_or_ge i n with hlt | hge
  ·refine .inr ⟨r.go i H2 hlt sm,fun x H3 yl=>?_⟩
   refine hs i ys σc H2 x H3 hlt sm ha iv (r.yl i H2 x H3 hlt sm yl) (fun σ4 v H5=>H5 acc=some (.lst ys)∧ys.length<sizeLine∧∃ m',m' < n-i∧(m'=n-(i+1)∧i+1≤n∧Same H1 (upd H5 acc (.lst (ys++[v])))∧(upd H5 acc (.lst (ys++[v]))) acc=some (.lst (ys++[v]))∧(ys++[v]).length≤i+1∧Iv (i+1) (ys++[v]) σ4 (del (upd H5 acc (.lst (ys++[v]))) acc)))
    (fun σ4 H5=>∃ m',m' < n-i∧(m'=n-(i+1)∧i+1≤n∧Same H1 H5∧H5 acc=some (.lst ys)∧ys.length≤i+1∧Iv (i+1) ys σ4 (del H5 acc))) ?_ ?_
   ·intro σ4 v H5 s5 iv5
    refine ⟨s5 _ _ ha,by rw [sizeLine_eq]; omega,n-(i+1),by omega,rfl,hlt,?_,upd_same,by rw [List.length_append,List.length_singleton]; omega,?_⟩
    ·intro b o e; rw [upd_ne (ne_of_none e hacc)]; exact s5 _ _ (sm _ _ e)
    ·rw [del_upd]; exact iv5
   ·intro σ4 H5 s5 iv5
    exact ⟨n-(i+1),by omega,rfl,hlt,sm.trans s5,s5 _ _ ha,by omega,iv5⟩
  ·obtain rfl:i=n:=by omega
   exact .inl ⟨r.st H2 sm,fin ys σc H2 sm ha iv⟩
end
end My
namespace L2
open PySem PySem.Spec PyProof.Rows PySem.W
section
def rCatB:R2:=fun x y H Q=>∃ a b xs ys,x=.ref a∧y=.ref b∧H a=some (.tup xs)∧H b=some (.tup ys)∧xs.length+ys.length≤sizeLine∧∀ p H',Same H H'->H' p=some (.tup (xs++ys))->Q (.ref p) H'
theorem op_catB {X:Cx}:OpR X (binaryOp .Add) rCatB:=by
 intro pins s σ H x y v u Q I rx ry h
 obtain ⟨a,b,xs,ys,rfl,rfl,ha,hb,hz,q⟩:=h
 by_cases hy:ys=[]
 ·by_cases hx:xs=[]
  ·subst hx hy
   cases rx
   cases ry
   obtain ⟨its,r1,p1,_⟩:=I.tuple (SqT.of ha)
   obtain ⟨its2,r2,p2,_⟩:=I.tuple (SqT.of hb)
   have e0:its=[]:=r1.nil_iff.mpr rfl
   obtain ⟨⟨cls,dd,data,sl⟩,ho,hc,n,hd⟩:=id p1
   obtain ⟨⟨cls2,dd2,data2,sl2⟩,ho2,hc2,n2,hd2⟩:=id p2
   simp only at hc hd hc2 hd2
   subst hc hd hc2 hd2
   exact concat_meets ⟨_,ho,rfl⟩ ⟨_,ho2,rfl⟩ noFill_tuple_add seq_tuple_add PySem.F.slot_tuple_add PySem.F.entry_tuple_add (PySem.F.args_tuple_add_2 _ _)
    (tuple_addW0 a b its.toArray its2.toArray n n2 dd dd2 sl sl2 (by simp [e0])) ⟨ho,ho2,⟨.ref b,H,I,rfl,q b H (Same.refl _) hb⟩⟩
  ·exact op_catT pins s σ H _ _ v u Q I rx ry ⟨a,b,xs,ys,rfl,rfl,SqT.of ha,SqT.of hb,hx,hz,fun z=>q a H (Same.refl _) (by rw [z,List.append_nil]; exact ha),fun z=>absurd hy z⟩
 ·exact op_catA pins s σ H _ _ v u Q I rx ry ⟨a,b,xs,ys,rfl,rfl,SqT.of ha,SqT.of hb,hy,hz,fun z=>q b H (Same.refl _) (by rw [z,List.nil_append]; exact hb),fun _ p hp=>q p _ (My.same_new hp _) upd_same⟩
end
end L2
namespace My
open PySem L2 Mth Wd
theorem rope_up {H:Hp} {l:Addr} {xs:List V} {o:HO} {cs:List Addr} {rs:List Rope} (h:At RopeR H cs rs) (hl:H l=some (.lst xs)):At RopeR (upd H l o) cs rs:=⟨h.1,fun i b x e1 e2=>by
 obtain ⟨e,h1,h2⟩:=h.2 i b x e1 e2
 have h3:H e=some (.tup [.int x.2.2.num,.int x.2.2.den]):=h2
 have nb:b≠l:=fun z=>by rw [z,hl] at h1; cases h1
 have ne:e≠l:=fun z=>by rw [z,hl] at h3; cases h3
 exact ⟨e,by rw [upd_ne nb]; exact h1,show upd H l o e=_ by rw [upd_ne ne]; exact h3⟩⟩
section
variable {P:Program} {w:World} {K:PySem.W.Frag} {mg:Str->Option Value} {base:Heap} {f g h f1 f2 f3 f4:Addr} {fd gd hd d1 d2 d3 d4:FuncData}
def spCrn:Sp:=fun vs H Q _=>∃ (a:Addr) (xs:List V) (k:Nat),vs=[.ref a,.int (k:Int)]∧H a=some (.tup xs)∧k<xs.length∧Q .non H
theorem scCn:FnScope ["ropes","number"] ["ropes","number"] (defScope s_check_rope_number):=⟨rfl,rfl,rfl,by decide +kernel,rfl,by decide +kernel,by decide +kernel⟩
theorem ok_crn (F:Fun K "check_rope_number" "check_rope_number" s_check_rope_number f fd) (ml:mg "len" = none):FnOk P w K mg base CX0 1 f fd ["ropes","number"] spCrn:=by
 refine F.ok scCn (fun vs H Q E h=>?_) (fun cdv A outer s H vs Q E hr h=>?_)
 ·obtain ⟨a,xs,k,rfl,_⟩:=h
  rfl
 obtain ⟨a,xs,k,rfl,ha,hk,q⟩:=h
 refine ⟨_,pss_one (ps_if (PW.pt (pw_or (pt_cmpR op_lt (pv 1) pe_int (nomark _)) (pw_or1 (pt_cmpR op_ge (pv 1) (pe_callB (callLen (K:=K)) (by rfl) ml bt_len (pa_cons (pv 0) pa_nil)) (nomark _))))) pss_never pss_nil),?_⟩
 refine ⟨_,rfl,_,_,rfl,rfl,_,rfl,iteDF (show ¬ ((k:Int)<0) by omega) ?_⟩
 refine ⟨_,rfl,_,rfl,a,_,rfl,.inr (SqT.of ha),_,_,rfl,rfl,_,rfl,iteDF (show ¬ ((xs.length:Int)≤(k:Int)) by omega) ?_⟩
 exact q
inductive SpEasedR (vs:List V) (H:Hp) (Q:VK):Prop
 | mk (a b:Addr) (n k:Nat) (rs:List Rope) (ts:List (List Int)) (r:Rope) (x:Rat) (h_0:vs=[.ref a,.int (k:Int),.ref b]) (h_1:NetT H a n rs ts) (h_2:Trn n rs ts) (h_3:n≤100) (h_4:rs.length≤100) (h_5:rs[k]?=some r) (h_6:FrR H b x) (h_7:EaseK x) (h_8:∀ p H',Same H H'->NetR H' p n (rs.set k (r.1,r.2.1,x))->Q (.ref p) H'):SpEasedR vs H Q
def spEased:Sp:=fun vs H Q _=>SpEasedR vs H Q
theorem scEd:FnScope ["net","rope","ease","ropes"] ["net","rope","ease"] (defScope s_eased):=⟨rfl,rfl,rfl,by decide +kernel,rfl,by decide +kernel,by decide +kernel⟩
theorem ok_eased (F:Fun K "eased" "eased" s_eased f fd) (G1:FnOk P w K mg base CX0 1 f1 d1 ["ropes","number"] spCrn) (b1:Binds K d1 ["ropes","number"] []) (k1:PySem.W.keepIn K (.ref f1)=true) (m1:mg "check_rope_number" = some (.ref f1))
  (G2:FnOk P w K mg base CX0 2 f2 d2 ["ease"] spIsE) (b2:Binds K d2 ["ease"] []) (k2:PySem.W.keepIn K (.ref f2)=true) (m2:mg "is_ease" = some (.ref f2))
  (G3:FnOk P w K mg base CX0 2 f3 d3 ["turns"] spTold) (b3:Binds K d3 ["turns"] []) (k3:PySem.W.keepIn K (.ref f3)=true) (m3:mg "told_turns" = some (.ref f3)) (mi:mg "list" = none) (mt:mg "tuple" = none) :
  FnOk P w K mg base CX0 3 f fd ["net","rope","ease"] spEased:=by
 refine F.ok scEd (fun vs H Q E h=>?_) (fun cdv A outer s H vs Q E hr h=>?_)
 ·obtain ⟨a,b,n,k,rs,ts,r,x,rfl,_⟩:=h
  rfl
 obtain ⟨a,b,n,k,rs,ts,r,x,rfl,⟨ra,ta,ha,⟨cs,hra,hC⟩,hT⟩,tr,hn,hm,hk,hb,ex,q⟩:=h
 have hr1:=hr.mono (show 1≤2 by decide)
 refine ⟨_,pss_cons (ps_expr (pe_call G1 hr1 (by rfl) m1 k1 b1 .nil pass0 (pa_cons (pe_ix (ixT (K:=K)) (pv 0) pe_int (fun _ _=>rfl)) (pa_cons (pv 1) pa_nil))))
  (pss_cons (ps_if (pt_not (pt_val (pe_call G2 hr (by rfl) m2 k2 b2 .nil pass0 (pa_cons (pv 2) pa_nil)))) pss_never pss_nil)
  (pss_cons (ps_set (i:=3) scEd.nd rfl (Or.inl rfl) (pe_callTy (callLst (K:=K)) (by rfl) mi bt_list (pa_cons (pe_ix (ixT (K:=K)) (pv 0) pe_int (fun _ _=>rfl)) pa_nil)))
  (pss_cons (ps_asg (pe_tup (pa_cons (pe_ix (ixT (K:=K)) (pe_ix (ixL (K:=K)) (pv 3) (pv 1) (fun _ _=>rfl)) pe_int (fun _ _=>rfl)) (pa_cons (pe_ix (ixT (K:=K)) (pe_ix (ixL (K:=K)) (pv 3) (pv 1) (fun _ _=>rfl)) pe_int (fun _ _=>rfl)) (pa_cons (pv 2) pa_nil)))) (pg_sub (pv 3) (pv 1) set_list))
  (pss_one (ps_ret (pe_tup (pa_cons (pe_ix (ixT (K:=K)) (pv 0) pe_int (fun _ _=>rfl)) (pa_cons (pe_callTy (callTup (K:=K)) (by rfl) mt bt_tuple (pa_cons (pv 3) pa_nil)) (pa_cons (pe_call G3 hr (by rfl) m3 k3 b3 .nil pass0 (pa_cons (pe_ix (ixT (K:=K)) (pv 0) pe_int (fun _ _=>rfl)) pa_nil)) pa_nil))))))))),?_⟩
 have lc:cs.length=rs.length:=hC.1
 have hkl:k<rs.length:=(List.getElem?_eq_some_iff.mp hk).1
 obtain ⟨c,hc,e,hce,hee⟩:=hC.get hk
 refine ⟨_,rfl,a,_,_,_,rfl,rfl,SqT.of ha,t3_1 _ _ _,_,rfl,ra,_,k,rfl,hra,by rw [List.length_map]; omega,?_⟩
 refine ⟨_,rfl,b,x,rfl,hb,ex,_,rfl,iteF ?_⟩
 refine ⟨_,rfl,a,_,_,_,rfl,rfl,SqT.of ha,t3_1 _ _ _,ra,_,rfl,.inr (SqT.of hra),fun l hl=>?_⟩
 have s1:=same_new hl (.lst (cs.map V.ref))
 have g1:(upd H l (.lst (cs.map V.ref))) l=some (.lst (cs.map V.ref)):=upd_same
 generalize upd H l (.lst (cs.map V.ref))=H1 at s1 g1
 have hcr:=ref_at hc
 refine ⟨_,rfl,_,rfl,l,_,_,_,rfl,rfl,SqL.of g1,atI_nat hcr,c,_,_,_,rfl,rfl,SqT.of (s1 _ _ hce),t3_0 _ _ _,?_⟩
 refine ⟨_,rfl,_,rfl,l,_,_,_,rfl,rfl,SqL.of g1,atI_nat hcr,c,_,_,_,rfl,rfl,SqT.of (s1 _ _ hce),t3_1 _ _ _,?_⟩
 refine ⟨_,rfl,by show 3≤sizeLine; decide,fun p hp=>?_⟩
 have s2:=same_new hp (.tup [.int (r.1:Int),.int (r.2.1:Int),.ref b])
 have g2:(upd H1 p (.tup [.int (r.1:Int),.int (r.2.1:Int),.ref b])) p=some (.tup [.int (r.1:Int),.int (r.2.1:Int),.ref b]):=upd_same
 generalize upd H1 p (.tup [.int (r.1:Int),.int (r.2.1:Int),.ref b])=H2 at s2 g2
 have rp:RopeR H2 p (r.1,r.2.1,x):=⟨b,g2,s2 _ _ (s1 _ _ hb)⟩
 refine ⟨_,rfl,_,rfl,⟨l,_,_,k,rfl,rfl,s2 _ _ g1,by rw [List.length_map]; exact ixN_nat (by omega),?_⟩⟩
 have hC2:At RopeR H2 (cs.set k p) (rs.set k (r.1,r.2.1,x)):=(hC.keep mo_rope (s1.trans s2)).set k rp
 have eM:(cs.map V.ref).set k (V.ref p)=(cs.set k p).map V.ref:=List.map_set.symm
 rw [eM]
 have s3:Same H (upd H2 l (.lst ((cs.set k p).map V.ref))):=same_up (s1.trans s2) hl _
 have g3:(upd H2 l (.lst ((cs.set k p).map V.ref))) l=some (.lst ((cs.set k p).map V.ref)):=upd_same
 have hC3:At RopeR (upd H2 l (.lst ((cs.set k p).map V.ref))) (cs.set k p) (rs.set k (r.1,r.2.1,x)):=rope_up hC2 (s2 _ _ g1)
 generalize upd H2 l (.lst ((cs.set k p).map V.ref))=H3 at s3 g3 hC3
 refine ⟨_,rfl,a,_,_,_,rfl,rfl,SqT.of (s3 _ _ ha),t3_0 _ _ _,_,rfl,l,_,rfl,.inl ⟨SqL.of g3,fun p4 hp4=>?_⟩⟩
 have s4:=same_new hp4 (.tup ((cs.set k p).map V.ref))
 have g4:TupR RopeR (upd H3 p4 (.tup ((cs.set k p).map V.ref))) p4 (rs.set k (r.1,r.2.1,x)):=⟨_,upd_same,hC3.keep mo_rope s4⟩
 generalize upd H3 p4 (.tup ((cs.set k p).map V.ref))=H4 at s4 g4
 have s04:=s3.trans s4
 refine ⟨_,rfl,a,_,_,_,rfl,rfl,SqT.of (s04 _ _ ha),t3_2 _ _ _,ta,ts,rfl,mo_tup (R:=IntsT) mo_intsT s04 hT,by have:=tr.len; omega,fun t ht=>⟨tr.ne t ht,by have:=tr.lens t ht; omega⟩,fun p5 H5 s5 _=>⟨by show 3≤sizeLine; decide,fun p6 hp6=>?_⟩⟩
 have s6:=same_new hp6 (.tup [.int (n:Int),.ref p4,.ref p5])
 exact q p6 _ (s04.trans (s5.trans s6)) ⟨p4,.ref p5,upd_same,mo_tup (R:=RopeR) mo_rope (s5.trans s6) g4⟩
end
end My
namespace My
open PySem L2 Mth Wd
theorem slT_take {K:PySem.W.Frag} {H:Hp} {a:Addr} {xs:List V} {k:Nat} {Q:VK} (hk:k≤xs.length) (ha:H a=some (.tup xs)) (q:∀ p H',Same H H'->H' p=some (.tup (xs.take k))->Q (.ref p) H'):rSlTA K (.ref a) none (some (k:Int)) H Q:=by
 refine ⟨a,xs,rfl,SqT.of ha,fun z=>?_,fun _ p hp=>?_⟩
 ·have z2:=z.2
  rw [sIx_nat hk] at z2
  exact q a H (Same.refl _) (by rw [List.take_of_length_le (by omega)]; exact ha)
 ·rw [cut_take _ hk]
  exact q p _ (same_new hp _) upd_same
theorem slT_drop {K:PySem.W.Frag} {H:Hp} {a:Addr} {xs:List V} {k:Nat} {Q:VK} (hk:k≤xs.length) (ha:H a=some (.tup xs)) (q:∀ p H',Same H H'->H' p=some (.tup (xs.drop k))->Q (.ref p) H'):rSlTA K (.ref a) (some (k:Int)) none H Q:=by
 refine ⟨a,xs,rfl,SqT.of ha,fun z=>?_,fun _ p hp=>?_⟩
 ·have z2:=z.1
  rw [sIx_nat hk] at z2
  exact q a H (Same.refl _) (by rw [z2]; exact ha)
 ·rw [cut_drop _ hk]
  exact q p _ (same_new hp _) upd_same
theorem hang_has {n p:Nat} {rs:List Rope} (two:2≤n) (g:Hang n rs) (hp:p<n):∃ r∈rs,p=r.1∨p=r.2.1:=by
 refine Classical.byContradiction fun no=>?_
 have no':∀ r∈rs,r.1≠p∧r.2.1≠p:=fun r hr=>⟨fun z=>no ⟨r,hr,.inl z.symm⟩,fun z=>no ⟨r,hr,.inr z.symm⟩⟩
 by_cases h0:p=0
 ·subst h0
  have:=g (fun q=>q=0) rfl (fun r hr=>⟨fun z=>absurd z (no' r hr).1,fun z=>absurd z (no' r hr).2⟩) 1 (by omega)
  cases this
 ·exact g (fun q=>q≠p) (fun z=>h0 z.symm) (fun r hr=>⟨fun _=>(no' r hr).2,fun _=>(no' r hr).1⟩) p hp rfl
theorem cut_mem {rs:List Rope} {k:Nat} {r:Rope} (h:r∈rs.take k++rs.drop (k+1)):∃ j:Nat,j≠k∧rs[j]?=some r:=by
 rcases List.mem_append.mp h with z | z
 ·obtain ⟨j,hj⟩:=List.mem_iff_getElem?.mp z
  have hl:=(List.getElem?_eq_some_iff.mp hj).1
  rw [List.length_take] at hl
  rw [List.getElem?_take_of_lt (by omega)] at hj
  exact ⟨j,by omega,hj⟩
 ·obtain ⟨j,hj⟩:=List.mem_iff_getElem?.mp z
  rw [List.getElem?_drop] at hj
  exact ⟨_,by omega,hj⟩
def outT (k:Nat) (t:List Int):List Int:=(t.filter fun e=>decide (e / 2≠(k:Int))).map fun e=>if (k:Int)<e / 2 then e-2 else e
theorem outT_len (k:Nat) (t:List Int):(outT k t).length≤t.length:=by unfold outT; rw [List.length_map]; exact List.length_filter_le _ _
theorem outT_ne {n k:Nat} {rs:List Rope} {ts:List (List Int)} (two:2≤n) (tr:Trn n rs ts) (g:Hang n (rs.take k++rs.drop (k+1))):∀ t∈ts,outT k t≠[]:=fun t ht e=>by
 obtain ⟨p,hp⟩:=List.mem_iff_getElem?.mp ht
 have hl:=(List.getElem?_eq_some_iff.mp hp).1
 obtain ⟨r,hr,hpr⟩:=hang_has two g (by rw [tr.len] at hl; exact hl)
 obtain ⟨j,hj,hrj⟩:=cut_mem hr
 obtain ⟨t2,x,h1,h2,h3⟩:=tr.has j r hrj p hpr
 rw [hp] at h1
 cases h1
 have hm:x∈t.filter fun e=>decide (e / 2≠(k:Int)):=List.mem_filter.mpr ⟨h2,by rw [h3]; exact decide_eq_true (by omega)⟩
 unfold outT at e
 rw [List.map_eq_nil_iff] at e
 rw [e] at hm
 cases hm
section
variable {P:Program} {w:World} {K:PySem.W.Frag} {mg:Str->Option Value} {base:Heap} {f g h f1 f2 f3 f4 C:Addr} {fd gd hd d1 d2 d3 d4:FuncData}
inductive SpTwoR (vs:List V) (H:Hp) (Q:VK):Prop
 | mk (a:Addr) (k:Nat) (t:List Int) (h_0:vs=[.ref a,.int (k:Int)]) (h_1:IntsT H a t) (h_2:t.length≤1000) (h_3:∀ p H',Same H H'->IntsT H' p (outT k t)->Q (.ref p) H'):SpTwoR vs H Q
def spTwo:Sp:=fun vs H Q _=>SpTwoR vs H Q
theorem scTw:FnScope ["turn","rope","kept"] ["turn","rope"] (defScope s_turn_without):=⟨rfl,rfl,rfl,by decide +kernel,rfl,by decide +kernel,by decide +kernel⟩
theorem ndER:(["end","rope"]:List Str).Nodup:=by decide +kernel
theorem ok_two (F : Fun K "turn_without" "turn_without" s_turn_without f fd) (mt : mg "tuple" = none) : FnOk P w K mg base CX0 1 f fd ["turn", "rope"] spTwo := by
  refine F.ok scTw (fun vs H Q E h => ?_) (fun cdv A outer s H vs Q E hr h => ?_)
  · obtain ⟨a, k, t, rfl, _⟩ := h
    rfl
  obtain ⟨a, k, t, rfl, ha, hl, q⟩ := h
  have ha' : H a = some (.tup (t.map V.int)) := ha
  refine ⟨_, pss_cons (ps_setCompF (i := 2) scTw.nd rfl (Or.inl rfl) (Nc := ["end", "rope"]) (cap := [(1, 1)]) (g := gName 0) (tt := tTest (tOp rNe (tOp (rI CDiv fun i j => .int (i / j)) (tVar 0) (tC (.int 2))) (tVar 1))) (te := tVar 0) rfl (piTup (K := K) (pv 0))
        (comp_mk rfl rfl (by decide +kernel) (by decide +kernel) (List.forall_mem_cons.mpr ⟨⟨rfl, rfl⟩, List.forall_mem_nil _⟩) rfl (List.forall_mem_cons.mpr ⟨⟨_, _, rfl, rfl, rfl, rfl, rfl⟩, List.forall_mem_nil _⟩))
        (fun C fp pins s' H' => pg_name (i := 0) ndER rfl (Or.inl rfl)) (fun C fp pins s' H' => pt_cmpR op_ne (pe_op op_fdiv (pv 0) pe_int) (pv 1) (nomark _)) (fun C fp pins s' H' => pv 0))
    (pss_one (ps_ret (pe_callTy (callTup (K := K)) (by rfl) mt bt_tuple (pa_cons (pe_comp (Nc := ["end", "rope"]) (cap := [(1, 1)]) (g := gName 0)
        (te := tIf (tTest (tOp (rI0 fun i j => .bl (decide (j < i))) (tOp (rI CDiv fun i j => .int (i / j)) (tVar 0) (tC (.int 2))) (tVar 1))) (tOp (rI0 fun i j => .int (i - j)) (tVar 0) (tC (.int 2))) (tVar 0)) rfl (piLst (K := K) (pv 2))
        (comp_mk rfl rfl (by decide +kernel) (by decide +kernel) (List.forall_mem_cons.mpr ⟨⟨rfl, rfl⟩, List.forall_mem_nil _⟩) rfl (List.forall_mem_cons.mpr ⟨⟨_, _, rfl, rfl, rfl, rfl, rfl⟩, List.forall_mem_nil _⟩))
        (fun C fp pins s' H' => pg_name (i := 0) ndER rfl (Or.inl rfl)) (fun C fp pins s' H' => pe_ifExp (pt_cmpR op_gt (pe_op op_fdiv (pv 0) pe_int) (pv 1) (nomark _)) (pe_op op_sub (pv 0) pe_int) (pv 0))) pa_nil)))), ?_⟩
  refine ⟨_, rfl, a, rfl, ⟨_, SqT.of ha'⟩, fun acc hacc => ?_⟩
  refine comp_runF (run_tup ha') (by rw [List.length_map]; omega) hacc (fun i ys σ hp => ys = ((t.take i).filter fun e => decide (e / 2 ≠ (k : Int))).map V.int ∧ ∃ u, σ = [u, some (.int (k : Int))]) ⟨rfl, none, rfl⟩ ?_ ?_
  · rintro i ys σ H3 x H4 hi sm hacc2 ⟨rfl, u, rfl⟩ ⟨rfl, hx⟩ Cc Nn hC hN
    rw [List.getElem?_map] at hx
    obtain ⟨e, he, rfl⟩ := Option.map_eq_some_iff.mp hx
    refine ⟨_, rfl, _, _, rfl, rfl, ⟨by decide, by decide⟩, _, rfl, rfl, _, rfl, ?_⟩
    by_cases z : e / 2 = (k : Int)
    · rw [if_neg (by rw [z]; simp)]
      exact hN _ _ (Same.refl _) ⟨by rw [take_snoc he, List.filter_append, List.filter_cons_of_neg (by simp [z])]; simp, _, rfl⟩
    · rw [if_pos (by simp [z])]
      exact ⟨_, rfl, hC _ _ _ (Same.refl _) ⟨by rw [take_snoc he, List.filter_append, List.filter_cons_of_pos (by simp [z])]; simp, _, rfl⟩⟩
  · rintro ys σ H4 s4 ha4 ⟨rfl, u, rfl⟩
    rw [List.length_map, List.take_length] at ha4
    have len : ((t.filter fun e => decide (e / 2 ≠ (k : Int))).map V.int).length ≤ 1000 := by rw [List.length_map]; exact Nat.le_trans (List.length_filter_le _ _) hl
    refine ⟨_, rfl, acc, rfl, ⟨_, SqL.of ha4⟩, fun acc2 hacc2 => ?_⟩
    refine comp_run (run_list ha4) len hacc2 (fun i ys σ hp => ys = (((t.filter fun e => decide (e / 2 ≠ (k : Int))).take i).map fun e => V.int (if (k : Int) < e / 2 then e - 2 else e)) ∧ ∃ u, σ = [u, some (.int (k : Int))]) ⟨rfl, none, rfl⟩ ?_ ?_
    · rintro i ys σ H5 x H6 hi sm hacc3 ⟨rfl, u, rfl⟩ ⟨rfl, hx⟩ Cc hC
      rw [List.getElem?_map] at hx
      obtain ⟨e, he, rfl⟩ := Option.map_eq_some_iff.mp hx
      refine ⟨_, rfl, _, _, rfl, rfl, ⟨by decide, by decide⟩, _, rfl, _, _, rfl, rfl, _, rfl, ?_⟩
      have hE : ∀ {H7 : Hp} {v : V}, v = V.int (if (k : Int) < e / 2 then e - 2 else e) → Same H6 H7 → Cc [some (V.int e), some (.int (k : Int))] v H7 := fun ev s7 => hC _ _ _ s7 ⟨by rw [take_snoc he, List.map_append, ev]; rfl, _, rfl⟩
      by_cases z : (k : Int) < e / 2
      · refine iteDT z ?_
        exact ⟨_, rfl, _, _, rfl, rfl, hE (by rw [if_pos z]) (Same.refl _)⟩
      · refine iteDF z ?_
        exact ⟨_, rfl, hE (by rw [if_neg z]) (Same.refl _)⟩
    · rintro ys σ H6 s6 ha6 hl6 ⟨rfl, u, rfl⟩
      rw [List.length_map, List.take_length] at ha6
      refine ⟨acc2, _, rfl, .inl ⟨SqL.of ha6, fun p hp => ?_⟩⟩
      refine q p _ (s4.trans (s6.trans (same_new hp _))) ?_
      show (upd _ _ _) p = _
      rw [upd_same]
      unfold outT
      rw [List.map_map]
      rfl
end
end My
namespace My
open PySem L2 Mth Wd
section
variable {P:Program} {w:World} {K:PySem.W.Frag} {mg:Str->Option Value} {base:Heap} {f g h f1 f2 f3 f4 C:Addr} {fd gd hd d1 d2 d3 d4:FuncData}
inductive SpToldLR (vs:List V) (H:Hp) (Q:VK):Prop
 | mk (a:Addr) (bs:List Addr) (ts:List (List Int)) (h_0:vs=[.ref a]) (h_1:H a=some (.lst (bs.map V.ref))) (h_a:At IntsT H bs ts) (h_2:ts.length≤1000) (h_3:(∀ t∈ts,t≠[]∧t.length≤1000)) (h_4:∀ p H',Same H H'->Q (.ref p) H'):SpToldLR vs H Q
def spToldL:Sp:=fun vs H Q _=>SpToldLR vs H Q
theorem ok_toldL (F:Fun K "told_turns" "told_turns" s_told_turns f fd) (G:FnOk P w K mg base CX0 1 g gd ["turn"] spBeg) (bG:Binds K gd ["turn"] []) (kG:PySem.W.keepIn K (.ref g)=true) (mG:mg "begun_least" = some (.ref g)) (mt:mg "tuple" = none):FnOk P w K mg base CX0 2 f fd ["turns"] spToldL:=by
 refine F.ok scTo (fun vs H Q E h=>?_) (fun cdv A outer s H vs Q E hr h=>?_)
 ·obtain ⟨a,bs,ts,rfl,_⟩:=h
  rfl
 obtain ⟨a,bs,ts,rfl,ha,hB,hl,ht,q⟩:=h
 refine ⟨_,pss_one (ps_ret (pe_callTy (callTup (K:=K)) (by rfl) mt bt_tuple (pa_cons (pe_comp (Nc:=["turn"]) (cap:=[]) (g:=gName 0) (te:=tCall spBeg [] E0 (tCons (tVar 0) tNil)) rfl (piLst (K:=K) (pv 0))
   (comp_mk rfl rfl (by decide +kernel) (by decide +kernel) (List.forall_mem_nil _) rfl (List.forall_mem_nil _)) (fun C fp pins s' H'=>pg_name (i:=0) ndTurn rfl (Or.inl rfl))
   (fun C fp pins s' H'=>pe_call G hr (by rfl) mG kG bG .nil pass0 (pa_cons (pv 0) pa_nil))) pa_nil))),?_⟩
 have lb:bs.length=ts.length:=hB.1
 refine ⟨_,rfl,a,rfl,⟨_,SqL.of ha⟩,fun acc hacc=>?_⟩
 refine comp_run (run_list ha) (by rw [List.length_map]; omega) hacc (fun i ys σ hp=>∃ u,σ=[u]) ⟨none,rfl⟩ ?_ ?_
 ·rintro i ys σ H3 x H4 hi sm hacc2 ⟨u,rfl⟩ ⟨rfl,hx⟩ Cc hC
  obtain ⟨c,t,rfl,_,hy,hc⟩:=hB.ref hx
  obtain ⟨t1,t2⟩:=ht t (List.mem_of_getElem? hy)
  exact ⟨_,rfl,c,t,rfl,sm _ _ hc,t1,t2,fun p H5 s5 hp=>hC _ _ _ s5 ⟨_,rfl⟩⟩
 ·rintro ys σ H4 s4 ha4 hl4 ⟨u,rfl⟩
  exact ⟨acc,_,rfl,.inl ⟨SqL.of ha4,fun p hp=>q p _ (s4.trans (same_new hp _))⟩⟩
def spTaken (C:Addr):Sp:=fun vs H Q E=>∃ (a:Addr) (n k:Nat) (rs:List Rope) (ts:List (List Int)),vs=[.ref a,.int (k:Int)]∧NetT H a n rs ts∧Trn n rs ts∧2≤n∧n≤100∧rs.length≤100∧(∀ r∈rs,r.1<n∧r.2.1<n)∧k<rs.length∧(∀ H',Same H H'->E (.ref C) none H') ∧
 (Hang n (rs.take k++rs.drop (k+1))->∀ p H',Same H H'->NetR H' p n (rs.take k++rs.drop (k+1))->Q (.ref p) H')
theorem scTk:FnScope ["net","rope","ropes","turns"] ["net","rope"] (defScope s_taken_out):=⟨rfl,rfl,rfl,by decide +kernel,rfl,by decide +kernel,by decide +kernel⟩
theorem ndTR:(["turn","rope"]:List Str).Nodup:=by decide +kernel
theorem ok_taken (F:Fun K "taken_out" "taken_out" s_taken_out f fd) (G1:FnOk P w K mg base CX0 1 f1 d1 ["ropes","number"] spCrn) (b1:Binds K d1 ["ropes","number"] []) (k1:PySem.W.keepIn K (.ref f1)=true) (m1:mg "check_rope_number" = some (.ref f1))
  (G2:FnOk P w K mg base (CXr P w) 3 f2 d2 ["places","ropes"] (spHgX C)) (b2:Binds K d2 ["places","ropes"] []) (k2:PySem.W.keepIn K (.ref f2)=true) (m2:mg "check_hanging" = some (.ref f2))
  (G3:FnOk P w K mg base CX0 1 f3 d3 ["turn","rope"] spTwo) (b3:Binds K d3 ["turn","rope"] []) (k3:PySem.W.keepIn K (.ref f3)=true) (m3:mg "turn_without" = some (.ref f3))
  (G4:FnOk P w K mg base CX0 2 f4 d4 ["turns"] spToldL) (b4:Binds K d4 ["turns"] []) (k4:PySem.W.keepIn K (.ref f4)=true) (m4:mg "told_turns" = some (.ref f4)):FnOk P w K mg base (CXr P w) 4 f fd ["net","rope"] (spTaken C):=by
 refine okX F scTk (fun vs H Q E h=>?_) (fun cdv A outer s H vs Q E hr h=>?_)
 ·obtain ⟨a,n,k,rs,ts,rfl,_⟩:=h
  rfl
 obtain ⟨a,n,k,rs,ts,rfl,⟨ra,ta,ha,⟨cs,hra,hC⟩,⟨bs,hta,hB⟩⟩,tr,two,hn,hm,hrs,hk,qE,qN⟩:=h
 have r1:=hr.mono (show 1≤3 by decide)
 have r2:=hr.mono (show 2≤3 by decide)
 refine ⟨_,pss_cons (ps_expr (pe_call G1 r1 (by rfl) m1 k1 b1 .nil pass0 (pa_cons (pe_ix (ixT (K:=K)) (pv 0) pe_int (fun _ _=>rfl)) (pa_cons (pv 1) pa_nil))))
  (pss_cons (ps_set (i:=2) scTk.nd rfl (Or.inl rfl) (pe_op op_catB (pe_slice (slTA (K:=K)) (pe_ix (ixT (K:=K)) (pv 0) pe_int (fun _ _=>rfl)) po_none (po_some (pv 1))) (pe_slice (slTA (K:=K)) (pe_ix (ixT (K:=K)) (pv 0) pe_int (fun _ _=>rfl)) (po_some (pe_op op_add (pv 1) pe_int)) po_none)))
  (pss_cons (ps_expr (pe_call (CX:=CXr P w) (E:=E) G2 hr (by rfl) m2 k2 b2 .nil pass_out (pa_cons (pe_ix (ixT (K:=K)) (pv 0) pe_int (fun _ _=>rfl)) (pa_cons (pv 2) pa_nil))))
  (pss_cons (ps_setComp (i:=3) scTk.nd rfl (Or.inl rfl) (Nc:=["turn","rope"]) (cap:=[(1,1)]) (g:=gName 0) (te:=tCall spTwo [] E0 (tCons (tVar 0) (tCons (tVar 1) tNil))) rfl (piTup (K:=K) (pe_ix (ixT (K:=K)) (pv 0) pe_int (fun _ _=>rfl)))
    (comp_mk rfl rfl (by decide +kernel) (by decide +kernel) (List.forall_mem_cons.mpr ⟨⟨rfl,rfl⟩,List.forall_mem_nil _⟩) rfl (List.forall_mem_cons.mpr ⟨⟨_,_,rfl,rfl,rfl,rfl,rfl⟩,List.forall_mem_nil _⟩))
    (fun C fp pins s' H'=>pg_name (i:=0) ndTR rfl (Or.inl rfl)) (fun C fp pins s' H'=>pe_call G3 r1 (by rfl) m3 k3 b3 .nil pass0 (pa_cons (pv 0) (pa_cons (pv 1) pa_nil))))
  (pss_one (ps_ret (pe_tup (pa_cons (pe_ix (ixT (K:=K)) (pv 0) pe_int (fun _ _=>rfl)) (pa_cons (pv 2) (pa_cons (pe_call G4 r2 (by rfl) m4 k4 b4 .nil pass0 (pa_cons (pv 3) pa_nil)) pa_nil))))))))),?_⟩
 have lc:cs.length=rs.length:=hC.1
 have lcm:(cs.map V.ref).length=rs.length:=by rw [List.length_map,lc]
 refine ⟨_,rfl,a,_,_,_,rfl,rfl,SqT.of ha,t3_1 _ _ _,_,rfl,ra,_,k,rfl,hra,by omega,?_⟩
 refine ⟨_,rfl,a,_,_,_,rfl,rfl,SqT.of ha,t3_1 _ _ _,_,rfl,_,rfl,slT_take (by omega) hra fun p1 H1 s1 g1=>?_⟩
 refine ⟨_,rfl,a,_,_,_,rfl,rfl,SqT.of (s1 _ _ ha),t3_1 _ _ _,_,rfl,_,_,rfl,rfl,((k+1:Nat):Int),rfl,?_⟩
 dsimp only [tNoPart]
 refine slT_drop (by omega) (s1 _ _ hra) fun p2 H2 s2 g2=>?_
 refine ⟨p1,p2,_,_,rfl,rfl,s2 _ _ g1,g2,by rw [List.length_take,List.length_drop]; exact szle (by omega),fun p3 H3 s3 g3=>?_⟩
 have s03:=s1.trans (s2.trans s3)
 have eM:(cs.map V.ref).take k++(cs.map V.ref).drop (k+1)=(cs.take k++cs.drop (k+1)).map V.ref:=by rw [List.map_append,List.map_take,List.map_drop]
 rw [eM] at g3
 have hC3:TupR RopeR H3 p3 (rs.take k++rs.drop (k+1)):=⟨_,g3,((hC.take k).app (hC.drop (k+1))).keep mo_rope s03⟩
 have sub:∀ r∈rs.take k++rs.drop (k+1),r∈rs:=fun r hr=>by
  rcases List.mem_append.mp hr with z | z
  ·exact List.mem_of_mem_take z
  ·exact List.mem_of_mem_drop z
 refine ⟨_,rfl,a,_,_,_,rfl,rfl,SqT.of (s03 _ _ ha),t3_0 _ _ _,_,rfl,n,p3,_,rfl,by omega,hn,hC3,fun r hr=>hrs r (sub r hr),fun H4 s4=>qE H4 (s03.trans s4),fun hg H4 s4=>?_⟩
 have s04:=s03.trans s4
 have lb:bs.length=ts.length:=hB.1
 have hts:ts.length≤100:=by have:=tr.len; omega
 refine ⟨_,rfl,a,_,_,_,rfl,rfl,SqT.of (s04 _ _ ha),t3_2 _ _ _,ta,rfl,⟨_,SqT.of (s04 _ _ hta)⟩,fun acc hacc=>?_⟩
 refine comp_run (run_tup (s04 _ _ hta)) (by rw [List.length_map]; omega) hacc (fun i ys σ hp=>∃ ds:List Addr,ys=ds.map V.ref∧At IntsT hp ds ((ts.map (outT k)).take i)∧∃ u,σ=[u,some (.int (k:Int))]) ⟨[],rfl,At.nil,none,rfl⟩ ?_ ?_
 ·rintro i ys σ H5 x H6 hi sm hacc2 ⟨ds,rfl,hD,u,rfl⟩ ⟨rfl,hx⟩ Cc hCc
  obtain ⟨c,t,rfl,_,hy,hc⟩:=hB.ref hx
  refine ⟨_,rfl,_,rfl,c,k,t,rfl,sm _ _ (s04 _ _ hc),by have:=tr.lens t (List.mem_of_getElem? hy); omega,fun p H7 s7 hp=>?_⟩
  refine hCc _ _ _ s7 ⟨ds++[p],by simp,?_,_,rfl⟩
  have ec:(ts.map (outT k))[i]?=some (outT k t):=by rw [List.getElem?_map,hy]; rfl
  rw [take_snoc ec]
  exact (hD.keep mo_intsT (del_mono acc s7)).snoc (IntsT.del (t:=outT k t) hp (s7 _ _ hacc2))
 ·rintro ys σ H5 s5 ha5 hl5 ⟨gs,rfl,hG,u,rfl⟩
  rw [List.length_map,lb,List.take_of_length_le (by rw [List.length_map]; exact Nat.le_refl _)] at hG
  have hG5:=hG.keep mo_intsT (del_sub H5 acc)
  have s05:=s04.trans s5
  refine ⟨_,rfl,a,_,_,_,rfl,rfl,SqT.of (s05 _ _ ha),t3_0 _ _ _,_,rfl,_,rfl,acc,gs,_,rfl,ha5,hG5,by rw [List.length_map]; omega,fun t ht=>?_,fun p6 H6 s6=>⟨by show 3≤sizeLine; decide,fun p7 hp7=>?_⟩⟩
  ·obtain ⟨t0,ht0,rfl⟩:=List.mem_map.mp ht
   exact ⟨outT_ne two tr hg t0 ht0,by have:=outT_len k t0; have:=tr.lens t0 ht0; omega⟩
  ·have s7:=same_new hp7 (.tup [.int (n:Int),.ref p3,.ref p6])
   exact qN hg p7 _ (s05.trans (s6.trans s7)) ⟨p3,.ref p6,upd_same,mo_tup (R:=RopeR) mo_rope (s4.trans (s5.trans (s6.trans s7))) hC3⟩
end
end My
namespace My
open PySem L2 Mth Wd
theorem ray_up {n:Nat} {rs rs':List Rope} {b:Rope} {X X':Nat->Rat} (h:∀ r∈rs,r.1<n+2∧r.2.1<n+2∧0<r.2.2) (g:Hang (n+2) rs) (hb:b.1<n+2∧b.2.1<n+2∧0<b.2.2) (hO:∀ (Y:Nat->Rat) (i:Nat),outs Y rs' i=outs Y rs i+away Y i b)
  (x0:X 0=1) (x1:X 1=0) (bal:∀ i,2≤i->i<n+2->outs X rs i=0) (x0':X' 0=1) (x1':X' 1=0) (bal':∀ i,2≤i->i<n+2->outs X' rs' i=0) :
  ((X b.1-X b.2.1=0∨X' b.1-X' b.2.1=0)->outs X' rs' 0=outs X rs 0)∧((X b.1-X b.2.1≠0∨X' b.1-X' b.2.1≠0)->outs X rs 0<outs X' rs' 0):=by
 obtain ⟨e,l,z⟩:=ray h g hb hO x0 x1 bal x0' x1' bal'
 have hp:=hb.2.2
 generalize X b.1-X b.2.1=D at e l z ⊢
 generalize X' b.1-X' b.2.1=D' at e l z ⊢
 constructor
 ·rintro (w | w)
  ·rw [e,w]; grind
  ·rw [e,w]; grind
 ·intro w
  have d':D'≠0:=by
   rcases w with w | w
   ·exact fun y=>w (z y)
   ·exact w
  have p1:0<D' * D':=by
   have:=sq_nn D'
   rcases Rat.le_iff_lt_or_eq.mp this with y | y
   ·exact y
   ·exact absurd (sq_zero y.symm) d'
  have p2:0<D*D':=by grind
  have p3:0<b.2.2*(D*D'):=Rat.mul_pos hp p2
  rw [e]
  grind
theorem hang_set {n k:Nat} {rs:List Rope} {r:Rope} {x:Rat} (g:Hang n rs) (hk:rs[k]?=some r):Hang n (rs.set k (r.1,r.2.1,x)):=fun S h0 hS p hp=>by
 have hl:=(List.getElem?_eq_some_iff.mp hk).1
 refine g S h0 (fun r0 hr0=>?_) p hp
 obtain ⟨j,hj⟩:=List.mem_iff_getElem?.mp hr0
 by_cases e:k=j
 ·subst e
  rw [hk] at hj
  cases hj
  exact hS (r.1,r.2.1,x) (List.mem_of_getElem? (List.getElem?_set_self hl))
 ·exact hS r0 (List.mem_of_getElem? (i:=j) (by rw [List.getElem?_set_ne e]; exact hj))
theorem NetE.k {n m:Nat} {rs:List Rope} (J:NetE (n+2) m rs) (h:m≤8):NetK n 8 10 10 rs:=by
 have:=J.j.few
 exact ⟨⟨by omega,by decide,by omega⟩,by rw [J.j.len]; exact h,fun r hr=>⟨(J.j.ends r hr).1,(J.j.ends r hr).2,J.ease r hr⟩,J.pos,J.hang⟩
theorem NetE.set {n m k:Nat} {rs:List Rope} {r:Rope} {x:Rat} (J:NetE (n+2) m rs) (h:m≤8) (hk:rs[k]?=some r) (hx:Sb 21 20 x) (h0:0<x):NetK n 8 21 20 (rs.set k (r.1,r.2.1,x)):=by
 have:=J.j.few
 have hr:=List.mem_of_getElem? hk
 refine ⟨⟨by omega,by decide,by omega⟩,by rw [List.length_set,J.j.len]; exact h,fun r' hr'=>?_,fun r' hr'=>?_,hang_set J.hang hk⟩
 ·rcases List.mem_or_eq_of_mem_set hr' with z | z
  ·exact ⟨(J.j.ends r' z).1,(J.j.ends r' z).2,(J.ease r' z).mono (by omega) (by omega)⟩
  ·subst z
   exact ⟨(J.j.ends r hr).1,(J.j.ends r hr).2,hx⟩
 ·rcases List.mem_or_eq_of_mem_set hr' with z | z
  ·exact J.pos r' z
  ·subst z
   exact h0
theorem NetE.cut {n m k:Nat} {rs:List Rope} (J:NetE (n+2) m rs) (h:m≤8) (g:Hang (n+2) (rs.take k++rs.drop (k+1))):NetK n 8 10 10 (rs.take k++rs.drop (k+1)):=by
 have:=J.j.few
 have sub:∀ r∈rs.take k++rs.drop (k+1),r∈rs:=fun r hr=>by
  rcases List.mem_append.mp hr with z | z
  ·exact List.mem_of_mem_take z
  ·exact List.mem_of_mem_drop z
 refine ⟨⟨by omega,by decide,by omega⟩,?_,fun r hr=>⟨(J.j.ends r (sub r hr)).1,(J.j.ends r (sub r hr)).2,J.ease r (sub r hr)⟩,fun r hr=>J.pos r (sub r hr),g⟩
 have:=J.j.len
 rw [List.length_append,List.length_take,List.length_drop]
 omega
theorem HtX.sfE {n m α β:Nat} {rs:List Rope} {X:Nat->Rat} (k:NetK n m α β rs) (h:HtX n ((8+β*m+α)*n) rs X):Sf (outs X rs 0):=by
 obtain ⟨Z,N,z⟩:=h.sizes k
 have us:=z.sum 0 rs.length (Nat.le_refl _)
 rw [List.take_length] at us
 have:=k.len
 have:=k.hb.m16
 exact us.sf z.z0 z.zl (by omega) z.nl
theorem outs_sub (X Y:Nat->Rat) (rs:List Rope) (i:Nat):outs (fun j=>X j-Y j) rs i=outs X rs i-outs Y rs i:=by
 have:=outs_lin 1 (-1) X Y i rs
 rw [show (fun j=>X j-Y j)=(fun j=>1*X j + -1*Y j) from funext fun j=>by grind,this]
 grind
theorem htx_uniq {n m α β B B':Nat} {rs:List Rope} {X Y:Nat->Rat} (k:NetK n m α β rs) (hX:HtX n B rs X) (hY:HtX n B' rs Y):∀ j,j<n+2->X j=Y j:=by
 have:=harm_zero (X:=fun j=>X j-Y j) (fun r hr=>⟨(k.ends r hr).1,(k.ends r hr).2.1,k.pos r hr⟩) k.hang (by show X 0-Y 0=0; rw [hX.x0,hY.x0]; grind) (fun i hi=>by
  match i,hi with
  | 0,_=>left; show X 0-Y 0=0; rw [hX.x0,hY.x0]; grind
  | 1,_=>left; show X 1-Y 1=0; rw [hX.x1,hY.x1]; grind
  | i+2,hi=>right; rw [outs_sub,hX.bal (i+2) (by omega) hi,hY.bal (i+2) (by omega) hi]; grind)
 intro j hj
 have:=this j hj
 grind
theorem num_pos16 {q:Rat} (h:0<q):0<q.num:=by
 have h1:0≤q.num:=Rat.num_nonneg.mpr (Rat.le_of_lt h)
 have h2:q.num≠0:=fun z=>by rw [Rat.num_eq_zero.mp z] at h; exact absurd h Rat.lt_irrefl
 omega
theorem run_zero {X:Nat->Rat} {r:Rope} (h:0<r.2.2):runs X r=0↔X r.1-X r.2.1=0:=by
 unfold runs
 constructor
 ·intro z
  rcases Rat.mul_eq_zero.mp z with y | y
  ·rw [y] at h; exact absurd h Rat.lt_irrefl
  ·exact y
 ·intro z
  rw [z,Rat.mul_zero]
section
variable {P:Program} {w:World} {K:PySem.W.Frag} {mg:Str->Option Value} {base:Heap} {f g h f1 f2 f3 f4 C:Addr} {fd gd hd d1 d2 d3 d4:FuncData}
inductive SpGrewR (vs:List V) (H:Hp) (Q:VK):Prop
 | mk (a b c:Addr) (x y z:Rat) (h_0:vs=[.ref a,.ref b,.ref c]) (h_1:FrR H a x) (h_2:FrR H b y) (h_3:FrR H c z) (h_4:Sf x) (h_5:Sf y) (h_6:z=0->y=x) (h_7:z≠0->x<y) (h_8:∀ H',Same H H'->Q (.bl true) H'):SpGrewR vs H Q
def spGrew:Sp:=fun vs H Q _=>SpGrewR vs H Q
theorem scGw:FnScope ["_law_before","_law_after","_law_running","_law_step"] ["_law_before","_law_after","_law_running"] (defScope s_law_grew):=⟨rfl,rfl,rfl,by decide +kernel,rfl,by decide +kernel,by decide +kernel⟩
theorem ok_grew (F:Fun K "_law_grew" "_law_grew" s_law_grew f fd) (G:FnOk P w K mg base CX0 2 g gd ["_law_one","_law_other"] (spBin fun x y=>x-y)) (bG:Binds K gd ["_law_one","_law_other"] []) (kG:PySem.W.keepIn K (.ref g)=true) (mG:mg "_law_take" = some (.ref g)) :
  FnOk P w K mg base CX0 3 f fd ["_law_before","_law_after","_law_running"] spGrew:=by
 refine F.ok scGw (fun vs H Q E h=>?_) (fun cdv A outer s H vs Q E hr h=>?_)
 ·obtain ⟨a,b,c,x,y,z,rfl,_⟩:=h
  rfl
 obtain ⟨a,b,c,x,y,z,rfl,ha,hb,hc,sx,sy,e1,e2,q⟩:=h
 have hu:(A.deeper (PyProof.Rows.envOfC "_law_grew" (defScope s_law_grew) s.heap.objs.size f cdv)).units+64<cLine:=(hr.mono (show 1≤2 by decide)).units
 refine ⟨_,pss_cons (ps_set (i:=3) scGw.nd rfl (Or.inl rfl) (pe_call G hr (by rfl) mG kG bG .nil pass0 (pa_cons (pv 1) (pa_cons (pv 0) pa_nil))))
  (pss_cons (ps_if (pt_cmpR (op_eq_tup hu) (pv 2) (pe_tup (pa_cons pe_int (pa_cons pe_int pa_nil))) (nomark _)) (pss_one (ps_ret (pe_cmpR op_eq (pe_ix (ixT (K:=K)) (pv 3) pe_int (fun _ _=>rfl)) pe_int (nomark _)))) pss_nil)
  (pss_one (ps_ret (pe_cmpR op_gt (pe_ix (ixT (K:=K)) (pv 3) pe_int (fun _ _=>rfl)) pe_int (nomark _))))),?_⟩
 refine ⟨_,rfl,_,rfl,b,a,y,x,rfl,hb,ha,sy,sx,fun p hp=>?_⟩
 have s1:=same_new hp (.tup [.int (y-x).num,.int (y-x).den])
 have g1:(upd H p (.tup [.int (y-x).num,.int (y-x).den])) p=some (.tup [.int (y-x).num,.int (y-x).den]):=upd_same
 generalize upd H p (.tup [.int (y-x).num,.int (y-x).den])=H1 at s1 g1
 refine ⟨_,rfl,by show 2≤sizeLine; decide,fun p2 hp2=>?_⟩
 have s2:=same_new hp2 (.tup [.int 0,.int 1])
 refine ⟨c,p2,[z.num,z.den],[0,1],rfl,rfl,s2 _ _ (s1 _ _ hc),upd_same,_,rfl,?_⟩
 generalize upd H1 p2 (.tup [.int 0,.int 1])=H2 at s2
 by_cases hz:z=0
 ·refine iteDT (show [z.num,(z.den:Int)]=[0,1] by rw [hz]; rfl) ?_
  refine ⟨_,rfl,p,_,_,_,rfl,rfl,SqT.of (s2 _ _ g1),at0,rfl,?_⟩
  have:(y-x).num=0:=by rw [e1 hz,show x-x=0 by grind]; rfl
  rw [this,decide_eq_true rfl]
  exact q _ (s1.trans s2)
 ·refine iteDF (fun w=>hz ?_) ?_
  ·have:z.num=0:=by injection w
   exact Rat.num_eq_zero.mp this
  ·refine ⟨_,rfl,p,_,_,_,rfl,rfl,SqT.of (s2 _ _ g1),at0,_,_,rfl,rfl,?_⟩
   have:=num_pos16 (q:=y-x) (by have:=e2 hz; grind)
   rw [decide_eq_true this]
   exact q _ (s1.trans s2)
def spWithout:Sp:=fun vs H Q _=>∃ (a:Addr) (n k:Nat) (rs:List Rope) (ts:List (List Int)),vs=[.ref a,.int (k:Int)]∧NetT H a n rs ts∧Trn n rs ts∧2≤n∧n≤100∧rs.length≤100∧(∀ r∈rs,r.1<n∧r.2.1<n)∧k<rs.length∧(∀ H',Same H H'->Q .non H') ∧
 (Hang n (rs.take k++rs.drop (k+1))->∀ p H',Same H H'->NetR H' p n (rs.take k++rs.drop (k+1))->Q (.ref p) H')
theorem scWo:FnScope ["_law_net_here","_law_rope","_law_made"] ["_law_net_here","_law_rope"] (defScope s_law_without):=⟨rfl,rfl,rfl,by decide +kernel,rfl,by decide +kernel,by decide +kernel⟩
theorem ok_without (F:Fun K "_law_without" "_law_without" s_law_without f fd) (G:FnOk P w K mg base (CXr P w) 4 g gd ["net","rope"] (spTaken C)) (bG:Binds K gd ["net","rope"] []) (kG:PySem.W.keepIn K (.ref g)=true) (mG:mg "taken_out" = some (.ref g)) (mC:mg "Loose" = some (.ref C)) (xF:PySem.W.exmOne K (.ref C) (.ref C)=some true) :
  FnOk P w K mg base CX0 5 f fd ["_law_net_here","_law_rope"] spWithout:=by
 refine F.ok scWo (fun vs H Q E h=>?_) (fun cdv A outer s H vs Q E hr h=>?_)
 ·obtain ⟨a,n,k,rs,ts,rfl,_⟩:=h
  rfl
 obtain ⟨a,n,k,rs,ts,rfl,hN,tr,two,hn,hm,hrs,hk,qE,qN⟩:=h
 refine ⟨_,pss_cons (ps_set (i:=2) scWo.nd rfl (Or.inl rfl) pe_non)
  (pss_cons (ps_try0 (by rfl) mC rfl rfl (pxs_set (i:=2) scWo.nd rfl (Or.inl rfl) (px_call G hr (by rfl) mG kG bG .nil (pa_cons (pv 0) (pa_cons (pv 1) pa_nil)))) (fun a=>pss_one (ps_set (i:=2) scWo.nd rfl (Or.inl rfl) pe_non)))
  (pss_one (ps_ret (pv 2)))),?_⟩
 refine ⟨_,rfl,_,rfl,a,n,k,rs,ts,rfl,hN,tr,two,hn,hm,hrs,hk,fun H1 s1=>⟨xF,fun e he=>?_⟩,fun hg p H1 s1 hN1=>?_⟩
 ·exact ⟨_,rfl,qE _ (s1.trans (same_new he _))⟩
 ·exact ⟨_,rfl,qN hg p H1 s1 hN1⟩
end
end My
namespace My
open PySem L2 Mth Wd
theorem ease_add {e d:Rat} (h1:Sb 10 10 e) (h2:Sb 10 10 d) (p1:0<e) (p2:0<d):Sb 21 20 (e+d)∧0<e+d∧EaseK (e+d):=by
 have a:Sb 21 20 (e+d):=h1.add h2 (N:=20) (by decide) (by decide)
 have b:0<e+d:=by grind
 refine ⟨a,b,num_pos16 b,?_,?_⟩
 ·have:=a.1
  have c:(2:Nat) ^ 21=2097152:=by decide
  rw [c] at this
  have d:(10:Int) ^ 40=10000000000000000000000000000000000000000:=by decide
  rw [d]
  omega
 ·have:=a.2
  have c:(2:Nat) ^ 20=1048576:=by decide
  rw [c] at this
  have d:(10:Int) ^ 40=10000000000000000000000000000000000000000:=by decide
  rw [d]
  omega
theorem num_le_den {q:Rat} (h:q≤1):q.num≤(q.den:Int):=by
 have:=(Rat.le_iff q 1).mp h
 simpa using this
theorem sf_small {q:Rat} (h:Sb 10 10 q):Sf q:=h.mono (by decide) (by decide)
section
variable {P:Program} {w:World} {K:PySem.W.Frag} {mg:Str->Option Value} {base:Heap} {f g h f1 f2 f3 f4 f5 f6 f7 f8 f9 f10 f11:Addr} {fd gd hd d1 d2 d3 d4 d5 d6 d7 d8 d9 d10 d11:FuncData}
def spLaw (K:PySem.W.Frag):Sp:=fun vs H Q _=>∃ (a:Addr) (ns:List Int),vs=[.ref a]∧SqL K H a (ns.map V.int)∧ns.length≤63∧∀ H',Q (.bl true) H'
theorem scLw:FnScope ["_law_script","_law_net_here","_law_high","_law_before","_law_rope","_law_running","_law_more","_law_less_net"] ["_law_script"] (defScope sLaw):=⟨rfl,rfl,rfl,by decide +kernel,rfl,by decide +kernel,by decide +kernel⟩
theorem ndLO:(["_law_one"]:List Str).Nodup:=by decide +kernel
set_option maxHeartbeats 4000000 in
seal L2.PSs L2.PS L2.PE L2.PA in
theorem ok_law (F : Fun K "law" "law" sLaw f fd) (G1 : FnOk P w K mg base CX0 5 f1 d1 ["_law_script", "_law_at", "_law_sizes"] (spSome K)) (b1 : Binds K d1 ["_law_script", "_law_at", "_law_sizes"] []) (k1 : PySem.W.keepIn K (.ref f1) = true) (m1 : mg "_law_some_net" = some (.ref f1))
    (G2 : FnOk P w K mg base CX0 5 f2 d2 ["net"] spHts) (b2 : Binds K d2 ["net"] []) (k2 : PySem.W.keepIn K (.ref f2) = true) (m2 : mg "heights" = some (.ref f2))
    (G3 : FnOk P w K mg base CX0 7 f3 d3 ["net"] spEaseOf) (b3 : Binds K d3 ["net"] []) (k3 : PySem.W.keepIn K (.ref f3) = true) (m3 : mg "ease_of" = some (.ref f3))
    (G4 : FnOk P w K mg base CX0 1 f4 d4 ["_law_script", "_law_k"] (spCell K)) (b4 : Binds K d4 ["_law_script", "_law_k"] []) (k4 : PySem.W.keepIn K (.ref f4) = true) (m4 : mg "_law_cell" = some (.ref f4))
    (G5 : FnOk P w K mg base CX0 6 f5 d5 ["net"] spRuns) (b5 : Binds K d5 ["net"] []) (k5 : PySem.W.keepIn K (.ref f5) = true) (m5 : mg "runnings" = some (.ref f5))
    (G6 : FnOk P w K mg base CX0 2 f6 d6 ["_law_one", "_law_other"] (spBin fun x y => x + y)) (b6 : Binds K d6 ["_law_one", "_law_other"] []) (k6 : PySem.W.keepIn K (.ref f6) = true) (m6 : mg "_law_add" = some (.ref f6))
    (G7 : FnOk P w K mg base CX0 2 f7 d7 ["_law_cell_here"] spEase) (b7 : Binds K d7 ["_law_cell_here"] []) (k7 : PySem.W.keepIn K (.ref f7) = true) (m7 : mg "_law_ease" = some (.ref f7))
    (G8 : FnOk P w K mg base CX0 3 f8 d8 ["_law_before", "_law_after", "_law_running"] spGrew) (b8 : Binds K d8 ["_law_before", "_law_after", "_law_running"] []) (k8 : PySem.W.keepIn K (.ref f8) = true) (m8 : mg "_law_grew" = some (.ref f8))
    (G9 : FnOk P w K mg base CX0 3 f9 d9 ["net", "rope", "ease"] spEased) (b9 : Binds K d9 ["net", "rope", "ease"] []) (k9 : PySem.W.keepIn K (.ref f9) = true) (m9 : mg "eased" = some (.ref f9))
    (G10 : FnOk P w K mg base CX0 5 f10 d10 ["_law_net_here", "_law_rope"] spWithout) (b10 : Binds K d10 ["_law_net_here", "_law_rope"] []) (k10 : PySem.W.keepIn K (.ref f10) = true) (m10 : mg "_law_without" = some (.ref f10))
    (ml : mg "len" = none) : FnOk P w K mg base CX0 8 f fd ["_law_script"] (spLaw K) := by
  refine F.ok scLw (fun vs H Q E h => ?_) (fun cdv A outer s H vs Q E hr h => ?_)
  · obtain ⟨a, ns, rfl, _⟩ := h
    rfl
  obtain ⟨a, ns, rfl, hS0, hS1, q⟩ := h
  have h1r := hr.mono (show 1 ≤ 7 by decide)
  have h2r := hr.mono (show 2 ≤ 7 by decide)
  have h3r := hr.mono (show 3 ≤ 7 by decide)
  have h5r := hr.mono (show 5 ≤ 7 by decide)
  have h6r := hr.mono (show 6 ≤ 7 by decide)
  have hu : (A.deeper (PyProof.Rows.envOfC "law" (defScope sLaw) s.heap.objs.size f cdv)).units + 64 < cLine := h1r.units
  refine ⟨_, pss_cons (ps_set (i := 1) scLw.nd rfl (Or.inl rfl) (pe_call G1 h5r (by rfl) m1 k1 b1 .nil pass0 (pa_cons (pv 0) (pa_cons pe_int (pa_cons (pe_lst (pa_cons pe_int (pa_cons pe_int (pa_cons pe_int (pa_cons pe_int (pa_cons pe_int (pa_cons pe_int pa_nil))))))) pa_nil)))))
    (pss_cons (ps_set (i := 2) scLw.nd rfl (Or.inl rfl) (pe_call G2 h5r (by rfl) m2 k2 b2 .nil pass0 (pa_cons (pv 1) pa_nil)))
    (pss_cons (ps_if (pt_cmpR (op_ne_lz hu) (pe_compF (Nc := ["_law_one"]) (cap := []) (g := gName 0)
          (tt := tOr (tTest (tOp (rI0 fun i j => .bl (decide (i < j))) (tOp (rIxT K) (tVar 0) (tC (.int 0))) (tC (.int 0)))) (tTest (tOp (rI0 fun i j => .bl (decide (j < i))) (tOp (rIxT K) (tVar 0) (tC (.int 0))) (tOp (rIxT K) (tVar 0) (tC (.int 1)))))) (te := tVar 0) rfl (piTup (K := K) (pv 2))
          (comp_mk rfl rfl (by decide +kernel) (by decide +kernel) (List.forall_mem_nil _) rfl (List.forall_mem_nil _)) (fun C fp pins s' H' => pg_name (i := 0) ndLO rfl (Or.inl rfl))
          (fun C fp pins s' H' => PW.pt (pw_or (pt_cmpR op_lt (pe_ix (ixT (K := K)) (pv 0) pe_int (fun _ _ => rfl)) pe_int (nomark _)) (pw_or1 (pt_cmpR op_gt (pe_ix (ixT (K := K)) (pv 0) pe_int (fun _ _ => rfl)) (pe_ix (ixT (K := K)) (pv 0) pe_int (fun _ _ => rfl)) (nomark _)))))
          (fun C fp pins s' H' => pv 0)) (pe_lst pa_nil) (nomark _)) (pss_one (ps_ret pe_bl)) pss_nil)
    (pss_cons (ps_set (i := 3) scLw.nd rfl (Or.inl rfl) (pe_call G3 hr (by rfl) m3 k3 b3 .nil pass0 (pa_cons (pv 1) pa_nil)))
    (pss_cons (ps_set (i := 4) scLw.nd rfl (Or.inl rfl) (pe_op op_mod (pe_call G4 h1r (by rfl) m4 k4 b4 .nil pass0 (pa_cons (pv 0) (pa_cons pe_int pa_nil))) (pe_callB (callLen (K := K)) (by rfl) ml bt_len (pa_cons (pe_ix (ixT (K := K)) (pv 1) pe_int (fun _ _ => rfl)) pa_nil))))
    (pss_cons (ps_set (i := 5) scLw.nd rfl (Or.inl rfl) (pe_ix (ixT (K := K)) (pe_call G5 h6r (by rfl) m5 k5 b5 .nil pass0 (pa_cons (pv 1) pa_nil)) (pv 4) (fun _ _ => rfl)))
    (pss_cons (ps_set (i := 6) scLw.nd rfl (Or.inl rfl) (pe_call G6 h2r (by rfl) m6 k6 b6 .nil pass0 (pa_cons (pe_ix (ixT (K := K)) (pe_ix (ixT (K := K)) (pe_ix (ixT (K := K)) (pv 1) pe_int (fun _ _ => rfl)) (pv 4) (fun _ _ => rfl)) pe_int (fun _ _ => rfl)) (pa_cons (pe_call G7 h2r (by rfl) m7 k7 b7 .nil pass0 (pa_cons (pe_call G4 h1r (by rfl) m4 k4 b4 .nil pass0 (pa_cons (pv 0) (pa_cons pe_int pa_nil))) pa_nil)) pa_nil))))
    (pss_cons (ps_if (PW.pt (pw_or (pt_cmpR op_le (pe_ix (ixT (K := K)) (pv 3) pe_int (fun _ _ => rfl)) pe_int (nomark _)) (pw_or1 (pt_not (pt_val (pe_call G8 h3r (by rfl) m8 k8 b8 .nil pass0 (pa_cons (pv 3) (pa_cons (pe_call G3 hr (by rfl) m3 k3 b3 .nil pass0 (pa_cons (pe_call G9 h3r (by rfl) m9 k9 b9 .nil pass0 (pa_cons (pv 1) (pa_cons (pv 4) (pa_cons (pv 6) pa_nil)))) pa_nil)) (pa_cons (pv 5) pa_nil))))))))) (pss_one (ps_ret pe_bl)) pss_nil)
    (pss_cons (ps_set (i := 7) scLw.nd rfl (Or.inl rfl) (pe_call G10 h5r (by rfl) m10 k10 b10 .nil pass0 (pa_cons (pv 1) (pa_cons (pv 4) pa_nil))))
    (pss_cons (ps_if (pt_cmpR op_isN (pv 7) pe_non (nomark _)) (pss_one (ps_ret pe_bl)) pss_nil)
    (pss_one (ps_ret (pe_call G8 h3r (by rfl) m8 k8 b8 .nil pass0 (pa_cons (pe_call G3 hr (by rfl) m3 k3 b3 .nil pass0 (pa_cons (pv 7) pa_nil)) (pa_cons (pv 3) (pa_cons (pv 5) pa_nil))))))))))))))), ?_⟩
  refine ⟨_, rfl, by show 6 ≤ sizeLine; decide, fun l hl => ?_⟩
  have sl := same_new hl (.lst [.int 3, .int 4, .int 5, .int 6, .int 7, .int 7])
  refine ⟨a, l, ns, [3, 4, 5, 6, 7, 7], 8, 2, rfl, by decide, ⟨sl.seq hS0, hS1⟩, upd_same, by decide, by decide, by decide, by decide, fun pn H1 n' m rs ts s1 hT J tr hm => ?_⟩
  replace hS0 := (sl.trans s1).seq hS0
  clear s1 sl hl
  obtain ⟨n, rfl⟩ : ∃ n, n' = n + 2 := ⟨n' - 2, by have := J.j.two; omega⟩
  have few := J.j.few
  have kS := J.k hm
  refine ⟨_, rfl, pn, n, 8, 10, 10, rs, rfl, hT.net, kS, fun ph H2 X2 t2 hX2 hHt => ?_⟩
  have hT2 := mo_netT t2 hT
  replace hS0 := t2.seq hS0
  have hp : ∀ r ∈ rs, r.1 < n + 2 ∧ r.2.1 < n + 2 ∧ 0 < r.2.2 := fun r hr => ⟨(J.j.ends r hr).1, (J.j.ends r hr).2, J.pos r hr⟩
  have hIn := ht_in hp J.hang hX2.x0 hX2.x1 hX2.bal
  obtain ⟨cs, hph, hC⟩ := id hHt
  have lc : cs.length = n + 2 := by rw [hC.1, List.length_map, List.length_range]
  refine ⟨_, rfl, ph, rfl, ⟨_, SqT.of hph⟩, fun acc hacc => ?_⟩
  refine comp_runF (run_tup hph) (by rw [List.length_map]; omega) hacc (fun i ys σ hp => ys = [] ∧ ∃ u, σ = [u]) ⟨rfl, none, rfl⟩ ?_ ?_
  · rintro i ys σ H3 x H4 hi sm hacc2 ⟨rfl, u, rfl⟩ ⟨rfl, hx⟩ Cc Nn hCc hNn
    obtain ⟨c, y, rfl, _, hy, hc⟩ := hC.ref hx
    have hc' : H4 c = some (.tup [.int y.num, .int y.den]) := sm _ _ hc
    have hi' : i < n + 2 := by rw [List.length_map] at hi; omega
    rw [range_at X2 hi'] at hy
    cases hy
    obtain ⟨y0, y1⟩ := hIn i hi'
    have n0 : 0 ≤ (X2 i).num := Rat.num_nonneg.mpr y0
    have n1 := num_le_den y1
    refine ⟨_, rfl, c, _, _, _, rfl, rfl, SqT.of hc', at0, _, _, rfl, rfl, _, rfl, iteDF (by omega) ?_⟩
    refine ⟨_, rfl, c, _, _, _, rfl, rfl, SqT.of hc', at0, _, rfl, c, _, _, _, rfl, rfl, SqT.of hc', at1, _, _, rfl, rfl, _, rfl, iteDF (by omega) ?_⟩
    exact hNn _ _ (Same.refl _) ⟨rfl, _, rfl⟩
  rintro ys σ H3 s3 ha3 ⟨rfl, u, rfl⟩
  refine ⟨by show 0 ≤ sizeLine; decide, fun l2 hl2 => ?_⟩
  have s4 := same_new hl2 (.lst [])
  refine ⟨acc, l2, [], rfl, rfl, s4 _ _ ha3, upd_same, _, rfl, iteF ?_⟩
  generalize upd H3 l2 (.lst []) = H4 at s4
  have hT4 := mo_netT (s3.trans s4) hT2
  replace hS0 := (s3.trans s4).seq hS0
  clear hT hT2 t2 hHt hacc s3 ha3 hl2 s4 hX2 hIn hph hC lc
  refine ⟨_, rfl, pn, n, 8, 10, 10, rs, rfl, hT4.net, kS, fun pe H5 X t5 hX hE => ?_⟩
  replace hS0 := t5.seq hS0
  have hT5 := mo_netT t5 hT4
  have hT5' := hT5
  obtain ⟨ra, ta, ha, ⟨bs, hra, hB⟩, _⟩ := hT5'
  have len := J.j.len
  have lb : bs.length = rs.length := hB.1
  refine ⟨_, rfl, a, ns, 0, rfl, ⟨hS0, hS1⟩, by decide, by decide, fun z => ?_⟩
  have lm : ((bs.map V.ref).length : Int) = (rs.length : Int) := by rw [List.length_map, lb]
  refine ⟨_, rfl, pn, _, _, _, rfl, rfl, SqT.of ha, t3_1 _ _ _, ra, _, rfl, .inr (SqT.of hra), _, _, rfl, rfl, by rw [lm]; omega, ?_⟩
  have z0 := Int.emod_nonneg z (b := (rs.length : Int)) (by omega)
  have z1 := Int.emod_lt_of_pos z (b := (rs.length : Int)) (by omega)
  rw [lm]
  obtain ⟨k, hk⟩ : ∃ k : Nat, z % (rs.length : Int) = (k : Int) := ⟨_, (Int.toNat_of_nonneg z0).symm⟩
  have hkl : k < rs.length := by omega
  rw [hk]
  clear hk z0 z1
  obtain ⟨⟨p, q', e⟩, hr⟩ : ∃ r, rs[k]? = some r := ⟨_, List.getElem?_eq_getElem hkl⟩
  have rm := List.mem_of_getElem? hr
  refine ⟨_, rfl, pn, n, 8, 10, 10, rs, rfl, hT5.net, kS, fun pr H6 X3 t6 hX3 hR => ?_⟩
  obtain ⟨ds, hpr, hD⟩ := hR
  have er : (rs.map (runs X3))[k]? = some (runs X3 (p, q', e)) := by rw [List.getElem?_map, hr]; rfl
  have eX : runs X3 (p, q', e) = runs X (p, q', e) := by
    unfold runs
    rw [htx_uniq kS hX3 hX _ (hp _ rm).1, htx_uniq kS hX3 hX _ (hp _ rm).2.1]
  rw [eX] at er
  obtain ⟨dr, hdr, fdr⟩ := hD.get er
  refine ⟨_, rfl, pr, _, _, _, rfl, rfl, SqT.of hpr, atI_nat (ref_at hdr), ?_⟩
  replace hS0 := t6.seq hS0
  obtain ⟨b, hb, ea, hbb, hea⟩ := hB.get hr
  refine ⟨_, rfl, pn, _, _, _, rfl, rfl, SqT.of (t6 _ _ ha), t3_1 _ _ _, _, rfl, ra, _, _, _, rfl, rfl, SqT.of (t6 _ _ hra), atI_nat (ref_at hb), b, _, _, _, rfl, rfl, SqT.of (t6 _ _ hbb), t3_2 _ _ _, ?_⟩
  refine ⟨_, rfl, a, ns, 1, rfl, ⟨hS0, hS1⟩, by decide, by decide, fun z2 => ⟨_, rfl, fun d sd d0 pd hpd => ?_⟩⟩
  have s7 := same_new hpd (.tup [.int d.num, .int d.den])
  have fd7 : FrR (upd H6 pd (.tup [.int d.num, .int d.den])) pd d := upd_same
  generalize upd H6 pd (.tup [.int d.num, .int d.den]) = H7 at s7 fd7
  have se : Sb 10 10 e := J.ease _ rm
  have e0 : 0 < e := J.pos _ rm
  obtain ⟨sed, ed0, eK⟩ := ease_add se sd e0 d0
  refine ⟨ea, pd, e, d, rfl, (t6.trans s7) _ _ hea, fd7, sf_small se, sf_small sd, fun pm hpm => ?_⟩
  dsimp only
  have s8 := same_new hpm (.tup [.int (e + d).num, .int (e + d).den])
  have fm8 : FrR (upd H7 pm (.tup [.int (e + d).num, .int (e + d).den])) pm (e + d) := upd_same
  generalize upd H7 pm (.tup [.int (e + d).num, .int (e + d).den]) = H8 at s8 fm8
  have s58 := t6.trans (s7.trans s8)
  have s68 := s7.trans s8
  have hE8 : FrR H8 pe (outs X rs 0) := s58 _ _ hE
  have hd8 : FrR H8 dr (runs X (p, q', e)) := s68 _ _ fdr
  have hT8 := mo_netT s58 hT5
  have sE := hX.sfE kS
  have E0 : 0 < (outs X rs 0).num := num_pos16 (ease_pos hp J.hang hX.x0 hX.x1 hX.bal)
  refine ⟨_, rfl, pe, _, _, _, rfl, rfl, SqT.of hE8, at0, _, _, rfl, rfl, _, rfl, iteDF (by omega) ?_⟩
  have kS2 := J.set (x := e + d) hm hr sed ed0
  refine ⟨_, rfl, _, rfl, _, rfl, _, rfl, pn, pm, n + 2, k, rs, ts, (p, q', e), e + d, rfl, hT8, tr, by omega, by omega, hr, fm8, eK, fun pq H9 s9 hN9 => ?_⟩
  refine ⟨pq, n, 8, 21, 20, _, rfl, hN9, kS2, fun pe2 H10 X' t10 hX' hE' => ?_⟩
  have s810 := s9.trans t10
  have up := ray_up (b := (p, q', d)) hp J.hang ⟨(hp _ rm).1, (hp _ rm).2.1, d0⟩ (fun Y i => outs_set hr d Y i) hX.x0 hX.x1 hX.bal hX'.x0 hX'.x1 hX'.bal
  have rz : runs X (p, q', e) = 0 ↔ X p - X q' = 0 := run_zero e0
  refine ⟨_, rfl, pe, pe2, dr, outs X rs 0, _, _, rfl, s810 _ _ hE8, hE', s810 _ _ hd8, sE, hX'.sfE kS2, fun z => up.1 (.inl (rz.mp z)), fun z => up.2 (.inl fun y => z (rz.mpr y)), fun H11 s11 => ⟨_, rfl, iteF ?_⟩⟩
  have s811 := s810.trans s11
  refine ⟨_, rfl, _, rfl, pn, n + 2, k, rs, ts, rfl, mo_netT s811 hT8, tr, by omega, by omega, by omega, J.j.ends, hkl, fun H12 s12 => ?_, fun hg pw H12 s12 hN12 => ?_⟩
  · refine ⟨_, rfl, rfl, _, rfl, iteT ?_⟩
    exact q _
  · refine ⟨_, rfl, rfl, _, rfl, iteF ?_⟩
    have kS3 := J.cut hm hg
    refine ⟨_, rfl, pw, n, 8, 10, 10, _, rfl, hN12, kS3, fun pe3 H13 X0 t13 hX0 hE0 => ?_⟩
    have s813 := s811.trans (s12.trans t13)
    have up := ray_up (b := (p, q', e)) (fun r hr => ⟨(kS3.ends r hr).1, (kS3.ends r hr).2.1, kS3.pos r hr⟩) hg (hp _ rm) (fun Y i => outs_at hr Y i) hX0.x0 hX0.x1 hX0.bal hX.x0 hX.x1 hX.bal
    exact ⟨_, rfl, _, rfl, pe3, pe, dr, _, outs X rs 0, _, rfl, hE0, s813 _ _ hE8, s813 _ _ hd8, hX0.sfE kS3, sE, fun z => up.1 (.inr (rz.mp z)), fun z => up.2 (.inr fun y => z (rz.mpr y)), fun H14 _ => q _⟩
end
end My
namespace My
open PySem L2 Mth
theorem len_1 {α:Type} {us:List α} (h:us.length=1):∃ a0,us=[a0]:=by
 match us,h with
 | [a0],_=>exact ⟨a0,rfl⟩
theorem len_2 {α:Type} {us:List α} (h:us.length=2):∃ a0 a1,us=[a0,a1]:=by
 match us,h with
 | [a0,a1],_=>exact ⟨a0,a1,rfl⟩
theorem len_3 {α:Type} {us:List α} (h:us.length=3):∃ a0 a1 a2,us=[a0,a1,a2]:=by
 match us,h with
 | [a0,a1,a2],_=>exact ⟨a0,a1,a2,rfl⟩
theorem len_4 {α:Type} {us:List α} (h:us.length=4):∃ a0 a1 a2 a3,us=[a0,a1,a2,a3]:=by
 match us,h with
 | [a0,a1,a2,a3],_=>exact ⟨a0,a1,a2,a3,rfl⟩
set_option maxHeartbeats 4000000 in
theorem all_mk {l:PySem.W.OpenLaw} {w:World} {K:PySem.W.Frag} {h:Heap} {mg:Str->Option Value} {fa C f1 f2 f3 f4 f5 f6 f7 f8 f9 f10 f11 f12 f13 f14 f15 f16 f17 f18 f19 f20 f21 f22 f23 f24 f25 f26 f27 f28 f29 f30 f31 f32 f33 f34 f35 f36 f37 f38 f39 f40 f41 f42 f43 f44 f45:Addr} (X:K.In h) (G:h.Ns mainGlobals mg) (hfa:mg "law" = some (.ref fa))
  {od1 an1 od2 an2 od3 an3 od4 an4 od5 an5 od6 an6 od7 an7 od8 an8 od9 an9 od10 an10 od11 an11 od12 an12 od13 an13 od14 an14 od15 an15 od16 an16 od17 an17 od18 an18 od19 an19 od20 an20 od21 an21 od22 an22 od23 an23 od24 an24 od25 an25 od26 an26 od27 an27 od28 an28 od29 an29 od30 an30 od31 an31 od32 an32 od33 an33 od34 an34 od35 an35 od36 an36 od37 an37 od38 an38 od39 an39 od40 an40 od41 an41 od42 an42 od43 an43 od44 an44 od45 an45:Option Addr}
  {sl1 sl2 sl3 sl4 sl5 sl6 sl7 sl8 sl9 sl10 sl11 sl12 sl13 sl14 sl15 sl16 sl17 sl18 sl19 sl20 sl21 sl22 sl23 sl24 sl25 sl26 sl27 sl28 sl29 sl30 sl31 sl32 sl33 sl34 sl35 sl36 sl37 sl38 sl39 sl40 sl41 sl42 sl43 sl44 sl45:Array (Option Value)}
  {oc1 kV1 dc1 pm1 cd1 ct1 oc2 kV2 dc2 pm2 cd2 ct2 oc3 kV3 dc3 pm3 cd3 ct3 oc4 kV4 dc4 pm4 cd4 ct4 oc5 kV5 dc5 pm5 cd5 ct5 oc6 kV6 dc6 pm6 cd6 ct6 oc7 kV7 dc7 pm7 cd7 ct7 oc8 kV8 dc8 pm8 cd8 ct8 oc9 kV9 dc9 pm9 cd9 ct9 oc10 kV10 dc10 pm10 cd10 ct10 oc11 kV11 dc11 pm11 cd11 ct11 oc12 kV12 dc12 pm12 cd12 ct12 oc13 kV13 dc13 pm13 cd13 ct13 oc14 kV14 dc14 pm14 cd14 ct14 oc15 kV15 dc15 pm15 cd15 ct15 oc16 kV16 dc16 pm16 cd16 ct16 oc17 kV17 dc17 pm17 cd17 ct17 oc18 kV18 dc18 pm18 cd18 ct18 oc19 kV19 dc19 pm19 cd19 ct19 oc20 kV20 dc20 pm20 cd20 ct20 oc21 kV21 dc21 pm21 cd21 ct21 oc22 kV22 dc22 pm22 cd22 ct22 oc23 kV23 dc23 pm23 cd23 ct23 oc24 kV24 dc24 pm24 cd24 ct24 oc25 kV25 dc25 pm25 cd25 ct25 oc26 kV26 dc26 pm26 cd26 ct26 oc27 kV27 dc27 pm27 cd27 ct27 oc28 kV28 dc28 pm28 cd28 ct28 oc29 kV29 dc29 pm29 cd29 ct29 oc30 kV30 dc30 pm30 cd30 ct30 oc31 kV31 dc31 pm31 cd31 ct31 oc32 kV32 dc32 pm32 cd32 ct32 oc33 kV33 dc33 pm33 cd33 ct33 oc34 kV34 dc34 pm34 cd34 ct34 oc35 kV35 dc35 pm35 cd35 ct35 oc36 kV36 dc36 pm36 cd36 ct36 oc37 kV37 dc37 pm37 cd37 ct37 oc38 kV38 dc38 pm38 cd38 ct38 oc39 kV39 dc39 pm39 cd39 ct39 oc40 kV40 dc40 pm40 cd40 ct40 oc41 kV41 dc41 pm41 cd41 ct41 oc42 kV42 dc42 pm42 cd42 ct42 oc43 kV43 dc43 pm43 cd43 ct43 oc44 kV44 dc44 pm44 cd44 ct44 oc45 kV45 dc45 pm45 cd45 ct45:Value}
  (a1:PySem.W.nsIn K mainGlobals "common_part" = some (some (.ref f1))) (l1:K.lookup f1=some ⟨oc1,od1,.func (PySem.W.fnOf "common_part" "common_part" (defArgs sCommon) (defBody sCommon) (defScope sCommon) .none kV1 dc1 pm1 an1 cd1 ct1),sl1⟩) (c1:PySem.W.codeIn K cd1 "common_part" = true) (k1:PySem.W.keepIn K (.ref f1)=true)
  (a2:PySem.W.nsIn K mainGlobals "fraction" = some (some (.ref f2))) (l2:K.lookup f2=some ⟨oc2,od2,.func (PySem.W.fnOf "fraction" "fraction" (defArgs sFraction) (defBody sFraction) (defScope sFraction) .none kV2 dc2 pm2 an2 cd2 ct2),sl2⟩) (c2:PySem.W.codeIn K cd2 "fraction" = true) (k2:PySem.W.keepIn K (.ref f2)=true)
  (a3:PySem.W.nsIn K mainGlobals "plus" = some (some (.ref f3))) (l3:K.lookup f3=some ⟨oc3,od3,.func (PySem.W.fnOf "plus" "plus" (defArgs sPlus) (defBody sPlus) (defScope sPlus) .none kV3 dc3 pm3 an3 cd3 ct3),sl3⟩) (c3:PySem.W.codeIn K cd3 "plus" = true) (k3:PySem.W.keepIn K (.ref f3)=true)
  (a4:PySem.W.nsIn K mainGlobals "minus" = some (some (.ref f4))) (l4:K.lookup f4=some ⟨oc4,od4,.func (PySem.W.fnOf "minus" "minus" (defArgs sMinus) (defBody sMinus) (defScope sMinus) .none kV4 dc4 pm4 an4 cd4 ct4),sl4⟩) (c4:PySem.W.codeIn K cd4 "minus" = true) (k4:PySem.W.keepIn K (.ref f4)=true)
  (a5:PySem.W.nsIn K mainGlobals "times" = some (some (.ref f5))) (l5:K.lookup f5=some ⟨oc5,od5,.func (PySem.W.fnOf "times" "times" (defArgs sTimes) (defBody sTimes) (defScope sTimes) .none kV5 dc5 pm5 an5 cd5 ct5),sl5⟩) (c5:PySem.W.codeIn K cd5 "times" = true) (k5:PySem.W.keepIn K (.ref f5)=true)
  (a6:PySem.W.nsIn K mainGlobals "common_bottom" = some (some (.ref f6))) (l6:K.lookup f6=some ⟨oc6,od6,.func (PySem.W.fnOf "common_bottom" "common_bottom" (defArgs sCBot) (defBody sCBot) (defScope sCBot) .none kV6 dc6 pm6 an6 cd6 ct6),sl6⟩) (c6:PySem.W.codeIn K cd6 "common_bottom" = true) (k6:PySem.W.keepIn K (.ref f6)=true)
  (a7:PySem.W.nsIn K mainGlobals "wholes" = some (some (.ref f7))) (l7:K.lookup f7=some ⟨oc7,od7,.func (PySem.W.fnOf "wholes" "wholes" (defArgs sWholes) (defBody sWholes) (defScope sWholes) .none kV7 dc7 pm7 an7 cd7 ct7),sl7⟩) (c7:PySem.W.codeIn K cd7 "wholes" = true) (k7:PySem.W.keepIn K (.ref f7)=true)
  (a8:PySem.W.nsIn K mainGlobals "led" = some (some (.ref f8))) (l8:K.lookup f8=some ⟨oc8,od8,.func (PySem.W.fnOf "led" "led" (defArgs sLed) (defBody sLed) (defScope sLed) .none kV8 dc8 pm8 an8 cd8 ct8),sl8⟩) (c8:PySem.W.codeIn K cd8 "led" = true) (k8:PySem.W.keepIn K (.ref f8)=true)
  (a9:PySem.W.nsIn K mainGlobals "swept_row" = some (some (.ref f9))) (l9:K.lookup f9=some ⟨oc9,od9,.func (PySem.W.fnOf "swept_row" "swept_row" (defArgs sSweptRow) (defBody sSweptRow) (defScope sSweptRow) .none kV9 dc9 pm9 an9 cd9 ct9),sl9⟩) (c9:PySem.W.codeIn K cd9 "swept_row" = true) (k9:PySem.W.keepIn K (.ref f9)=true)
  (a10:PySem.W.nsIn K mainGlobals "swept" = some (some (.ref f10))) (l10:K.lookup f10=some ⟨oc10,od10,.func (PySem.W.fnOf "swept" "swept" (defArgs sSwept) (defBody sSwept) (defScope sSwept) .none kV10 dc10 pm10 an10 cd10 ct10),sl10⟩) (c10:PySem.W.codeIn K cd10 "swept" = true) (k10:PySem.W.keepIn K (.ref f10)=true)
  (a11:PySem.W.nsIn K mainGlobals "found_back" = some (some (.ref f11))) (l11:K.lookup f11=some ⟨oc11,od11,.func (PySem.W.fnOf "found_back" "found_back" (defArgs sBack) (defBody sBack) (defScope sBack) .none kV11 dc11 pm11 an11 cd11 ct11),sl11⟩) (c11:PySem.W.codeIn K cd11 "found_back" = true) (k11:PySem.W.keepIn K (.ref f11)=true)
  (a12:PySem.W.nsIn K mainGlobals "answer" = some (some (.ref f12))) (l12:K.lookup f12=some ⟨oc12,od12,.func (PySem.W.fnOf "answer" "answer" (defArgs sAnswer) (defBody sAnswer) (defScope sAnswer) .none kV12 dc12 pm12 an12 cd12 ct12),sl12⟩) (c12:PySem.W.codeIn K cd12 "answer" = true) (k12:PySem.W.keepIn K (.ref f12)=true)
  (a13:PySem.W.nsIn K mainGlobals "ease_table" = some (some (.ref f13))) (l13:K.lookup f13=some ⟨oc13,od13,.func (PySem.W.fnOf "ease_table" "ease_table" (defArgs sEaseTable) (defBody sEaseTable) (defScope sEaseTable) .none kV13 dc13 pm13 an13 cd13 ct13),sl13⟩) (c13:PySem.W.codeIn K cd13 "ease_table" = true) (k13:PySem.W.keepIn K (.ref f13)=true)
  (a14:PySem.W.nsIn K mainGlobals "poleless" = some (some (.ref f14))) (l14:K.lookup f14=some ⟨oc14,od14,.func (PySem.W.fnOf "poleless" "poleless" (defArgs sPoleless) (defBody sPoleless) (defScope sPoleless) .none kV14 dc14 pm14 an14 cd14 ct14),sl14⟩) (c14:PySem.W.codeIn K cd14 "poleless" = true) (k14:PySem.W.keepIn K (.ref f14)=true)
  (a15:PySem.W.nsIn K mainGlobals "heights" = some (some (.ref f15))) (l15:K.lookup f15=some ⟨oc15,od15,.func (PySem.W.fnOf "heights" "heights" (defArgs sHeights) (defBody sHeights) (defScope sHeights) .none kV15 dc15 pm15 an15 cd15 ct15),sl15⟩) (c15:PySem.W.codeIn K cd15 "heights" = true) (k15:PySem.W.keepIn K (.ref f15)=true)
  (a16:PySem.W.nsIn K mainGlobals "fall_of" = some (some (.ref f16))) (l16:K.lookup f16=some ⟨oc16,od16,.func (PySem.W.fnOf "fall_of" "fall_of" (defArgs sFallOf) (defBody sFallOf) (defScope sFallOf) .none kV16 dc16 pm16 an16 cd16 ct16),sl16⟩) (c16:PySem.W.codeIn K cd16 "fall_of" = true) (k16:PySem.W.keepIn K (.ref f16)=true)
  (a17:PySem.W.nsIn K mainGlobals "runnings_by" = some (some (.ref f17))) (l17:K.lookup f17=some ⟨oc17,od17,.func (PySem.W.fnOf "runnings_by" "runnings_by" (defArgs sRunBy) (defBody sRunBy) (defScope sRunBy) .none kV17 dc17 pm17 an17 cd17 ct17),sl17⟩) (c17:PySem.W.codeIn K cd17 "runnings_by" = true) (k17:PySem.W.keepIn K (.ref f17)=true)
  (a18:PySem.W.nsIn K mainGlobals "runnings" = some (some (.ref f18))) (l18:K.lookup f18=some ⟨oc18,od18,.func (PySem.W.fnOf "runnings" "runnings" (defArgs sRunnings) (defBody sRunnings) (defScope sRunnings) .none kV18 dc18 pm18 an18 cd18 ct18),sl18⟩) (c18:PySem.W.codeIn K cd18 "runnings" = true) (k18:PySem.W.keepIn K (.ref f18)=true)
  (a19:PySem.W.nsIn K mainGlobals "ease_of" = some (some (.ref f19))) (l19:K.lookup f19=some ⟨oc19,od19,.func (PySem.W.fnOf "ease_of" "ease_of" (defArgs sEaseOf) (defBody sEaseOf) (defScope sEaseOf) .none kV19 dc19 pm19 an19 cd19 ct19),sl19⟩) (c19:PySem.W.codeIn K cd19 "ease_of" = true) (k19:PySem.W.keepIn K (.ref f19)=true)
  (a20:PySem.W.nsIn K mainGlobals "is_ease" = some (some (.ref f20))) (l20:K.lookup f20=some ⟨oc20,od20,.func (PySem.W.fnOf "is_ease" "is_ease" (defArgs s_is_ease) (defBody s_is_ease) (defScope s_is_ease) .none kV20 dc20 pm20 an20 cd20 ct20),sl20⟩) (c20:PySem.W.codeIn K cd20 "is_ease" = true) (k20:PySem.W.keepIn K (.ref f20)=true)
  (a21:PySem.W.nsIn K mainGlobals "led_to" = some (some (.ref f21))) (l21:K.lookup f21=some ⟨oc21,od21,.func (PySem.W.fnOf "led_to" "led_to" (defArgs s_led_to) (defBody s_led_to) (defScope s_led_to) .none kV21 dc21 pm21 an21 cd21 ct21),sl21⟩) (c21:PySem.W.codeIn K cd21 "led_to" = true) (k21:PySem.W.keepIn K (.ref f21)=true)
  (a22:PySem.W.nsIn K mainGlobals "check_hanging" = some (some (.ref f22))) (l22:K.lookup f22=some ⟨oc22,od22,.func (PySem.W.fnOf "check_hanging" "check_hanging" (defArgs s_check_hanging) (defBody s_check_hanging) (defScope s_check_hanging) .none kV22 dc22 pm22 an22 cd22 ct22),sl22⟩) (c22:PySem.W.codeIn K cd22 "check_hanging" = true) (k22:PySem.W.keepIn K (.ref f22)=true)
  (a23:PySem.W.nsIn K mainGlobals "begun_least" = some (some (.ref f23))) (l23:K.lookup f23=some ⟨oc23,od23,.func (PySem.W.fnOf "begun_least" "begun_least" (defArgs s_begun_least) (defBody s_begun_least) (defScope s_begun_least) .none kV23 dc23 pm23 an23 cd23 ct23),sl23⟩) (c23:PySem.W.codeIn K cd23 "begun_least" = true) (k23:PySem.W.keepIn K (.ref f23)=true)
  (a24:PySem.W.nsIn K mainGlobals "told_turns" = some (some (.ref f24))) (l24:K.lookup f24=some ⟨oc24,od24,.func (PySem.W.fnOf "told_turns" "told_turns" (defArgs s_told_turns) (defBody s_told_turns) (defScope s_told_turns) .none kV24 dc24 pm24 an24 cd24 ct24),sl24⟩) (c24:PySem.W.codeIn K cd24 "told_turns" = true) (k24:PySem.W.keepIn K (.ref f24)=true)
  (a25:PySem.W.nsIn K mainGlobals "check_rope_number" = some (some (.ref f25))) (l25:K.lookup f25=some ⟨oc25,od25,.func (PySem.W.fnOf "check_rope_number" "check_rope_number" (defArgs s_check_rope_number) (defBody s_check_rope_number) (defScope s_check_rope_number) .none kV25 dc25 pm25 an25 cd25 ct25),sl25⟩) (c25:PySem.W.codeIn K cd25 "check_rope_number" = true) (k25:PySem.W.keepIn K (.ref f25)=true)
  (a26:PySem.W.nsIn K mainGlobals "eased" = some (some (.ref f26))) (l26:K.lookup f26=some ⟨oc26,od26,.func (PySem.W.fnOf "eased" "eased" (defArgs s_eased) (defBody s_eased) (defScope s_eased) .none kV26 dc26 pm26 an26 cd26 ct26),sl26⟩) (c26:PySem.W.codeIn K cd26 "eased" = true) (k26:PySem.W.keepIn K (.ref f26)=true)
  (a27:PySem.W.nsIn K mainGlobals "turn_without" = some (some (.ref f27))) (l27:K.lookup f27=some ⟨oc27,od27,.func (PySem.W.fnOf "turn_without" "turn_without" (defArgs s_turn_without) (defBody s_turn_without) (defScope s_turn_without) .none kV27 dc27 pm27 an27 cd27 ct27),sl27⟩) (c27:PySem.W.codeIn K cd27 "turn_without" = true) (k27:PySem.W.keepIn K (.ref f27)=true)
  (a28:PySem.W.nsIn K mainGlobals "taken_out" = some (some (.ref f28))) (l28:K.lookup f28=some ⟨oc28,od28,.func (PySem.W.fnOf "taken_out" "taken_out" (defArgs s_taken_out) (defBody s_taken_out) (defScope s_taken_out) .none kV28 dc28 pm28 an28 cd28 ct28),sl28⟩) (c28:PySem.W.codeIn K cd28 "taken_out" = true) (k28:PySem.W.keepIn K (.ref f28)=true)
  (a29:PySem.W.nsIn K mainGlobals "_law_cell" = some (some (.ref f29))) (l29:K.lookup f29=some ⟨oc29,od29,.func (PySem.W.fnOf "_law_cell" "_law_cell" (defArgs sCellAt) (defBody sCellAt) (defScope sCellAt) .none kV29 dc29 pm29 an29 cd29 ct29),sl29⟩) (c29:PySem.W.codeIn K cd29 "_law_cell" = true) (k29:PySem.W.keepIn K (.ref f29)=true)
  (a30:PySem.W.nsIn K mainGlobals "_law_low" = some (some (.ref f30))) (l30:K.lookup f30=some ⟨oc30,od30,.func (PySem.W.fnOf "_law_low" "_law_low" (defArgs sLow) (defBody sLow) (defScope sLow) .none kV30 dc30 pm30 an30 cd30 ct30),sl30⟩) (c30:PySem.W.codeIn K cd30 "_law_low" = true) (k30:PySem.W.keepIn K (.ref f30)=true)
  (a31:PySem.W.nsIn K mainGlobals "_law_add" = some (some (.ref f31))) (l31:K.lookup f31=some ⟨oc31,od31,.func (PySem.W.fnOf "_law_add" "_law_add" (defArgs sLAdd) (defBody sLAdd) (defScope sLAdd) .none kV31 dc31 pm31 an31 cd31 ct31),sl31⟩) (c31:PySem.W.codeIn K cd31 "_law_add" = true) (k31:PySem.W.keepIn K (.ref f31)=true)
  (a32:PySem.W.nsIn K mainGlobals "_law_take" = some (some (.ref f32))) (l32:K.lookup f32=some ⟨oc32,od32,.func (PySem.W.fnOf "_law_take" "_law_take" (defArgs sLTake) (defBody sLTake) (defScope sLTake) .none kV32 dc32 pm32 an32 cd32 ct32),sl32⟩) (c32:PySem.W.codeIn K cd32 "_law_take" = true) (k32:PySem.W.keepIn K (.ref f32)=true)
  (a33:PySem.W.nsIn K mainGlobals "_law_ease" = some (some (.ref f33))) (l33:K.lookup f33=some ⟨oc33,od33,.func (PySem.W.fnOf "_law_ease" "_law_ease" (defArgs sLEase) (defBody sLEase) (defScope sLEase) .none kV33 dc33 pm33 an33 cd33 ct33),sl33⟩) (c33:PySem.W.codeIn K cd33 "_law_ease" = true) (k33:PySem.W.keepIn K (.ref f33)=true)
  (a34:PySem.W.nsIn K mainGlobals "_law_spot" = some (some (.ref f34))) (l34:K.lookup f34=some ⟨oc34,od34,.func (PySem.W.fnOf "_law_spot" "_law_spot" (defArgs sSpot) (defBody sSpot) (defScope sSpot) .none kV34 dc34 pm34 an34 cd34 ct34),sl34⟩) (c34:PySem.W.codeIn K cd34 "_law_spot" = true) (k34:PySem.W.keepIn K (.ref f34)=true)
  (a35:PySem.W.nsIn K mainGlobals "_law_next" = some (some (.ref f35))) (l35:K.lookup f35=some ⟨oc35,od35,.func (PySem.W.fnOf "_law_next" "_law_next" (defArgs sNext) (defBody sNext) (defScope sNext) .none kV35 dc35 pm35 an35 cd35 ct35),sl35⟩) (c35:PySem.W.codeIn K cd35 "_law_next" = true) (k35:PySem.W.keepIn K (.ref f35)=true)
  (a36:PySem.W.nsIn K mainGlobals "_law_put" = some (some (.ref f36))) (l36:K.lookup f36=some ⟨oc36,od36,.func (PySem.W.fnOf "_law_put" "_law_put" (defArgs sPut) (defBody sPut) (defScope sPut) .none kV36 dc36 pm36 an36 cd36 ct36),sl36⟩) (c36:PySem.W.codeIn K cd36 "_law_put" = true) (k36:PySem.W.keepIn K (.ref f36)=true)
  (a37:PySem.W.nsIn K mainGlobals "_law_grow" = some (some (.ref f37))) (l37:K.lookup f37=some ⟨oc37,od37,.func (PySem.W.fnOf "_law_grow" "_law_grow" (defArgs sGrow) (defBody sGrow) (defScope sGrow) .none kV37 dc37 pm37 an37 cd37 ct37),sl37⟩) (c37:PySem.W.codeIn K cd37 "_law_grow" = true) (k37:PySem.W.keepIn K (.ref f37)=true)
  (a38:PySem.W.nsIn K mainGlobals "_law_order" = some (some (.ref f38))) (l38:K.lookup f38=some ⟨oc38,od38,.func (PySem.W.fnOf "_law_order" "_law_order" (defArgs s_law_order) (defBody s_law_order) (defScope s_law_order) .none kV38 dc38 pm38 an38 cd38 ct38),sl38⟩) (c38:PySem.W.codeIn K cd38 "_law_order" = true) (k38:PySem.W.keepIn K (.ref f38)=true)
  (a39:PySem.W.nsIn K mainGlobals "_law_named" = some (some (.ref f39))) (l39:K.lookup f39=some ⟨oc39,od39,.func (PySem.W.fnOf "_law_named" "_law_named" (defArgs s_law_named) (defBody s_law_named) (defScope s_law_named) .none kV39 dc39 pm39 an39 cd39 ct39),sl39⟩) (c39:PySem.W.codeIn K cd39 "_law_named" = true) (k39:PySem.W.keepIn K (.ref f39)=true)
  (a40:PySem.W.nsIn K mainGlobals "_law_net" = some (some (.ref f40))) (l40:K.lookup f40=some ⟨oc40,od40,.func (PySem.W.fnOf "_law_net" "_law_net" (defArgs sNet) (defBody sNet) (defScope sNet) .none kV40 dc40 pm40 an40 cd40 ct40),sl40⟩) (c40:PySem.W.codeIn K cd40 "_law_net" = true) (k40:PySem.W.keepIn K (.ref f40)=true)
  (a41:PySem.W.nsIn K mainGlobals "_law_some_net" = some (some (.ref f41))) (l41:K.lookup f41=some ⟨oc41,od41,.func (PySem.W.fnOf "_law_some_net" "_law_some_net" (defArgs sSomeNet) (defBody sSomeNet) (defScope sSomeNet) .none kV41 dc41 pm41 an41 cd41 ct41),sl41⟩) (c41:PySem.W.codeIn K cd41 "_law_some_net" = true) (k41:PySem.W.keepIn K (.ref f41)=true)
  (a42:PySem.W.nsIn K mainGlobals "_law_grew" = some (some (.ref f42))) (l42:K.lookup f42=some ⟨oc42,od42,.func (PySem.W.fnOf "_law_grew" "_law_grew" (defArgs s_law_grew) (defBody s_law_grew) (defScope s_law_grew) .none kV42 dc42 pm42 an42 cd42 ct42),sl42⟩) (c42:PySem.W.codeIn K cd42 "_law_grew" = true) (k42:PySem.W.keepIn K (.ref f42)=true)
  (a43:PySem.W.nsIn K mainGlobals "_law_without" = some (some (.ref f43))) (l43:K.lookup f43=some ⟨oc43,od43,.func (PySem.W.fnOf "_law_without" "_law_without" (defArgs s_law_without) (defBody s_law_without) (defScope s_law_without) .none kV43 dc43 pm43 an43 cd43 ct43),sl43⟩) (c43:PySem.W.codeIn K cd43 "_law_without" = true) (k43:PySem.W.keepIn K (.ref f43)=true)
  (a44:PySem.W.nsIn K mainGlobals "law" = some (some (.ref f44))) (l44:K.lookup f44=some ⟨oc44,od44,.func (PySem.W.fnOf "law" "law" (defArgs sLaw) (defBody sLaw) (defScope sLaw) .none kV44 dc44 pm44 an44 cd44 ct44),sl44⟩) (c44:PySem.W.codeIn K cd44 "law" = true) (k44:PySem.W.keepIn K (.ref f44)=true)
  (a45:PySem.W.findIn K (.ref C) "__init__" = some (some (.ref f45))) (i45:PySem.W.isFn K (.ref f45)=true) (l45:K.lookup f45=some ⟨oc45,od45,.func (PySem.W.fnOf "__init__" "Loose.__init__" (defArgs sLInit) (defBody sLInit) (defScope sLInit) .none kV45 dc45 pm45 an45 cd45 ct45),sl45⟩) (c45:PySem.W.codeIn K cd45 "Loose.__init__" = true) (k45:PySem.W.keepIn K (.ref f45)=true)
  (aC:PySem.W.nsIn K mainGlobals "Loose" = some (some (.ref C)))
  (xC:L2.excI K C [.type "ValueError",.type "Exception",.type "BaseException",.type "object"] "ValueError.__new__" f45=true)
  (xF:PySem.W.exmOne K (.ref C) (.ref C)=some true)
  (xs1:PySem.W.findIn K (.ref C) "__setattr__" = some (some (.builtin "object.__setattr__")))
  (xs2:L2.exIn K C=true)
  (xs3:PySem.W.findIn K (.ref C) "place" = some none)
  (z_abs:PySem.W.nsIn K mainGlobals "abs" = some none)
  (z_len:PySem.W.nsIn K mainGlobals "len" = some none)
  (z_range:PySem.W.nsIn K mainGlobals "range" = some none)
  (z_list:PySem.W.nsIn K mainGlobals "list" = some none)
  (z_zip:PySem.W.nsIn K mainGlobals "zip" = some none)
  (z_tuple:PySem.W.nsIn K mainGlobals "tuple" = some none)
  (z_sum:PySem.W.nsIn K mainGlobals "sum" = some none)
  (z_min:PySem.W.nsIn K mainGlobals "min" = some none)
  : ∃ fd:FuncData,(∀ (s:Shared) (v:Value),BindsTo s fd ⟨[v],[]⟩ [("_law_script",v)])∧∀ base:Heap,K.In base->base.Ns mainGlobals mg->FnOk l.prog w K mg base CX0 8 fa fd ["_law_script"] (spLaw K):=by
 have e:=hfa.symm.trans (PySem.W.mg_of X G a44)
 cases e
 have F1:=fun_mk (st:=sCommon) l1 c1 k1
 have b1:=F1.binds (ps:=["one","other"]) fun _ _ _ _ _ _ us hl=>by obtain ⟨_,_,rfl⟩:=len_2 hl; rfl
 have m1:=PySem.W.mg_of X G a1
 have F2:=fun_mk (st:=sFraction) l2 c2 k2
 have b2:=F2.binds (ps:=["top","bottom"]) fun _ _ _ _ _ _ us hl=>by obtain ⟨_,_,rfl⟩:=len_2 hl; rfl
 have m2:=PySem.W.mg_of X G a2
 have F3:=fun_mk (st:=sPlus) l3 c3 k3
 have b3:=F3.binds (ps:=["one","other"]) fun _ _ _ _ _ _ us hl=>by obtain ⟨_,_,rfl⟩:=len_2 hl; rfl
 have m3:=PySem.W.mg_of X G a3
 have F4:=fun_mk (st:=sMinus) l4 c4 k4
 have b4:=F4.binds (ps:=["one","other"]) fun _ _ _ _ _ _ us hl=>by obtain ⟨_,_,rfl⟩:=len_2 hl; rfl
 have m4:=PySem.W.mg_of X G a4
 have F5:=fun_mk (st:=sTimes) l5 c5 k5
 have b5:=F5.binds (ps:=["one","other"]) fun _ _ _ _ _ _ us hl=>by obtain ⟨_,_,rfl⟩:=len_2 hl; rfl
 have m5:=PySem.W.mg_of X G a5
 have F6:=fun_mk (st:=sCBot) l6 c6 k6
 have b6:=F6.binds (ps:=["row"]) fun _ _ _ _ _ _ us hl=>by obtain ⟨_,rfl⟩:=len_1 hl; rfl
 have m6:=PySem.W.mg_of X G a6
 have F7:=fun_mk (st:=sWholes) l7 c7 k7
 have b7:=F7.binds (ps:=["row","bottom"]) fun _ _ _ _ _ _ us hl=>by obtain ⟨_,_,rfl⟩:=len_2 hl; rfl
 have m7:=PySem.W.mg_of X G a7
 have F8:=fun_mk (st:=sLed) l8 c8 k8
 have b8:=F8.binds (ps:=["rows","k"]) fun _ _ _ _ _ _ us hl=>by obtain ⟨_,_,rfl⟩:=len_2 hl; rfl
 have m8:=PySem.W.mg_of X G a8
 have F9:=fun_mk (st:=sSweptRow) l9 c9 k9
 have b9:=F9.binds (ps:=["row","lead","k","before"]) fun _ _ _ _ _ _ us hl=>by obtain ⟨_,_,_,_,rfl⟩:=len_4 hl; rfl
 have m9:=PySem.W.mg_of X G a9
 have F10:=fun_mk (st:=sSwept) l10 c10 k10
 have b10:=F10.binds (ps:=["rows"]) fun _ _ _ _ _ _ us hl=>by obtain ⟨_,rfl⟩:=len_1 hl; rfl
 have m10:=PySem.W.mg_of X G a10
 have F11:=fun_mk (st:=sBack) l11 c11 k11
 have b11:=F11.binds (ps:=["rows"]) fun _ _ _ _ _ _ us hl=>by obtain ⟨_,rfl⟩:=len_1 hl; rfl
 have m11:=PySem.W.mg_of X G a11
 have F12:=fun_mk (st:=sAnswer) l12 c12 k12
 have b12:=F12.binds (ps:=["table","right"]) fun _ _ _ _ _ _ us hl=>by obtain ⟨_,_,rfl⟩:=len_2 hl; rfl
 have m12:=PySem.W.mg_of X G a12
 have F13:=fun_mk (st:=sEaseTable) l13 c13 k13
 have b13:=F13.binds (ps:=["net"]) fun _ _ _ _ _ _ us hl=>by obtain ⟨_,rfl⟩:=len_1 hl; rfl
 have m13:=PySem.W.mg_of X G a13
 have F14:=fun_mk (st:=sPoleless) l14 c14 k14
 have b14:=F14.binds (ps:=["table"]) fun _ _ _ _ _ _ us hl=>by obtain ⟨_,rfl⟩:=len_1 hl; rfl
 have m14:=PySem.W.mg_of X G a14
 have F15:=fun_mk (st:=sHeights) l15 c15 k15
 have b15:=F15.binds (ps:=["net"]) fun _ _ _ _ _ _ us hl=>by obtain ⟨_,rfl⟩:=len_1 hl; rfl
 have m15:=PySem.W.mg_of X G a15
 have F16:=fun_mk (st:=sFallOf) l16 c16 k16
 have b16:=F16.binds (ps:=["rope","levels"]) fun _ _ _ _ _ _ us hl=>by obtain ⟨_,_,rfl⟩:=len_2 hl; rfl
 have m16:=PySem.W.mg_of X G a16
 have F17:=fun_mk (st:=sRunBy) l17 c17 k17
 have b17:=F17.binds (ps:=["net","levels"]) fun _ _ _ _ _ _ us hl=>by obtain ⟨_,_,rfl⟩:=len_2 hl; rfl
 have m17:=PySem.W.mg_of X G a17
 have F18:=fun_mk (st:=sRunnings) l18 c18 k18
 have b18:=F18.binds (ps:=["net"]) fun _ _ _ _ _ _ us hl=>by obtain ⟨_,rfl⟩:=len_1 hl; rfl
 have m18:=PySem.W.mg_of X G a18
 have F19:=fun_mk (st:=sEaseOf) l19 c19 k19
 have b19:=F19.binds (ps:=["net"]) fun _ _ _ _ _ _ us hl=>by obtain ⟨_,rfl⟩:=len_1 hl; rfl
 have m19:=PySem.W.mg_of X G a19
 have F20:=fun_mk (st:=s_is_ease) l20 c20 k20
 have b20:=F20.binds (ps:=["ease"]) fun _ _ _ _ _ _ us hl=>by obtain ⟨_,rfl⟩:=len_1 hl; rfl
 have m20:=PySem.W.mg_of X G a20
 have F21:=fun_mk (st:=s_led_to) l21 c21 k21
 have b21:=F21.binds (ps:=["start","ropes"]) fun _ _ _ _ _ _ us hl=>by obtain ⟨_,_,rfl⟩:=len_2 hl; rfl
 have m21:=PySem.W.mg_of X G a21
 have F22:=fun_mk (st:=s_check_hanging) l22 c22 k22
 have b22:=F22.binds (ps:=["places","ropes"]) fun _ _ _ _ _ _ us hl=>by obtain ⟨_,_,rfl⟩:=len_2 hl; rfl
 have m22:=PySem.W.mg_of X G a22
 have F23:=fun_mk (st:=s_begun_least) l23 c23 k23
 have b23:=F23.binds (ps:=["turn"]) fun _ _ _ _ _ _ us hl=>by obtain ⟨_,rfl⟩:=len_1 hl; rfl
 have m23:=PySem.W.mg_of X G a23
 have F24:=fun_mk (st:=s_told_turns) l24 c24 k24
 have b24:=F24.binds (ps:=["turns"]) fun _ _ _ _ _ _ us hl=>by obtain ⟨_,rfl⟩:=len_1 hl; rfl
 have m24:=PySem.W.mg_of X G a24
 have F25:=fun_mk (st:=s_check_rope_number) l25 c25 k25
 have b25:=F25.binds (ps:=["ropes","number"]) fun _ _ _ _ _ _ us hl=>by obtain ⟨_,_,rfl⟩:=len_2 hl; rfl
 have m25:=PySem.W.mg_of X G a25
 have F26:=fun_mk (st:=s_eased) l26 c26 k26
 have b26:=F26.binds (ps:=["net","rope","ease"]) fun _ _ _ _ _ _ us hl=>by obtain ⟨_,_,_,rfl⟩:=len_3 hl; rfl
 have m26:=PySem.W.mg_of X G a26
 have F27:=fun_mk (st:=s_turn_without) l27 c27 k27
 have b27:=F27.binds (ps:=["turn","rope"]) fun _ _ _ _ _ _ us hl=>by obtain ⟨_,_,rfl⟩:=len_2 hl; rfl
 have m27:=PySem.W.mg_of X G a27
 have F28:=fun_mk (st:=s_taken_out) l28 c28 k28
 have b28:=F28.binds (ps:=["net","rope"]) fun _ _ _ _ _ _ us hl=>by obtain ⟨_,_,rfl⟩:=len_2 hl; rfl
 have m28:=PySem.W.mg_of X G a28
 have F29:=fun_mk (st:=sCellAt) l29 c29 k29
 have b29:=F29.binds (ps:=["_law_script","_law_k"]) fun _ _ _ _ _ _ us hl=>by obtain ⟨_,_,rfl⟩:=len_2 hl; rfl
 have m29:=PySem.W.mg_of X G a29
 have F30:=fun_mk (st:=sLow) l30 c30 k30
 have b30:=F30.binds (ps:=["_law_top","_law_bottom"]) fun _ _ _ _ _ _ us hl=>by obtain ⟨_,_,rfl⟩:=len_2 hl; rfl
 have m30:=PySem.W.mg_of X G a30
 have F31:=fun_mk (st:=sLAdd) l31 c31 k31
 have b31:=F31.binds (ps:=["_law_one","_law_other"]) fun _ _ _ _ _ _ us hl=>by obtain ⟨_,_,rfl⟩:=len_2 hl; rfl
 have m31:=PySem.W.mg_of X G a31
 have F32:=fun_mk (st:=sLTake) l32 c32 k32
 have b32:=F32.binds (ps:=["_law_one","_law_other"]) fun _ _ _ _ _ _ us hl=>by obtain ⟨_,_,rfl⟩:=len_2 hl; rfl
 have m32:=PySem.W.mg_of X G a32
 have F33:=fun_mk (st:=sLEase) l33 c33 k33
 have b33:=F33.binds (ps:=["_law_cell_here"]) fun _ _ _ _ _ _ us hl=>by obtain ⟨_,rfl⟩:=len_1 hl; rfl
 have m33:=PySem.W.mg_of X G a33
 have F34:=fun_mk (st:=sSpot) l34 c34 k34
 have b34:=F34.binds (ps:=["_law_turns","_law_end"]) fun _ _ _ _ _ _ us hl=>by obtain ⟨_,_,rfl⟩:=len_2 hl; rfl
 have m34:=PySem.W.mg_of X G a34
 have F35:=fun_mk (st:=sNext) l35 c35 k35
 have b35:=F35.binds (ps:=["_law_turns","_law_end"]) fun _ _ _ _ _ _ us hl=>by obtain ⟨_,_,rfl⟩:=len_2 hl; rfl
 have m35:=PySem.W.mg_of X G a35
 have F36:=fun_mk (st:=sPut) l36 c36 k36
 have b36:=F36.binds (ps:=["_law_turns","_law_end","_law_fresh"]) fun _ _ _ _ _ _ us hl=>by obtain ⟨_,_,_,rfl⟩:=len_3 hl; rfl
 have m36:=PySem.W.mg_of X G a36
 have F37:=fun_mk (st:=sGrow) l37 c37 k37
 have b37:=F37.binds (ps:=["_law_ropes","_law_turns","_law_cell_here"]) fun _ _ _ _ _ _ us hl=>by obtain ⟨_,_,_,rfl⟩:=len_3 hl; rfl
 have m37:=PySem.W.mg_of X G a37
 have F38:=fun_mk (st:=s_law_order) l38 c38 k38
 have b38:=F38.binds (ps:=["_law_some","_law_cell_here"]) fun _ _ _ _ _ _ us hl=>by obtain ⟨_,_,rfl⟩:=len_2 hl; rfl
 have m38:=PySem.W.mg_of X G a38
 have F39:=fun_mk (st:=s_law_named) l39 c39 k39
 have b39:=F39.binds (ps:=["_law_ropes","_law_turns","_law_cell_here"]) fun _ _ _ _ _ _ us hl=>by obtain ⟨_,_,_,rfl⟩:=len_3 hl; rfl
 have m39:=PySem.W.mg_of X G a39
 have F40:=fun_mk (st:=sNet) l40 c40 k40
 have b40:=F40.binds (ps:=["_law_cells","_law_first","_law_names"]) fun _ _ _ _ _ _ us hl=>by obtain ⟨_,_,_,rfl⟩:=len_3 hl; rfl
 have m40:=PySem.W.mg_of X G a40
 have F41:=fun_mk (st:=sSomeNet) l41 c41 k41
 have b41:=F41.binds (ps:=["_law_script","_law_at","_law_sizes"]) fun _ _ _ _ _ _ us hl=>by obtain ⟨_,_,_,rfl⟩:=len_3 hl; rfl
 have m41:=PySem.W.mg_of X G a41
 have F42:=fun_mk (st:=s_law_grew) l42 c42 k42
 have b42:=F42.binds (ps:=["_law_before","_law_after","_law_running"]) fun _ _ _ _ _ _ us hl=>by obtain ⟨_,_,_,rfl⟩:=len_3 hl; rfl
 have m42:=PySem.W.mg_of X G a42
 have F43:=fun_mk (st:=s_law_without) l43 c43 k43
 have b43:=F43.binds (ps:=["_law_net_here","_law_rope"]) fun _ _ _ _ _ _ us hl=>by obtain ⟨_,_,rfl⟩:=len_2 hl; rfl
 have m43:=PySem.W.mg_of X G a43
 have F44:=fun_mk (st:=sLaw) l44 c44 k44
 have F45:=fun_mk (st:=sLInit) l45 c45 k45
 have b45:=F45.binds (ps:=["self","place"]) fun _ _ _ _ _ _ us hl=>by obtain ⟨_,_,rfl⟩:=len_2 hl; rfl
 have mC:=PySem.W.mg_of X G aC
 have xs:L2.XStore K C "place":=⟨xs1,xs2,xs3⟩
 have m_abs:=PySem.W.mg_none_of X G z_abs
 have m_len:=PySem.W.mg_none_of X G z_len
 have m_range:=PySem.W.mg_none_of X G z_range
 have m_list:=PySem.W.mg_none_of X G z_list
 have m_zip:=PySem.W.mg_none_of X G z_zip
 have m_tuple:=PySem.W.mg_none_of X G z_tuple
 have m_sum:=PySem.W.mg_none_of X G z_sum
 have m_min:=PySem.W.mg_none_of X G z_min
 refine ⟨PySem.W.fnOf "law" "law" (defArgs sLaw) (defBody sLaw) (defScope sLaw) .none kV44 dc44 pm44 an44 cd44 ct44,fun s v=>.of_eq rfl,fun base _ _=>?_⟩
 have O1:FnOk l.prog w K mg base CX0 1 f1 _ ["one","other"] spGcd:=ok_common F1  m_abs
 have O2:FnOk l.prog w K mg base CX0 2 f2 _ ["top","bottom"] (spFrac 0):=ok_fraction F2 O1 b1 k1 m1
 have O3:FnOk l.prog w K mg base CX0 3 f3 _ ["one","other"] (spBin fun x y=>x+y):=ok_plus F3 O2 b2 k2 m2
 have O4:FnOk l.prog w K mg base CX0 3 f4 _ ["one","other"] (spBin fun x y=>x-y):=ok_minus F4 O2 b2 k2 m2
 have O5:FnOk l.prog w K mg base CX0 3 f5 _ ["one","other"] (spBin fun x y=>x*y):=ok_times F5 O2 b2 k2 m2
 have O6:FnOk l.prog w K mg base CX0 2 f6 _ ["row"] spCB:=ok_cbot F6 O1 b1 k1 m1
 have O7:FnOk l.prog w K mg base CX0 1 f7 _ ["row","bottom"] spWholes:=ok_wholes F7
 have O8:FnOk l.prog w K mg base CX0 1 f8 _ ["rows","k"] spLed:=ok_led F8  m_len m_range m_list
 have O9:FnOk l.prog w K mg base CX0 1 f9 _ ["row","lead","k","before"] spSwr:=ok_sweptRow F9  m_zip
 have O10:FnOk l.prog w K mg base CX0 2 f10 _ ["rows"] spSwept:=ok_swept F10 O8 b8 k8 m8 O9 b9 k9 m9 m_len m_range
 have O11:FnOk l.prog w K mg base CX0 3 f11 _ ["rows"] spBack:=ok_back F11 O2 b2 k2 m2 m_len m_range m_zip m_sum m_tuple
 have O12:FnOk l.prog w K mg base CX0 4 f12 _ ["table","right"] (spAnswer 0):=ok_answer F12 O6 b6 k6 m6 O7 b7 k7 m7 O10 b10 k10 m10 O11 b11 k11 m11 m_len m_zip
 have O13:FnOk l.prog w K mg base CX0 4 f13 _ ["net"] spETab:=ok_etab F13 O3 b3 k3 m3 O4 b4 k4 m4 m_range m_tuple
 have O14:FnOk l.prog w K mg base CX0 1 f14 _ ["table"] spPole:=ok_pole F14  m_tuple
 have O15:FnOk l.prog w K mg base CX0 5 f15 _ ["net"] spHts:=ok_heights F15 O13 b13 k13 m13 O4 b4 k4 m4 O14 b14 k14 m14 O12 b12 k12 m12 m_tuple
 have O16:FnOk l.prog w K mg base CX0 4 f16 _ ["rope","levels"] spFall:=ok_fall F16 O4 b4 k4 m4
 have O17:FnOk l.prog w K mg base CX0 5 f17 _ ["net","levels"] spRunBy:=ok_runby F17 O5 b5 k5 m5 O16 b16 k16 m16 m_tuple
 have O18:FnOk l.prog w K mg base CX0 6 f18 _ ["net"] spRuns:=ok_runnings F18 O17 b17 k17 m17 O15 b15 k15 m15
 have O19:FnOk l.prog w K mg base CX0 7 f19 _ ["net"] spEaseOf:=ok_easeof F19 O3 b3 k3 m3 O4 b4 k4 m4 O18 b18 k18 m18 m_zip
 have O20:FnOk l.prog w K mg base CX0 2 f20 _ ["ease"] spIsE:=ok_isEase F20 O1 b1 k1 m1 m_len
 have O21:FnOk l.prog w K mg base CX0 1 f21 _ ["start","ropes"] spLdt:=ok_ldt F21  m_len
 have O45:FnOk l.prog w K mg base CX0 1 f45 _ ["self","place"] (spLin C):=ok_lin F45 xs
 have O22:FnOk l.prog w K mg base (CXr l.prog w) 3 f22 _ ["places","ropes"] (spHgX C):=ok_hgX F22 O21 b21 k21 m21 m_range O45 b45 i45 mC xC
 have O23:FnOk l.prog w K mg base CX0 1 f23 _ ["turn"] spBeg:=ok_beg F23  m_min
 have O24:FnOk l.prog w K mg base CX0 2 f24 _ ["turns"] spTold:=ok_told F24 O23 b23 k23 m23 m_tuple
 have OL:FnOk l.prog w K mg base CX0 2 f24 _ ["turns"] spToldL:=ok_toldL F24 O23 b23 k23 m23 m_tuple
 have O25:FnOk l.prog w K mg base CX0 1 f25 _ ["ropes","number"] spCrn:=ok_crn F25  m_len
 have O26:FnOk l.prog w K mg base CX0 3 f26 _ ["net","rope","ease"] spEased:=ok_eased F26 O25 b25 k25 m25 O20 b20 k20 m20 O24 b24 k24 m24 m_list m_tuple
 have O27:FnOk l.prog w K mg base CX0 1 f27 _ ["turn","rope"] spTwo:=ok_two F27  m_tuple
 have O28:FnOk l.prog w K mg base (CXr l.prog w) 4 f28 _ ["net","rope"] (spTaken C):=ok_taken F28 O25 b25 k25 m25 O22 b22 k22 m22 O27 b27 k27 m27 OL b24 k24 m24
 have O29:FnOk l.prog w K mg base CX0 1 f29 _ ["_law_script","_law_k"] (spCell K):=ok_cell F29  m_len
 have O30:FnOk l.prog w K mg base CX0 1 f30 _ ["_law_top","_law_bottom"] spLow:=ok_low F30  m_abs
 have O31:FnOk l.prog w K mg base CX0 2 f31 _ ["_law_one","_law_other"] (spBin fun x y=>x+y):=ok_ladd F31 O30 b30 k30 m30
 have O32:FnOk l.prog w K mg base CX0 2 f32 _ ["_law_one","_law_other"] (spBin fun x y=>x-y):=ok_ltake F32 O30 b30 k30 m30
 have O33:FnOk l.prog w K mg base CX0 2 f33 _ ["_law_cell_here"] spEase:=ok_ease F33 O30 b30 k30 m30
 have O34:FnOk l.prog w K mg base CX0 1 f34 _ ["_law_turns","_law_end"] spSpot:=ok_spot F34  m_len m_range
 have O35:FnOk l.prog w K mg base CX0 2 f35 _ ["_law_turns","_law_end"] spNext:=ok_next F35 O34 b34 k34 m34
 have O36:FnOk l.prog w K mg base CX0 2 f36 _ ["_law_turns","_law_end","_law_fresh"] spPut:=ok_put F36 O34 b34 k34 m34
 have O37:FnOk l.prog w K mg base CX0 3 f37 _ ["_law_ropes","_law_turns","_law_cell_here"] spGrow:=ok_grow F37 O33 b33 k33 m33 O36 b36 k36 m36 O34 b34 k34 m34 O35 b35 k35 m35 m_len m_range
 have O38:FnOk l.prog w K mg base CX0 1 f38 _ ["_law_some","_law_cell_here"] spOrder:=ok_order F38  m_len m_list
 have O39:FnOk l.prog w K mg base CX0 2 f39 _ ["_law_ropes","_law_turns","_law_cell_here"] spNamed:=ok_named F39 O38 b38 k38 m38 m_len m_range m_list m_tuple
 have O40:FnOk l.prog w K mg base CX0 4 f40 _ ["_law_cells","_law_first","_law_names"] spNet:=ok_net F40 O33 b33 k33 m33 O37 b37 k37 m37 O39 b39 k39 m39
 have O41:FnOk l.prog w K mg base CX0 5 f41 _ ["_law_script","_law_at","_law_sizes"] (spSome K):=ok_some F41 O29 b29 k29 m29 O40 b40 k40 m40 m_len m_min m_range
 have O42:FnOk l.prog w K mg base CX0 3 f42 _ ["_law_before","_law_after","_law_running"] spGrew:=ok_grew F42 O32 b32 k32 m32
 have O43:FnOk l.prog w K mg base CX0 5 f43 _ ["_law_net_here","_law_rope"] spWithout:=ok_without F43 O28 b28 k28 m28 mC xF
 exact ok_law F44 O41 b41 k41 m41 O15 b15 k15 m15 O19 b19 k19 m19 O29 b29 k29 m29 O18 b18 k18 m18 O31 b31 k31 m31 O33 b33 k33 m33 O42 b42 k42 m42 O26 b26 k26 m26 O43 b43 k43 m43 m_len
theorem walk {l:PySem.W.OpenLaw} {q:Program} {loose:List Str} {XP:(Str->Option Value)->Heap->Prop} {YP:World->Heap->Prop} {d:DefRec} {K:Params->PySem.W.Frag} (hn:l.most=some 63) (hdf:d.params.defaults=[])
  (hY:∀ (w:World) (h:Heap),YP w h->(K w.params).In h)
  (F:∀ (w:World) (mg:Str->Option Value) (fa:Addr) (h:Heap),(K w.params).In h->h.Ns mainGlobals mg->mg d.name=some (.ref fa) →
   ∃ fd:FuncData,(∀ (s:Shared) (u:Value),BindsTo s fd ⟨[u],[]⟩ [("_law_script",u)])∧∀ base:Heap,(K w.params).In base->base.Ns mainGlobals mg->FnOk l.prog w (K w.params) mg base CX0 8 fa fd ["_law_script"] (spLaw (K w.params))) :
  PySem.W.WalkO q loose XP YP l.row.toRowW d [] (fun f vs=>PySem.call f vs) :=
 L2.walk_of (n:=63) (k:=8) (x:="_law_script") (CX:=fun _=>CX0) (sp:=fun w=>spLaw (K w.params)) hn (by decide) hdf ⟨rfl,by decide,by decide⟩ hY F (fun _ _ a ns hl _ hS=>⟨a,ns,rfl,hS,hl,fun _=>rfl⟩) fun _ _ _ _ _ z=>z
end My
theorem PySem.W.Fast.tw14607840153100300329:True:=trivial
theorem PySem.W.Fast.te4374721039286428034:True:=trivial
theorem PySem.W.Fast.tw17181825118456410179:True:=trivial
theorem PySem.W.Fast.tw5087737444179901430:True:=trivial
theorem PySem.W.Fast.tw14804015818172757543:True:=trivial
theorem PySem.W.Fast.tw9712240258678447400:True:=trivial
theorem PySem.W.Fast.tw14335514415966986750:True:=trivial
theorem PySem.W.Fast.tw2394433803155714154:True:=trivial
theorem PySem.W.Fast.tw13827295340766866191:True:=trivial
theorem PySem.W.Fast.tw1720858243337719498:True:=trivial
theorem PySem.W.Fast.tw9807365331590171149:True:=trivial
theorem PySem.W.Fast.tw12478048748318302311:True:=trivial
theorem PySem.W.Fast.tw2035101813805435497:True:=trivial
theorem PySem.W.Fast.tw17957865062403193974:True:=trivial
theorem PySem.W.Fast.tw5264585413170284058:True:=trivial
theorem PySem.W.Fast.tw16576259903249882895:True:=trivial
theorem PySem.W.Fast.tw2285190257824787627:True:=trivial
theorem PySem.W.Fast.tw12536504353260665512:True:=trivial
theorem PySem.W.Fast.tw14103577458276464364:True:=trivial
theorem PySem.W.Fast.tw16843842721059329709:True:=trivial
theorem PySem.W.Fast.tw5627086670017004501:True:=trivial
theorem PySem.W.Fast.tw13424769243748488512:True:=trivial
theorem PySem.W.Fast.tw1232715919498454714:True:=trivial
theorem PySem.W.Fast.tw17439125155264944724:True:=trivial
theorem PySem.W.Fast.tw2182338891834473545:True:=trivial
theorem PySem.W.Fast.tw1781849458032258884:True:=trivial
theorem PySem.W.Fast.tw17440653991351710533:True:=trivial
theorem PySem.W.Fast.tw7176469553948429099:True:=trivial
theorem PySem.W.Fast.tw480331293474060440:True:=trivial
theorem PySem.W.Fast.tw4362830413660711650:True:=trivial
theorem PySem.W.Fast.tw9690491981056432225:True:=trivial
theorem PySem.W.Fast.tw17498433927430392326:True:=trivial
theorem PySem.W.Fast.tw3931926421704934818:True:=trivial
theorem PySem.W.Fast.tw14066801778800726877:True:=trivial
theorem PySem.W.Fast.tw14005399582519542273:True:=trivial
theorem PySem.W.Fast.tw4348239423059147039:True:=trivial
theorem PySem.W.Fast.tw16042146792360184826:True:=trivial
theorem PySem.W.Fast.tw508206083332457825:True:=trivial
theorem PySem.W.Fast.tw16785679746002114668:True:=trivial
theorem PySem.W.Fast.tw5206328611557161053:True:=trivial
theorem PySem.W.Fast.tw14984303960543390397:True:=trivial
theorem PySem.W.Fast.tw786490099892786465:True:=trivial
theorem PySem.W.Fast.tw18170837564279431703:True:=trivial
theorem PySem.W.Fast.tw14095721018558998374:True:=trivial
theorem PySem.W.Fast.tw10165184978711983521:True:=trivial
theorem PySem.W.Fast.tw767539040390830891:True:=trivial
theorem PySem.W.Fast.tw5152138672350392802:True:=trivial
theorem PySem.W.Fast.tw17114784368668635338:True:=trivial
theorem PySem.W.Fast.tw14908448483306857334:True:=trivial
theorem PySem.W.Fast.tw10843101190642431632:True:=trivial
theorem PySem.W.Fast.tw6598512542907014412:True:=trivial
theorem PySem.W.Fast.tw15092987239608627897:True:=trivial
theorem PySem.W.Fast.tw3784572008272240945:True:=trivial
theorem PySem.W.Fast.tw16989519700450793140:True:=trivial
theorem PySem.W.Fast.tw15911880650384515650:True:=trivial
theorem PySem.W.Fast.tw3838776671989783361:True:=trivial
theorem PySem.W.Fast.tw5346199807751713302:True:=trivial
theorem PySem.W.Fast.tw5625086921212979476:True:=trivial
theorem PySem.W.Fast.tw5417566419620803735:True:=trivial
theorem PySem.W.Fast.tw9213522605328122871:True:=trivial
theorem PySem.W.Fast.tw16320648984822096138:True:=trivial
theorem PySem.W.Fast.tw8333236546034598024:True:=trivial
theorem PySem.W.Fast.tw11458886616185537196:True:=trivial
theorem PySem.W.Fast.tw15753047191501348622:True:=trivial
theorem PySem.W.Fast.tw17024407289145626340:True:=trivial
theorem PySem.W.Fast.tw14013535566570421707:True:=trivial
theorem PySem.W.Fast.tw1224613735630052105:True:=trivial
theorem PySem.W.Fast.tw7782625523545534404:True:=trivial
theorem PySem.W.Fast.tw13779945441601114673:True:=trivial
theorem PySem.W.Fast.tw14423696439864138279:True:=trivial
theorem PySem.W.Fast.tw11778598140498679174:True:=trivial
theorem PySem.W.Fast.tw11184404205837146454:True:=trivial
theorem PySem.W.Fast.tw13276293425763711182:True:=trivial
theorem PySem.W.Fast.tw7958267244296065643:True:=trivial
theorem PySem.W.Fast.tw5847595519797780178:True:=trivial
theorem PySem.W.Fast.tw6454458695901301197:True:=trivial
theorem PySem.W.Fast.tw15627648064558068998:True:=trivial
theorem PySem.W.Fast.tw14960674899267143159:True:=trivial
theorem PySem.W.Fast.tw13596696916832520237:True:=trivial
theorem PySem.W.Fast.tw556462375574724966:True:=trivial
theorem PySem.W.Fast.tw14116538170327834575:True:=trivial
theorem PySem.W.Fast.tw2749451362575522142:True:=trivial
theorem PySem.W.Fast.tw7335646760198193599:True:=trivial
theorem PySem.W.Fast.tw8564507255584828447:True:=trivial
theorem PySem.W.Fast.tw14514477000482279504:True:=trivial
theorem PySem.W.Fast.tw6443141128302132188:True:=trivial
theorem PySem.W.Fast.tw2116485645147722648:True:=trivial
theorem PySem.W.Fast.tw6971692055316659863:True:=trivial
theorem PySem.W.Fast.tw3227000181728383761:True:=trivial
theorem PySem.W.Fast.tw13532486297065728007:True:=trivial
theorem PySem.W.Fast.tw16040598781188951351:True:=trivial
theorem PySem.W.Fast.tw6124036760547102440:True:=trivial
theorem PySem.W.Fast.tw11141064915652802581:True:=trivial
theorem PySem.W.Fast.tw12217040806021270013:True:=trivial
theorem PySem.W.Fast.tw13647725308267937732:True:=trivial
theorem PySem.W.Fast.tw10383683964171150571:True:=trivial
theorem PySem.W.Fast.tw14373596460625227947:True:=trivial
theorem PySem.W.Fast.tw2506243552951580353:True:=trivial
theorem PySem.W.Fast.tw264383776053403081:True:=trivial
theorem PySem.W.Fast.tw16629479712366755802:True:=trivial
theorem PySem.W.Fast.tw14910113991691056750:True:=trivial
theorem PySem.W.Fast.tw2240927174962595787:True:=trivial
theorem PySem.W.Fast.tw18368684864812779438:True:=trivial
theorem PySem.W.Fast.tw5109050179552160872:True:=trivial
theorem PySem.W.Fast.tw4984729513853704261:True:=trivial
theorem PySem.W.Fast.tw13618146353100834366:True:=trivial
theorem PySem.W.Fast.tw6021551982017247925:True:=trivial
theorem PySem.W.Fast.tw11200338974255725826:True:=trivial
theorem PySem.W.Fast.tw14751047688009242589:True:=trivial
theorem PySem.W.Fast.tw12412153310128474991:True:=trivial
theorem PySem.W.Fast.tw13436259119900238084:True:=trivial
theorem PySem.W.Fast.tw265450543111477234:True:=trivial
theorem PySem.W.Fast.tw12973079414465408668:True:=trivial
theorem PySem.W.Fast.tw10818783291468513735:True:=trivial
theorem PySem.W.Fast.tw12870838837093011358:True:=trivial
theorem PySem.W.Fast.tw5822166495314041071:True:=trivial
theorem PySem.W.Fast.tw11270770670430595711:True:=trivial
theorem PySem.W.Fast.tw5874301483241767682:True:=trivial
theorem PySem.W.Fast.tw12426296770440171980:True:=trivial
theorem PySem.W.Fast.tw2630635962899797955:True:=trivial
theorem PySem.W.Fast.tw15223259414047555086:True:=trivial
theorem PySem.W.Fast.tw17397789031360190758:True:=trivial
theorem PySem.W.Fast.tw3687154220493396349:True:=trivial
theorem PySem.W.Fast.tw9182813312509794932:True:=trivial
theorem PySem.W.Fast.tw4163044067470191942:True:=trivial
theorem PySem.W.Fast.tw6132314028578058176:True:=trivial
theorem PySem.W.Fast.tw6906474289160803781:True:=trivial
theorem PySem.W.Fast.tw13959500846943844718:True:=trivial
theorem PySem.W.Fast.tw2846288053053306379:True:=trivial
theorem PySem.W.Fast.tw12037294150661585265:True:=trivial
theorem PySem.W.Fast.tw6730858381951440750:True:=trivial
theorem PySem.W.Fast.tw6961512507881010172:True:=trivial
theorem PySem.W.Fast.tw5682459185520302738:True:=trivial
theorem PySem.W.Fast.tw5229541842881727680:True:=trivial
theorem PySem.W.Fast.tw14693199060032789935:True:=trivial
theorem PySem.W.Fast.tw6701577999454117537:True:=trivial
theorem PySem.W.Fast.tw316619648139190742:True:=trivial
theorem PySem.W.Fast.tw9565579426267269840:True:=trivial
theorem PySem.W.Fast.tw10765105669670509654:True:=trivial
theorem PySem.W.Fast.tw11852843876693434583:True:=trivial
theorem PySem.W.Fast.tw8336723622368494494:True:=trivial
theorem PySem.W.Fast.tw14260716796177043457:True:=trivial
theorem PySem.W.Fast.tw3095544090243690952:True:=trivial
theorem PySem.W.Fast.tw16524706938839536490:True:=trivial
theorem PySem.W.Fast.tw11997874629757682895:True:=trivial
theorem PySem.W.Fast.tw15757451155441967415:True:=trivial
theorem PySem.W.Fast.tw12246162835236168638:True:=trivial
theorem PySem.W.Fast.tw1413829828138774602:True:=trivial
theorem PySem.W.Fast.tw17220540085643935381:True:=trivial
theorem PySem.W.Fast.tw8062868091950388588:True:=trivial
theorem PySem.W.Fast.tw4964878296714076247:True:=trivial
theorem PySem.W.Fast.tw17373508651300131863:True:=trivial
theorem PySem.W.Fast.tw9050354391492689779:True:=trivial
theorem PySem.W.Fast.tw7194699744771351894:True:=trivial
theorem PySem.W.Fast.tw7308053939726234043:True:=trivial
theorem PySem.W.Fast.tw14836071537434366976:True:=trivial
theorem PySem.W.Fast.tw6442862900661617492:True:=trivial
theorem PySem.W.Fast.tw7084998245814023048:True:=trivial
theorem PySem.W.Fast.tw6968903136697719906:True:=trivial
theorem PySem.W.Fast.tw4172163679857085873:True:=trivial
theorem PySem.W.Fast.tw9609816749043837296:True:=trivial
theorem PySem.W.Fast.tw1007818833527032427:True:=trivial
theorem PySem.W.Fast.tw13653629819229923524:True:=trivial
theorem PySem.W.Fast.tw17967235305964001493:True:=trivial
theorem PySem.W.Fast.tw7674677101221083877:True:=trivial
theorem PySem.W.Fast.tw9877761618096070427:True:=trivial
theorem PySem.W.Fast.tw9182097564760991094:True:=trivial
theorem PySem.W.Fast.tw15675411908292344082:True:=trivial
theorem PySem.W.Fast.tw11249621580278815179:True:=trivial
theorem PySem.W.Fast.tw1028327596865648631:True:=trivial
theorem PySem.W.Fast.tw2577181451255432298:True:=trivial
theorem PySem.W.Fast.tw6301289658671452430:True:=trivial
theorem PySem.W.Fast.tw1571772937160346127:True:=trivial
theorem PySem.W.Fast.tw9291997869319312597:True:=trivial
theorem PySem.W.Fast.tw17696878345986378383:True:=trivial
theorem PySem.W.Fast.tw15015645617992662793:True:=trivial
theorem PySem.W.Fast.tw16931451683960325733:True:=trivial
theorem PySem.W.Fast.tw7410082119360213380:True:=trivial
theorem PySem.W.Fast.tw9749414919652684861:True:=trivial
theorem PySem.W.Fast.tw316054609570889709:True:=trivial
theorem PySem.W.Fast.tw3977856262861281479:True:=trivial
theorem PySem.W.Fast.tw14261044628377759157:True:=trivial
theorem PySem.W.Fast.tw7710849925817829915:True:=trivial
theorem PySem.W.Fast.tw14903772772826866999:True:=trivial
theorem PySem.W.Fast.tw10039242019882652584:True:=trivial
theorem PySem.W.Fast.tw1626568566601278412:True:=trivial
theorem PySem.W.Fast.tw9548928950867826625:True:=trivial
theorem PySem.W.Fast.tw9139501735217608075:True:=trivial
theorem PySem.W.Fast.tw13160699445665536976:True:=trivial
theorem PySem.W.Fast.tw10770633360486702924:True:=trivial
theorem PySem.W.Fast.tw12863798538634214718:True:=trivial
theorem PySem.W.Fast.tw3493812428936327281:True:=trivial
theorem PySem.W.Fast.tw538896161713892363:True:=trivial
theorem PySem.W.Fast.tw10521439037176111328:True:=trivial
theorem PySem.W.Fast.tw16898496710452902078:True:=trivial
theorem PySem.W.Fast.tw6939101773479461558:True:=trivial
theorem PySem.W.Fast.tw16237413650620847416:True:=trivial
theorem PySem.W.Fast.tw17367310562457793311:True:=trivial
theorem PySem.W.Fast.tw7404358799437636035:True:=trivial
theorem PySem.W.Fast.tw8121665263443170941:True:=trivial
theorem PySem.W.Fast.tw11451985687203448087:True:=trivial
theorem PySem.W.Fast.tw4545804519193549333:True:=trivial
theorem PySem.W.Fast.tw7852489046757196085:True:=trivial
theorem PySem.W.Fast.tw552683278229188000:True:=trivial
theorem PySem.W.Fast.tw8276747206972637595:True:=trivial
theorem PySem.W.Fast.tw865428249670534918:True:=trivial
theorem PySem.W.Fast.tw1833585104647349317:True:=trivial
theorem PySem.W.Fast.tw12631095815396160299:True:=trivial
theorem PySem.W.Fast.tw9688887819078604956:True:=trivial
theorem PySem.W.Fast.tw17636406938259190853:True:=trivial
theorem PySem.W.Fast.tw3639493899015320878:True:=trivial
theorem PySem.W.Fast.tw7668374400132352434:True:=trivial
theorem PySem.W.Fast.tw10453960535521676527:True:=trivial
theorem PySem.W.Fast.tw12033835208116121600:True:=trivial
theorem PySem.W.Fast.tw17360893921018950082:True:=trivial
theorem PySem.W.Fast.tw15885891170096433416:True:=trivial
theorem PySem.W.Fast.tw7694060726872941356:True:=trivial
theorem PySem.W.Fast.tw4040502815816265475:True:=trivial
theorem PySem.W.Fast.tw17226223240309316779:True:=trivial
theorem PySem.W.Fast.tw7716364303709598703:True:=trivial
theorem PySem.W.Fast.tw7727105995098058419:True:=trivial
theorem PySem.W.Fast.tw2341012043231691458:True:=trivial
theorem PySem.W.Fast.tw1333365040809139442:True:=trivial
theorem PySem.W.Fast.tw3284837111678133104:True:=trivial
theorem PySem.W.Fast.tw12170074072579916910:True:=trivial
theorem PySem.W.Fast.tw6740302593887672054:True:=trivial
theorem PySem.W.Fast.tw16784691969589301555:True:=trivial
theorem PySem.W.Fast.tw14089328152889209329:True:=trivial
theorem PySem.W.Fast.tw7721491989749286015:True:=trivial
theorem PySem.W.Fast.tw17776238474459037139:True:=trivial
theorem PySem.W.Fast.tw292127070109029645:True:=trivial
theorem PySem.W.Fast.tw4920618024638524732:True:=trivial
theorem PySem.W.Fast.tw6391489135364849764:True:=trivial
theorem PySem.W.Fast.tw5380021089614940152:True:=trivial
theorem PySem.W.Fast.tw8666023038817147778:True:=trivial
theorem PySem.W.Fast.tw14816963211664427710:True:=trivial
theorem PySem.W.Fast.tw13720569072475908726:True:=trivial
theorem PySem.W.Fast.tw13150204376388640329:True:=trivial
theorem PySem.W.Fast.tw10601328103454235838:True:=trivial
theorem PySem.W.Fast.tw15770908595923449649:True:=trivial
theorem PySem.W.Fast.tw17322877404137654330:True:=trivial
theorem PySem.W.Fast.tw3512605763980253000:True:=trivial
theorem PySem.W.Fast.tw4938146903420126060:True:=trivial
theorem PySem.W.Fast.tw16030265076035760667:True:=trivial
theorem PySem.W.Fast.tw14936282086344674239:True:=trivial
theorem PySem.W.Fast.tw505336902348495666:True:=trivial
theorem PySem.W.Fast.tw11136383832841297247:True:=trivial
theorem PySem.W.Fast.tw4481230930715350257:True:=trivial
theorem PySem.W.Fast.tw11721616721899729572:True:=trivial
theorem PySem.W.Fast.tw18022138790509719159:True:=trivial
theorem PySem.W.Fast.tw5873199394180482615:True:=trivial
theorem PySem.W.Fast.tw16503440322630447642:True:=trivial
theorem PySem.W.Fast.tw9386412306466801438:True:=trivial
theorem PySem.W.Fast.tw1786771065914531506:True:=trivial
theorem PySem.W.Fast.tw16431845310502562256:True:=trivial
theorem PySem.W.Fast.tw16061206649943661225:True:=trivial
theorem PySem.W.Fast.tw15495262863375789804:True:=trivial
theorem PySem.W.Fast.tw13336915411341889068:True:=trivial
theorem PySem.W.Fast.tw299125804170594455:True:=trivial
theorem PySem.W.Fast.tw629978844656435087:True:=trivial
theorem PySem.W.Fast.tw10281854718068516612:True:=trivial
theorem PySem.W.Fast.tw11020095854335367082:True:=trivial
theorem PySem.W.Fast.tw6323584043245582034:True:=trivial
theorem PySem.W.Fast.tw13543550978755691808:True:=trivial
theorem PySem.W.Fast.tw4782285993254219641:True:=trivial
theorem PySem.W.Fast.tw1078683945678833423:True:=trivial
theorem PySem.W.Fast.tw13954443089781842397:True:=trivial
theorem PySem.W.Fast.tw15222149220439144998:True:=trivial
theorem PySem.W.Fast.tw10482307286971189036:True:=trivial
theorem PySem.W.Fast.tw15938339677305254037:True:=trivial
theorem PySem.W.Fast.tw10294300010738053912:True:=trivial
theorem PySem.W.Fast.tw14405882775946059084:True:=trivial
theorem PySem.W.Fast.tw15173700097189764860:True:=trivial
theorem PySem.W.Fast.tw5434123655387760326:True:=trivial
theorem PySem.W.Fast.tw3644733180344798143:True:=trivial
theorem PySem.W.Fast.tw14933781772016488235:True:=trivial
theorem PySem.W.Fast.tw10409010189361624689:True:=trivial
theorem PySem.W.Fast.tw5903872258838428471:True:=trivial
theorem PySem.W.Fast.tw569032320462597535:True:=trivial
theorem PySem.W.Fast.tw5386854940207107703:True:=trivial
theorem PySem.W.Fast.tw13829456187271480733:True:=trivial
theorem PySem.W.Fast.tw18376269766148842031:True:=trivial
theorem PySem.W.Fast.tw10287061180506231470:True:=trivial
theorem PySem.W.Fast.tw12148845940238674293:True:=trivial
theorem PySem.W.Fast.tw5232638393757877806:True:=trivial
theorem PySem.W.Fast.tw16047309842208974610:True:=trivial
theorem PySem.W.Fast.tw8687300069066736318:True:=trivial
theorem PySem.W.Fast.tw957321806097553374:True:=trivial
theorem PySem.W.Fast.tw9550996877705111337:True:=trivial
theorem PySem.W.Fast.tw11870709123675339031:True:=trivial
theorem PySem.W.Fast.tw13217132530891021877:True:=trivial
theorem PySem.W.Fast.tw35739280196161844:True:=trivial
theorem PySem.W.Fast.tw14149961268299252953:True:=trivial
theorem PySem.W.Fast.tw16814696654197652913:True:=trivial
theorem PySem.W.Fast.tw11367430184031415445:True:=trivial
theorem PySem.W.Fast.tw10552702199484846866:True:=trivial
theorem PySem.W.Fast.tw9673382285073091678:True:=trivial
theorem PySem.W.Fast.tw11661063870517255744:True:=trivial
theorem PySem.W.Fast.tw12114815841227463697:True:=trivial
theorem PySem.W.Fast.tw13849936367339128834:True:=trivial
theorem PySem.W.Fast.tw3038608720792492094:True:=trivial
theorem PySem.W.Fast.tw11377446176060966289:True:=trivial
theorem PySem.W.Fast.tw10258463900393461683:True:=trivial
theorem PySem.W.Fast.tw480177761778612964:True:=trivial
theorem PySem.W.Fast.tw6721735898176492940:True:=trivial
theorem PySem.W.Fast.tw8944964905108642369:True:=trivial
theorem PySem.W.Fast.tw16800581838426268499:True:=trivial
theorem PySem.W.Fast.tw17254544464782907239:True:=trivial
theorem PySem.W.Fast.tw14897935694510656652:True:=trivial
theorem PySem.W.Fast.tw885277810047559142:True:=trivial
theorem PySem.W.Fast.tw279448018571926079:True:=trivial
theorem PySem.W.Fast.tw13415841531638744903:True:=trivial
theorem PySem.W.Fast.tw7000962469854117698:True:=trivial
theorem PySem.W.Fast.tw7251851705299158820:True:=trivial
theorem PySem.W.Fast.tw6222494579692286897:True:=trivial
theorem PySem.W.Fast.tw8158995109917439273:True:=trivial
theorem PySem.W.Fast.tw11594123204003926315:True:=trivial
theorem PySem.W.Fast.tw13457142031313651224:True:=trivial
theorem PySem.W.Fast.tw2012600226477982678:True:=trivial
theorem PySem.W.Fast.tw13316686633288957507:True:=trivial
theorem PySem.W.Fast.tw4910472491906878106:True:=trivial
theorem PySem.W.Fast.tw3927398645600207310:True:=trivial
theorem PySem.W.Fast.tw4058713230436154706:True:=trivial
theorem PySem.W.Fast.tw3408722667676933599:True:=trivial
theorem PySem.W.Fast.tw9789545065339196245:True:=trivial
theorem PySem.W.Fast.tw4723157043184096678:True:=trivial
theorem PySem.W.Fast.tw6610333935619582291:True:=trivial
theorem PySem.W.Fast.tw15228255329936562970:True:=trivial
theorem PySem.W.Fast.tw7079488753073794969:True:=trivial
theorem PySem.W.Fast.tw10062048385456387540:True:=trivial
theorem PySem.W.Fast.tw8506073878192190986:True:=trivial
theorem PySem.W.Fast.tw10172231525211968613:True:=trivial
theorem PySem.W.Fast.tw12595248606248347687:True:=trivial
theorem PySem.W.Fast.tw9131536971512564586:True:=trivial
theorem PySem.W.Fast.tw12998941035776753931:True:=trivial
theorem PySem.W.Fast.tw1242014411446759283:True:=trivial
theorem PySem.W.Fast.tw17384861093211896073:True:=trivial
theorem PySem.W.Fast.tw16025360759684604584:True:=trivial
theorem PySem.W.Fast.tw1237500851429105159:True:=trivial
theorem PySem.W.Fast.tw1463222502462647345:True:=trivial
theorem PySem.W.Fast.tw11575865332542891124:True:=trivial
theorem PySem.W.Fast.tw3595711087006903532:True:=trivial
theorem PySem.W.Fast.tw13867111124618233075:True:=trivial
theorem PySem.W.Fast.tw7818153011247254125:True:=trivial
theorem PySem.W.Fast.tw11326733105050892918:True:=trivial
theorem PySem.W.Fast.tw2129927186989308577:True:=trivial
theorem PySem.W.Fast.tw6201057036540272625:True:=trivial
theorem PySem.W.Fast.tw18209537811207332554:True:=trivial
open PySem PySem.W PyProof.Rows
set_option maxRecDepth 100000 in
set_option maxHeartbeats 0 in
theorem PySem.Challenge.cw_currentfloor_k16_whole_between_and_easie_holds : PySem.Challenge.rw_currentfloor_k16_whole_between_and_easie.Holds := by
  w_on; o_law; k_head; (case hw => w_witness2)
  k_fill
  refine My.walk (l := PySem.Challenge.rw_currentfloor_k16_whole_between_and_easie) rfl rfl (fun w h Y => PySem.W.kIn_of Y) ?F
  case F =>
    intro w mg fa h KX G hmg
    refine' My.all_mk KX G hmg ?a1 ?l1 ?c1 ?k1 ?a2 ?l2 ?c2 ?k2 ?a3 ?l3 ?c3 ?k3 ?a4 ?l4 ?c4 ?k4 ?a5 ?l5 ?c5 ?k5 ?a6 ?l6 ?c6 ?k6 ?a7 ?l7 ?c7 ?k7 ?a8 ?l8 ?c8 ?k8 ?a9 ?l9 ?c9 ?k9 ?a10 ?l10 ?c10 ?k10 ?a11 ?l11 ?c11 ?k11 ?a12 ?l12 ?c12 ?k12 ?a13 ?l13 ?c13 ?k13 ?a14 ?l14 ?c14 ?k14 ?a15 ?l15 ?c15 ?k15 ?a16 ?l16 ?c16 ?k16 ?a17 ?l17 ?c17 ?k17 ?a18 ?l18 ?c18 ?k18 ?a19 ?l19 ?c19 ?k19 ?a20 ?l20 ?c20 ?k20 ?a21 ?l21 ?c21 ?k21 ?a22 ?l22 ?c22 ?k22 ?a23 ?l23 ?c23 ?k23 ?a24 ?l24 ?c24 ?k24 ?a25 ?l25 ?c25 ?k25 ?a26 ?l26 ?c26 ?k26 ?a27 ?l27 ?c27 ?k27 ?a28 ?l28 ?c28 ?k28 ?a29 ?l29 ?c29 ?k29 ?a30 ?l30 ?c30 ?k30 ?a31 ?l31 ?c31 ?k31 ?a32 ?l32 ?c32 ?k32 ?a33 ?l33 ?c33 ?k33 ?a34 ?l34 ?c34 ?k34 ?a35 ?l35 ?c35 ?k35 ?a36 ?l36 ?c36 ?k36 ?a37 ?l37 ?c37 ?k37 ?a38 ?l38 ?c38 ?k38 ?a39 ?l39 ?c39 ?k39 ?a40 ?l40 ?c40 ?k40 ?a41 ?l41 ?c41 ?k41 ?a42 ?l42 ?c42 ?k42 ?a43 ?l43 ?c43 ?k43 ?a44 ?l44 ?c44 ?k44 ?a45 ?i45 ?l45 ?c45 ?k45 ?aC ?xC ?xF ?xs1 ?xs2 ?xs3 ?z_abs ?z_len ?z_range ?z_list ?z_zip ?z_tuple ?z_sum ?z_min
    (case aC => k_is)
    (case a1 => k_is)
    (case l1 => k_is)
    (case c1 => k_is)
    (case k1 => k_is)
    (case a2 => k_is)
    (case l2 => k_is)
    (case c2 => k_is)
    (case k2 => k_is)
    (case a3 => k_is)
    (case l3 => k_is)
    (case c3 => k_is)
    (case k3 => k_is)
    (case a4 => k_is)
    (case l4 => k_is)
    (case c4 => k_is)
    (case k4 => k_is)
    (case a5 => k_is)
    (case l5 => k_is)
    (case c5 => k_is)
    (case k5 => k_is)
    (case a6 => k_is)
    (case l6 => k_is)
    (case c6 => k_is)
    (case k6 => k_is)
    (case a7 => k_is)
    (case l7 => k_is)
    (case c7 => k_is)
    (case k7 => k_is)
    (case a8 => k_is)
    (case l8 => k_is)
    (case c8 => k_is)
    (case k8 => k_is)
    (case a9 => k_is)
    (case l9 => k_is)
    (case c9 => k_is)
    (case k9 => k_is)
    (case a10 => k_is)
    (case l10 => k_is)
    (case c10 => k_is)
    (case k10 => k_is)
    (case a11 => k_is)
    (case l11 => k_is)
    (case c11 => k_is)
    (case k11 => k_is)
    (case a12 => k_is)
    (case l12 => k_is)
    (case c12 => k_is)
    (case k12 => k_is)
    (case a13 => k_is)
    (case l13 => k_is)
    (case c13 => k_is)
    (case k13 => k_is)
    (case a14 => k_is)
    (case l14 => k_is)
    (case c14 => k_is)
    (case k14 => k_is)
    (case a15 => k_is)
    (case l15 => k_is)
    (case c15 => k_is)
    (case k15 => k_is)
    (case a16 => k_is)
    (case l16 => k_is)
    (case c16 => k_is)
    (case k16 => k_is)
    (case a17 => k_is)
    (case l17 => k_is)
    (case c17 => k_is)
    (case k17 => k_is)
    (case a18 => k_is)
    (case l18 => k_is)
    (case c18 => k_is)
    (case k18 => k_is)
    (case a19 => k_is)
    (case l19 => k_is)
    (case c19 => k_is)
    (case k19 => k_is)
    (case a20 => k_is)
    (case l20 => k_is)
    (case c20 => k_is)
    (case k20 => k_is)
    (case a21 => k_is)
    (case l21 => k_is)
    (case c21 => k_is)
    (case k21 => k_is)
    (case a22 => k_is)
    (case l22 => k_is)
    (case c22 => k_is)
    (case k22 => k_is)
    (case a23 => k_is)
    (case l23 => k_is)
    (case c23 => k_is)
    (case k23 => k_is)
    (case a24 => k_is)
    (case l24 => k_is)
    (case c24 => k_is)
    (case k24 => k_is)
    (case a25 => k_is)
    (case l25 => k_is)
    (case c25 => k_is)
    (case k25 => k_is)
    (case a26 => k_is)
    (case l26 => k_is)
    (case c26 => k_is)
    (case k26 => k_is)
    (case a27 => k_is)
    (case l27 => k_is)
    (case c27 => k_is)
    (case k27 => k_is)
    (case a28 => k_is)
    (case l28 => k_is)
    (case c28 => k_is)
    (case k28 => k_is)
    (case a29 => k_is)
    (case l29 => k_is)
    (case c29 => k_is)
    (case k29 => k_is)
    (case a30 => k_is)
    (case l30 => k_is)
    (case c30 => k_is)
    (case k30 => k_is)
    (case a31 => k_is)
    (case l31 => k_is)
    (case c31 => k_is)
    (case k31 => k_is)
    (case a32 => k_is)
    (case l32 => k_is)
    (case c32 => k_is)
    (case k32 => k_is)
    (case a33 => k_is)
    (case l33 => k_is)
    (case c33 => k_is)
    (case k33 => k_is)
    (case a34 => k_is)
    (case l34 => k_is)
    (case c34 => k_is)
    (case k34 => k_is)
    (case a35 => k_is)
    (case l35 => k_is)
    (case c35 => k_is)
    (case k35 => k_is)
    (case a36 => k_is)
    (case l36 => k_is)
    (case c36 => k_is)
    (case k36 => k_is)
    (case a37 => k_is)
    (case l37 => k_is)
    (case c37 => k_is)
    (case k37 => k_is)
    (case a38 => k_is)
    (case l38 => k_is)
    (case c38 => k_is)
    (case k38 => k_is)
    (case a39 => k_is)
    (case l39 => k_is)
    (case c39 => k_is)
    (case k39 => k_is)
    (case a40 => k_is)
    (case l40 => k_is)
    (case c40 => k_is)
    (case k40 => k_is)
    (case a41 => k_is)
    (case l41 => k_is)
    (case c41 => k_is)
    (case k41 => k_is)
    (case a42 => k_is)
    (case l42 => k_is)
    (case c42 => k_is)
    (case k42 => k_is)
    (case a43 => k_is)
    (case l43 => k_is)
    (case c43 => k_is)
    (case k43 => k_is)
    (case a44 => k_is)
    (case l44 => k_is)
    (case c44 => k_is)
    (case k44 => k_is)
    (case a45 => k_is)
    (case i45 => k_is)
    (case l45 => k_is)
    (case c45 => k_is)
    (case k45 => k_is)
    (case xC => kernel_rfl)
    (case xF => kernel_rfl)
    (case xs1 => first | k_is | kernel_rfl)
    (case xs2 => kernel_rfl)
    (case xs3 => first | k_is | kernel_rfl)
    (case z_abs => k_is)
    (case z_len => k_is)
    (case z_range => k_is)
    (case z_list => k_is)
    (case z_zip => k_is)
    (case z_tuple => k_is)
    (case z_sum => k_is)
    (case z_min => k_is)
