import PyProof.Rows.All
import Wide.All
import OpenK.AllK
import Wide.FinOn
import Lean
import PyProof.EqAt
import PyProof.EqKinds
import PyProof.TupleCall
import PySem.Challenge.RW_currentfloor_k21_sums_of_trees
set_option Elab.async false
set_option linter.all false
set_option maxRecDepth 100000
namespace L2
open PySem PySem.Spec PyProof.Rows

noncomputable abbrev Key := Sum Int Str
noncomputable def keyIs : Key → Value → Bool
  | .inl k, v => Value.isInt k v
  | .inr x, v => Value.isStrOf x v
noncomputable def keyH (w : World) : Key → Int
  | .inl k => hashInt k
  | .inr x => hashStr w x
theorem keyIs_shape : ∀ {k : Key} {v : Value}, keyIs k v = true → (∃ i t, k = Sum.inl i ∧ v = Value.int i t) ∨ (∃ x t, k = Sum.inr x ∧ v = Value.str x t)
  | .inl i, v, h => by
    obtain ⟨t, e⟩ := Value.isInt_shape (k := i) (v := v) h
    exact .inl ⟨i, t, rfl, e⟩
  | .inr x, v, h => by
    obtain ⟨t, e⟩ := Value.isStrOf_shape (x := x) (v := v) h
    exact .inr ⟨x, t, rfl, e⟩
theorem key_ll (a b : Int) : decide ((Sum.inl a : Key) = Sum.inl b) = (a == b) := by
  by_cases e : a = b
  · subst e; simp
  · have h : ¬ (Sum.inl a : Key) = Sum.inl b := fun q => e (Sum.inl.inj q)
    rw [decide_eq_false h]
    exact (beq_eq_false_iff_ne.mpr e).symm
theorem key_rr (a b : Str) : decide ((Sum.inr a : Key) = Sum.inr b) = decide (a = b) := by
  by_cases e : a = b
  · subst e; simp
  · have h : ¬ (Sum.inr a : Key) = Sum.inr b := fun q => e (Sum.inr.inj q)
    rw [decide_eq_false h, decide_eq_false e]
theorem key_lr (a : Int) (b : Str) : decide ((Sum.inl a : Key) = Sum.inr b) = false := decide_eq_false (fun q => nomatch q)
theorem key_rl (a : Str) (b : Int) : decide ((Sum.inr a : Key) = Sum.inl b) = false := decide_eq_false (fun q => nomatch q)

noncomputable def mixKind (prog : Program) (w : World) : PySem.KeyKind prog w Key where
  is := keyIs
  hash := keyH w
  inj := fun v a b ha hb => by
    rcases keyIs_shape ha with ⟨i, t, rfl, rfl⟩ | ⟨x, t, rfl, rfl⟩
    · rcases keyIs_shape hb with ⟨j, u, rfl, e⟩ | ⟨y, u, rfl, e⟩
      · injection e with e1 _; rw [e1]
      · exact nomatch e
    · rcases keyIs_shape hb with ⟨j, u, rfl, e⟩ | ⟨y, u, rfl, e⟩
      · exact nomatch e
      · injection e with e1 _; rw [e1]
  byValue := fun k v h => by
    rcases keyIs_shape h with ⟨i, t, rfl, rfl⟩ | ⟨x, t, rfl, rfl⟩ <;> rfl
  pyHash := fun hv h => by
    rcases keyIs_shape hv with ⟨i, t, rfl, rfl⟩ | ⟨x, t, rfl, rfl⟩
    · exact wpAny_pyHash_int h
    · exact wpAny_pyHash_str h
  eqBool := fun hu hv h => by
    rcases keyIs_shape hu with ⟨i, t, rfl, rfl⟩ | ⟨x, t, rfl, rfl⟩
    · rcases keyIs_shape hv with ⟨j, u, rfl, rfl⟩ | ⟨y, u, rfl, rfl⟩
      · rw [key_ll] at h; exact wpAny_eqBool_int h
      · rw [key_lr] at h; exact SeqAt.EqAt.int_str i t y u _ _ _ _ h
    · rcases keyIs_shape hv with ⟨j, u, rfl, rfl⟩ | ⟨y, u, rfl, rfl⟩
      · rw [key_rl] at h; exact SeqAt.EqAt.str_int x t j u _ _ _ _ h
      · rw [key_rr] at h; exact wpAny_eqBool_str h
  «strs» := fun k x t v h => by
    rcases keyIs_shape h with ⟨i, u, rfl, e⟩ | ⟨y, u, rfl, e⟩
    · exact nomatch e
    · injection e with e1 _
      subst e1
      cases v <;> rfl

end L2

namespace L2
open PySem PySem.Spec PyProof.Rows

inductive V where
  | non | bl (b : Bool) | int (i : Int) | str (x : Str) | byt (b : Array UInt8) | flt (b : UInt64) | ref (a : Addr) | ty (n : String)
  deriving DecidableEq

noncomputable def RelV : V → Value → Prop
  | .non, u => u = Value.none
  | .bl b, u => u = Value.bool b
  | .int i, u => ∃ t, u = Value.int i t
  | .str x, u => ∃ t, u = Value.str x t
  | .byt b, u => ∃ t, u = Value.bytes b t
  | .flt b, u => ∃ t, u = Value.float b t
  | .ref a, u => u = Value.ref a
  | .ty n, u => u = Value.type n

noncomputable abbrev Vals : List V → List Value → Prop := Paired RelV
theorem Vals.length {xs : List V} {us : List Value} (r : Vals xs us) : xs.length = us.length := Paired.length r
theorem Vals.get : ∀ {xs : List V} {us : List Value} {i : Nat} {x : V}, Vals xs us → xs[i]? = some x → ∃ u, us[i]? = some u ∧ RelV x u
  | _, _, _, _, .nil, e => by simp at e
  | _, _, 0, _, .cons r _, e => by simp at e; subst e; exact ⟨_, rfl, r⟩
  | _, _, i + 1, x, .cons _ t, e => by
    obtain ⟨u, h1, h2⟩ := Vals.get (i := i) (x := x) t (by simpa using e)
    exact ⟨u, by simpa using h1, h2⟩
theorem Vals.set {x : V} {u : Value} (r : RelV x u) : ∀ {xs : List V} {us : List Value} (i : Nat), Vals xs us → Vals (xs.set i x) (us.set i u)
  | _, _, _, .nil => .nil
  | _, _, 0, .cons _ t => .cons r t
  | _, _, i + 1, .cons q t => .cons q (Vals.set r i t)
theorem Vals.append : ∀ {xs ys : List V} {us ws : List Value}, Vals xs us → Vals ys ws → Vals (xs ++ ys) (us ++ ws)
  | _, _, _, _, .nil, s => s
  | _, _, _, _, .cons r t, s => .cons r (Vals.append t s)
theorem Vals.take : ∀ {xs : List V} {us : List Value} (n : Nat), Vals xs us → Vals (xs.take n) (us.take n)
  | _, _, 0, _ => .nil
  | _, _, _ + 1, .nil => .nil
  | _, _, n + 1, .cons r t => .cons r (Vals.take n t)
theorem Vals.drop : ∀ {xs : List V} {us : List Value} (n : Nat), Vals xs us → Vals (xs.drop n) (us.drop n)
  | _, _, 0, r => r
  | _, _, _ + 1, .nil => .nil
  | _, _, n + 1, .cons _ t => Vals.drop n t
noncomputable def RelO : Option V → Option Value → Prop
  | some v, some u => RelV v u
  | none, none => True
  | _, _ => False
noncomputable def KV {κ : Type} : List (κ × V) → List (κ × Value) → Prop := Paired fun (p : κ × V) (q : κ × Value) => p.1 = q.1 ∧ RelV p.2 q.2

noncomputable def kV : Key → V
  | .inl i => .int i
  | .inr x => .str x

inductive HO where
    | lst (xs : List V)
    | tup (xs : List V)
    | dK (kvs : List (Key × V)) | dT (kvs : List (List Key × V))
    | set (S : Int → Bool) (n : Nat)
    | ins (C dx : Addr) (fs : List (Str × V))
    | own (x : Addr)
    | xd (fs : List (Str × V))
    | met (f x : Addr)
    | rng (lo hi : Int)
    | frz (o : Obj) (u : HO)
    | tbl (ps : Array Value)
    | ext (φ : Heap → Prop)

noncomputable abbrev Hp := Addr → Option HO
noncomputable def upd (H : Hp) (a : Addr) (o : HO) : Hp := fun b => if b = a then some o else H b
theorem upd_same {H : Hp} {a : Addr} {o : HO} : upd H a o a = some o := by unfold upd; rw [if_pos rfl]
theorem upd_ne {H : Hp} {a b : Addr} {o : HO} (h : b ≠ a) : upd H a o b = H b := by unfold upd; rw [if_neg h]
theorem ne_of_none {H : Hp} {a b : Addr} {o : HO} (h : H a = some o) (h' : H b = none) : a ≠ b := by
  intro e; subst e; rw [h] at h'; cases h'

section
variable (P : Program) (w : World)
noncomputable def ObjOk (H : Hp) (h : Heap) (a : Addr) : HO → Prop
  | .lst xs => xs.length ≤ sizeLine ∧ ∃ (its : List Value) (n : Nat), Vals xs its ∧ h.get? a = some { cls := .type "list", data := .seq its.toArray n }
  | .tup xs => xs.length ≤ sizeLine ∧ ∃ its : List Value, Vals xs its ∧ IsTup h a its.toArray ∧ ∃ o, h.get? a = some o ∧ o.dict = none
  | .dK kvs => kvs.length ≤ sizeLine ∧ (a == sysModules) = false ∧ ∃ vs, KV kvs vs ∧ h.DictOf (mixKind P w) a vs
  | .dT kvs => kvs.length ≤ sizeLine ∧ (a == sysModules) = false ∧ ∃ xs : List (List Key × Addr × Value),
      Paired (fun (p : List Key × V) (q : List Key × Addr × Value) => p.1 = q.1 ∧ H q.2.1 = some (.tup (p.1.map kV)) ∧ RelV p.2 q.2.2) kvs xs ∧
      ∃ o es ep, h.get? a = some o ∧ o.ExactDict ∧ o.data = .dict es ep ∧ es.toList = xs.map (entryOfKey (tupleKind (mixKind P w))) ∧ (xs.map (·.1)).Nodup
  | .set S n => h.SetOf (intKind P w) a S n
  | .ins C dx fs => H dx = some (.own a) ∧ fs.length ≤ 1000 ∧ dx ≠ a ∧ h.get? a = some (PySem.W.instObj C dx) ∧
      ∃ mA, h.Ns1 dx mA ∧ (∀ f, RelO (fs.lookup f) (mA f)) ∧ PySem.Within mA (fs.map (·.1))
  | .own _ => ∃ o, h.get? a = some o
  | .xd fs => ∃ mA, h.Ns1 a mA ∧ ∀ f, RelO (fs.lookup f) (mA f)
  | .rng lo hi => ∃ t u v, h.get? a = some { cls := .type "range", data := .fields #[.int lo t, .int hi u, .int 1 v] }
  | .frz o u => h.get? a = some o ∧ ObjOk H h a u
  | .tbl ps => h.get? a = some { cls := .none, data := .fields ps }
  | .met f x => h.get? a = some (PySem.W.methodObj (.ref f) (.ref x))
  | .ext φ => φ h ∧ (∃ o, h.get? a = some o) ∧ ∀ h1 h2 : Heap, φ h1 → (∀ o, h1.get? a = some o → h2.get? a = some o) → φ h2
noncomputable def HOk (H : Hp) (h : Heap) : Prop := ∀ a o, H a = some o → ObjOk P w H h a o
end

section
variable {P : Program} {w : World} {H H' : Hp} {h h' : Heap} {a : Addr} {o : HO}
theorem ObjOk.lt (x : ObjOk P w H h a o) : a < h.objs.size := by
  cases o with
  | lst xs => obtain ⟨_, _, _, _, e⟩ := x; exact Heap.lt_size e
  | tup xs => obtain ⟨_, _, _, p, _⟩ := x; exact p.lt
  | dK kvs => obtain ⟨_, _, _, _, o, _, _, e, _⟩ := x; exact Heap.lt_size e
  | dT kvs => obtain ⟨_, _, _, _, o, _, _, e, _⟩ := x; exact Heap.lt_size e
  | set S n => obtain ⟨o, _, _, _, e, _⟩ := x; exact Heap.lt_size e
  | ins C dx fs => obtain ⟨_, _, _, e, _⟩ := x; exact Heap.lt_size e
  | own y => obtain ⟨_, e⟩ := x; exact Heap.lt_size e
  | xd fs => obtain ⟨_, ⟨_, _, _, e, _⟩, _⟩ := x; exact Heap.lt_size e
  | rng lo hi => obtain ⟨_, _, _, e⟩ := x; exact Heap.lt_size e
  | frz ob u => obtain ⟨e, _⟩ := x; exact Heap.lt_size e
  | tbl ps => exact Heap.lt_size (show h.get? a = some _ from x)
  | met f y => exact Heap.lt_size (show h.get? a = some _ from x)
  | ext φ => obtain ⟨_, ⟨_, e⟩, _⟩ := x; exact Heap.lt_size e
theorem Paired.mapP {α β : Type} {F G : α → β → Prop} : ∀ {l₁ : List α} {l₂ : List β}, Paired F l₁ l₂ → (∀ a b, F a b → G a b) → Paired G l₁ l₂
  | _, _, .nil, _ => .nil
  | _, _, .cons r t, f => .cons (f _ _ r) (Paired.mapP t f)
theorem ObjOk.stay (x : ObjOk P w H h a o) (k : ∀ b u, (b = a ∨ H b = some (.own a)) → h.get? b = some u → h'.get? b = some u)
    (ho : ∀ b, H b = some (.own a) → H' b = some (.own a)) (ht : ∀ b xs, H b = some (.tup xs) → H' b = some (.tup xs)) : ObjOk P w H' h' a o := by
  induction o with
  | lst xs => obtain ⟨z, its, n, r, e⟩ := x; exact ⟨z, its, n, r, k _ _ (.inl rfl) e⟩
  | tup xs => obtain ⟨z, its, r, ⟨ob, e, c⟩, ob2, e2, c2⟩ := x; exact ⟨z, its, r, ⟨ob, k _ _ (.inl rfl) e, c⟩, ob2, k _ _ (.inl rfl) e2, c2⟩
  | dK kvs => obtain ⟨z, y, vs, r, ob, es, ep, e, c⟩ := x; exact ⟨z, y, vs, r, ob, es, ep, k _ _ (.inl rfl) e, c⟩
  | dT kvs =>
    obtain ⟨z, y, xs, r, ob, es, ep, e, c⟩ := x
    exact ⟨z, y, xs, Paired.mapP r fun p q z => ⟨z.1, ht _ _ z.2.1, z.2.2⟩, ob, es, ep, k _ _ (.inl rfl) e, c⟩
  | set S n => obtain ⟨ob, es, ep, t, e, c⟩ := x; exact ⟨ob, es, ep, t, k _ _ (.inl rfl) e, c⟩
  | ins C dx fs =>
    obtain ⟨d, z, ne, e, mA, ⟨od, es, ep, e2, c⟩, r⟩ := x
    exact ⟨ho _ d, z, ne, k _ _ (.inl rfl) e, mA, ⟨od, es, ep, k _ _ (.inr d) e2, c⟩, r⟩
  | own y => obtain ⟨ob, e⟩ := x; exact ⟨ob, k _ _ (.inl rfl) e⟩
  | xd fs => obtain ⟨mA, ⟨od, es, ep, e, c⟩, r⟩ := x; exact ⟨mA, ⟨od, es, ep, k _ _ (.inl rfl) e, c⟩, r⟩
  | rng lo hi => obtain ⟨t, u, v, e⟩ := x; exact ⟨t, u, v, k _ _ (.inl rfl) e⟩
  | frz ob u ih => obtain ⟨e, q⟩ := x; exact ⟨k _ _ (.inl rfl) e, ih q⟩
  | tbl ps =>
    have e : h.get? a = some { cls := .none, data := .fields ps } := x
    show h'.get? a = some { cls := .none, data := .fields ps }
    exact k a _ (.inl rfl) e
  | met f y =>
    have e : h.get? a = some (PySem.W.methodObj (.ref f) (.ref y)) := x
    show h'.get? a = some (PySem.W.methodObj (.ref f) (.ref y))
    exact k a _ (.inl rfl) e
  | ext φ => obtain ⟨p, ⟨o, e⟩, st⟩ := x; exact ⟨st _ _ p fun o q => k _ _ (.inl rfl) q, ⟨o, k _ _ (.inl rfl) e⟩, st⟩
theorem HOk.lt (x : HOk P w H h) (e : H a = some o) : a < h.objs.size := (x a o e).lt
theorem HOk.fresh (x : HOk P w H h) (e : h.objs.size ≤ a) : H a = none := by
  cases q : H a with
  | none => rfl
  | some u => exact absurd (Nat.lt_of_lt_of_le (x.lt q) e) (Nat.lt_irrefl _)
theorem HOk.kept (x : HOk P w H h) (k : ∀ b u, h.get? b = some u → h'.get? b = some u) : HOk P w H h' := fun a o e =>
  (x a o e).stay (fun b u _ q => k b u q) (fun _ q => q) fun _ _ q => q
theorem HOk.laid (x : HOk P w H h) (k : ∀ b u, h.get? b = some u → h'.get? b = some u) (hp : h.objs.size ≤ a) (new : ObjOk P w (upd H a o) h' a o) : HOk P w (upd H a o) h' := fun b u e => by
  have hn := x.fresh hp
  by_cases hb : b = a
  · subst hb; rw [upd_same] at e; cases e; exact new
  · rw [upd_ne hb] at e
    exact (x b u e).stay (fun c v _ q => k c v q) (fun c q => by rw [upd_ne (ne_of_none q hn)]; exact q) fun c xs q => by rw [upd_ne (ne_of_none q hn)]; exact q
end

noncomputable def Rd (H : Hp) (a : Addr) (u : HO) : Prop := H a = some u ∨ ∃ o, H a = some (.frz o u)
theorem Rd.ok {P : Program} {w : World} {H : Hp} {h : Heap} {a : Addr} {u : HO} (r : Rd H a u) (x : HOk P w H h) : ObjOk P w H h a u := by
  rcases r with r | ⟨o, r⟩
  · exact x a u r
  · obtain ⟨_, q⟩ := x a _ r
    exact q
noncomputable def Mut : Option HO → Prop
  | some (.lst _) => True
  | some (.dK _) => True
  | some (.dT _) => True
  | some (.set _ _) => True
  | some (.ins _ _ _) => True
  | some (.ext _) => True
  | _ => False
section
variable {P : Program} {w : World} {H : Hp} {h h' : Heap} {x e : Addr} {o' : HO}
theorem HOk.write (ok : HOk P w H h) (mu : Mut (H x)) (he : e = x ∨ H e = some (.own x)) (k : ∀ b u, b ≠ e → h.get? b = some u → h'.get? b = some u) (heo : ∃ u, h'.get? e = some u)
    (new : ObjOk P w (upd H x o') h' x o') : HOk P w (upd H x o') h' := fun b u q => by
  have nown : ∀ c y, H c = some (.own y) → c ≠ x := fun c y r z => by subst z; rw [r] at mu; exact mu
  have ntup : ∀ c xs, H c = some (.tup xs) → c ≠ x := fun c xs r z => by subst z; rw [r] at mu; exact mu
  by_cases hb : b = x
  · subst hb; rw [upd_same] at q; cases q; exact new
  · rw [upd_ne hb] at q
    by_cases hbe : b = e
    · have q' : H b = some (.own x) := by
        rcases he with z | z
        · exact absurd (hbe.trans z) hb
        · rw [hbe]; exact z
      rw [q] at q'; cases q'
      obtain ⟨v, hv⟩ := heo
      exact ⟨v, by rw [hbe]; exact hv⟩
    · refine (ok b u q).stay (fun c v hc r => k c v ?_ r) (fun c r => by rw [upd_ne (nown c b r)]; exact r) fun c xs r => by rw [upd_ne (ntup c xs r)]; exact r
      rcases hc with rfl | hc
      · exact hbe
      · rintro rfl
        rcases he with z | z
        · exact nown c b hc z
        · rw [hc] at z; cases z; exact hb rfl
end

structure Un (fs ex : List Addr) (H H' : Hp) (h h' : Heap) : Prop where
  keep : ∀ b o, h.get? b = some o → H b = none → b ∉ fs → b ∉ ex → h'.get? b = some o
  slot : ∀ b o, h.get? b = some o → H b = none → b ∈ fs → b ∉ ex → ∃ sl, h'.get? b = some { o with slots := sl }
  free : ∀ b o, h.get? b = some o → H b = none → b ∉ ex → H' b = none
  there : ∀ b o, h.get? b = some o → b ∉ ex → ∃ o', h'.get? b = some o'
  tups : ∀ b xs, H b = some (.tup xs) → H' b = some (.tup xs)
  frzs : ∀ b o u, H b = some (.frz o u) → H' b = some (.frz o u)
  tbls : ∀ b ps, H b = some (.tbl ps) → ∃ more, H' b = some (.tbl (ps ++ more))
section
variable {fs fs' ex ex' : List Addr} {H H1 H2 : Hp} {h h1 h2 h' : Heap} {a x e : Addr} {o : HO}
theorem Un.any (u : Un fs ex H H1 h h1) {b : Addr} {ob : Obj} (q : h.get? b = some ob) (n : H b = none) (hx : b ∉ ex) : ∃ sl, h1.get? b = some { ob with slots := sl } := by
  by_cases hb : b ∈ fs
  · exact u.slot b ob q n hb hx
  · exact ⟨ob.slots, u.keep b ob q n hb hx⟩
theorem Un.kept (k : ∀ b u, h.get? b = some u → h'.get? b = some u) : Un fs ex H H h h' :=
  ⟨fun b ob q _ _ _ => k b ob q, fun b ob q _ _ _ => ⟨ob.slots, k b ob q⟩, fun _ _ _ n _ => n, fun b ob q _ => ⟨ob, k b ob q⟩, fun _ _ q => q, fun _ _ _ q => q, fun _ ps q => ⟨#[], by rw [q]; simp⟩⟩
theorem Un.refl : Un fs ex H H h h := Un.kept fun _ _ q => q
theorem Un.laid (k : ∀ b u, h.get? b = some u → h'.get? b = some u) (hp : h.objs.size ≤ a) (hn : H a = none) : Un fs ex H (upd H a o) h h' where
  keep := fun b u q _ _ _ => k b u q
  slot := fun b u q _ _ _ => ⟨u.slots, k b u q⟩
  free := fun b u q n _ => by rw [upd_ne (Nat.ne_of_lt (Nat.lt_of_lt_of_le (Heap.lt_size q) hp))]; exact n
  there := fun b u q _ => ⟨u, k b u q⟩
  tups := fun b xs q => by rw [upd_ne (ne_of_none q hn)]; exact q
  frzs := fun b u xs q => by rw [upd_ne (ne_of_none q hn)]; exact q
  tbls := fun b ps q => ⟨#[], by rw [upd_ne (ne_of_none q hn), q]; simp⟩
theorem Un.write (mu : Mut (H x)) (he : e = x ∨ H e = some (.own x)) (k : ∀ b u, b ≠ e → h.get? b = some u → h'.get? b = some u) (heo : ∃ u, h'.get? e = some u) : Un fs ex H (upd H x o) h h' := by
  have hx : ∀ b, H b = none → b ≠ x := fun b n z => by subst z; rw [n] at mu; exact mu
  have hb : ∀ b, H b = none → b ≠ e := fun b n z => by
    subst z
    rcases he with r | r
    · exact hx b n r
    · rw [n] at r; cases r
  have hm : ∀ b u, H b = some u → ¬ Mut (some u) → b ≠ x := fun b u q nm z => by subst z; rw [q] at mu; exact nm mu
  refine ⟨fun b u q n _ _ => k b u (hb b n) q, fun b u q n _ _ => ⟨u.slots, k b u (hb b n) q⟩, fun b u q n _ => by rw [upd_ne (hx b n)]; exact n, fun b u q _ => ?_,
    fun b xs q => by rw [upd_ne (hm b _ q fun z => z)]; exact q, fun b u xs q => by rw [upd_ne (hm b _ q fun z => z)]; exact q, fun b ps q => ⟨#[], by rw [upd_ne (hm b _ q fun z => z), q]; simp⟩⟩
  by_cases hbe : b = e
  · subst hbe; exact heo
  · exact ⟨u, k b u hbe q⟩
end

noncomputable def trk (h : Heap) (H : Hp) : List Addr := (List.range h.objs.size).filter fun a => (H a).isSome
noncomputable def hidT (h : Heap) (H : Hp) : Heap := PySem.W.hideAll h (trk h H)
theorem hidT_size (h : Heap) (H : Hp) : (hidT h H).objs.size = h.objs.size := PySem.W.hideAll_size _ _
theorem hidT_get {h : Heap} {H : Hp} {b : Addr} {o : Obj} (e : h.get? b = some o) (n : H b = none) : (hidT h H).get? b = some o :=
  PySem.W.hideAll_get _ e fun hm => by
    have q : (H b).isSome = true := (List.mem_filter.mp hm).2
    rw [n] at q; simp at q
theorem of_hidT {h : Heap} {H : Hp} {b : Addr} {o : Obj} (e : (hidT h H).get? b = some o) : h.get? b = some o ∧ H b = none := by
  have e' : h.get? b = some o := PySem.W.of_hideAll (trk h H) e
  refine ⟨e', ?_⟩
  cases q : H b with
  | none => rfl
  | some x =>
    have hm : b ∈ trk h H := List.mem_filter.mpr ⟨List.mem_range.mpr (Heap.lt_size e'), by simp [q]⟩
    have z : (hidT h H).get? b = none := PySem.W.hideAll_none (trk h H) hm
    rw [z] at e; cases e

end L2

namespace L2
open PySem PySem.Spec PyProof.Rows

structure Mod (K : PySem.W.Frag) (mg : Str → Option Value) (base : Heap) : Prop where
  kin : K.In base
  glob : base.Ns mainGlobals mg
  blt : ∃ mb, base.Ns builtinsNs mb ∧ ∀ x : Str, x ≠ "__name__" → mb x = bootBuiltins x
  nolimit : base.NoLimit

structure Cx where
  prog : Program
  w : World
  K : PySem.W.Frag
  mg : Str → Option Value
  base : Heap
  A : Around
  N : List Str
  s₀ : Shared
  H₀ : Hp
  env : Env
  outer : List Env
  stack : List Env
  ex : List Addr
  fn : Str → Bool
  calm : Bool
  pn : List (Addr × Obj)
  xe : Value → Shared → Prop
noncomputable def frs (l : List Env) : List Addr := l.filterMap (·.frame)
noncomputable abbrev Cx.fs (X : Cx) : List Addr := frs X.outer

noncomputable def Vis (sc : Scope) (x : Str) : Prop := sc.names.lookup x = some .local ∨ sc.names.lookup x = some .cell ∨ sc.names.lookup x = some .free
noncomputable def Loc (sc : Scope) (x : Str) : Prop := sc.names.lookup x = some .local ∨ sc.names.lookup x = some .cell
noncomputable def Look (env : Env) (h : Heap) (m : Str → Option Value) (x : Str) (u : Value) : Prop :=
  (env.kindOf x = some .local ∧ m x = some u) ∨ ((env.kindOf x = some .cell ∨ env.kindOf x = some .free) ∧ ∃ c, env.cells.lookup x = some c ∧ h.IsCell c (some u))

structure Cx.Ok (X : Cx) : Prop where
  mod : Mod X.K X.mg X.base
  kind : X.env.scope.kind = .function
  glob : X.env.globals = mainGlobals
  blt : X.env.builtins = builtinsNs
  above : X.s₀.heap.objs.size ≤ X.env.locals
  inj : ∀ x y c, X.env.cells.lookup x = some c → X.env.cells.lookup y = some c → x = y
  has : ∀ x, (X.env.kindOf x = some .cell ∨ X.env.kindOf x = some .free) → ∃ c, X.env.cells.lookup x = some c
  cab : ∀ x c, X.fn x = true → X.env.cells.lookup x = some c → X.s₀.heap.objs.size ≤ c
  hd : X.calm = true → X.A.handled = none
  frames : X.A.frames = some X.stack
  stk : X.stack = X.outer ∨ (X.stack = X.env :: X.outer ∧ X.env.frame = some X.env.locals)
  exf : ∀ b ∈ X.ex, b ≠ X.env.locals ∧ ∀ x c, X.env.cells.lookup x = some c → c ≠ b
  bs : ∀ b o, X.base.get? b = some o → X.s₀.heap.get? b = some o ∧ X.H₀ b = none
  bsz : X.base.objs.size ≤ X.s₀.heap.objs.size
  noex : ∀ b o, X.base.get? b = some o → b ∉ X.ex
  exfs : ∀ b ∈ X.ex, b ∉ X.fs
  funs : X.s₀.heap.FunFrames X.base X.outer
  frf : ∀ b ∈ X.fs, X.H₀ b = none

structure Inv (X : Cx) (pins : List (Addr × Obj)) (σ : List (Option V)) (H : Hp) (s : Shared) : Prop where
  ok : X.Ok
  os : s.os = X.s₀.os
  bare : AllBare s.gens
  base : Un X.fs X.ex X.H₀ H X.s₀.heap s.heap
  loc : ∃ m, s.heap.Ns X.env.locals m ∧ ∀ (i : Nat) (x : Str) (v : V), X.N[i]? = some x → σ[i]? = some (some v) → Vis X.env.scope x → ∃ u, RelV v u ∧ Look X.env s.heap m x u
  cell : ∀ x c, X.env.cells.lookup x = some c → ∃ v, s.heap.IsCell c v
  free : H X.env.locals = none
  freeC : ∀ x c, X.env.cells.lookup x = some c → H c = none
  pin : ∀ p ∈ X.pn ++ pins, s.heap.get? p.1 = some p.2 ∧ H p.1 = none ∧ p.1 ≠ X.env.locals ∧ p.1 ∉ X.fs ∧ ∀ v, p.2.data ≠ .cell v
  hok : HOk X.prog X.w H s.heap
  len : σ.length = X.N.length

section
variable {X : Cx} {pins : List (Addr × Obj)} {σ : List (Option V)} {H H' : Hp} {s : Shared} {h' : Heap}

theorem Cx.Ok.nofr (ok : X.Ok) {b : Addr} {o : Obj} (e : X.base.get? b = some o) : b ∉ X.fs := fun hb => by
  have := (ok.funs.mem hb).1
  rw [e] at this; cases this
theorem Inv.bs (I : Inv X pins σ H s) : ∀ b o, X.base.get? b = some o → s.heap.get? b = some o ∧ H b = none := fun b o e =>
  ⟨I.base.keep b o (I.ok.bs b o e).1 (I.ok.bs b o e).2 (I.ok.nofr e) (I.ok.noex b o e), I.base.free b o (I.ok.bs b o e).1 (I.ok.bs b o e).2 (I.ok.noex b o e)⟩
theorem Inv.bk (I : Inv X pins σ H s) : ∀ b o, X.base.get? b = some o → s.heap.get? b = some o := fun b o e => (I.bs b o e).1
theorem Inv.mod (I : Inv X pins σ H s) : Mod X.K X.mg X.base := I.ok.mod
theorem Inv.kIn (I : Inv X pins σ H s) : X.K.In s.heap := I.ok.mod.kin.keeps I.bk
theorem Inv.lt (I : Inv X pins σ H s) : X.env.locals < s.heap.objs.size := let ⟨_, hn, _⟩ := I.loc; hn.lt
theorem Inv.sz (I : Inv X pins σ H s) : X.s₀.heap.objs.size ≤ s.heap.objs.size := Nat.le_trans I.ok.above (Nat.le_of_lt I.lt)
theorem Inv.nofs (I : Inv X pins σ H s) {a : Addr} (h : s.heap.objs.size ≤ a) : a ∉ X.fs := fun hb => by
  obtain ⟨_, o, ho, _⟩ := I.ok.funs.mem hb
  exact absurd (Nat.lt_of_lt_of_le (Heap.lt_size ho) (Nat.le_trans I.sz h)) (Nat.lt_irrefl _)
theorem Inv.cne (I : Inv X pins σ H s) : ∀ x c, X.env.cells.lookup x = some c → c ≠ X.env.locals := fun x c e z => by
  obtain ⟨v, o, ho, hd⟩ := I.cell x c e
  obtain ⟨m, ⟨o', es, ep, ho', hd', _⟩, _⟩ := I.loc
  rw [z, ho'] at ho; cases ho; rw [hd'] at hd; cases hd
theorem Inv.funs (I : Inv X pins σ H s) : s.heap.FunFrames X.base X.outer := by
  have all : ∀ (l : List Env), (∀ b ∈ frs l, b ∈ X.fs) → X.s₀.heap.FunFrames X.base l → s.heap.FunFrames X.base l := by
    intro l
    induction l with
    | nil => intro _ _; trivial
    | cons env r ih =>
      intro hs hl
      obtain ⟨hk, ⟨L, o, hf, hn, ho, hd⟩, hr⟩ := hl
      have hL : L ∈ X.fs := hs L (by unfold frs; rw [List.filterMap_cons, hf]; exact List.mem_cons_self)
      obtain ⟨sl, e⟩ := I.base.slot L o ho (I.ok.frf L hL) hL fun z => I.ok.exfs L z hL
      exact ⟨hk, ⟨L, _, hf, hn, e, hd⟩, ih (fun b hb => hs b (by unfold frs; rw [List.filterMap_cons, hf]; exact List.mem_cons_of_mem _ hb)) hr⟩
  exact all X.outer (fun _ hb => hb) I.ok.funs

theorem Inv.stack (I : Inv X pins σ H s) : s.heap.FunFrames X.base X.stack := by
  rcases I.ok.stk with e | ⟨e, hf⟩
  · rw [e]; exact I.funs
  · rw [e]
    obtain ⟨m, hn, _⟩ := I.loc
    refine .cons (by rw [I.ok.kind]; decide) hf hn ?_ I.funs
    exact Heap.get?_none_of_le (Nat.le_trans I.ok.bsz I.ok.above)
theorem Inv.stkSub (I : Inv X pins σ H s) : ∀ b ∈ frs X.stack, b ∈ X.env.locals :: X.fs := fun b hb => by
  rcases I.ok.stk with e | ⟨e, hf⟩
  · rw [e] at hb; exact List.mem_cons_of_mem _ hb
  · rw [e] at hb
    unfold frs at hb
    rw [List.filterMap_cons, hf] at hb
    exact hb
theorem Inv.stkFree (I : Inv X pins σ H s) : ∀ b ∈ frs X.stack, H b = none := fun b hb => by
  rcases List.mem_cons.mp (I.stkSub b hb) with e | hb
  · rw [e]; exact I.free
  · obtain ⟨_, o, ho, _⟩ := I.ok.funs.mem hb
    exact I.base.free b o ho (I.ok.frf b hb) fun z => I.ok.exfs b z hb

theorem Inv.step {g' : Array GenState} {t' : Nat} {d' : Drawn} {ch : List Addr} (I : Inv X pins σ H s)
    (hch : ∀ b ∈ ch, (b ∈ X.ex ∨ X.s₀.heap.objs.size ≤ b) ∧ b ≠ X.env.locals ∧ (∀ x c, X.env.cells.lookup x = some c → c ≠ b) ∧ ∀ p ∈ X.pn ++ pins, p.1 ≠ b)
    (keep : ∀ b o, b ≠ X.env.locals → b ∉ X.fs → b ∉ ch → s.heap.get? b = some o → H b = none → h'.get? b = some o)
    (slot : ∀ b o, b ≠ X.env.locals → b ∈ X.fs → b ∉ ch → s.heap.get? b = some o → H b = none → ∃ sl, h'.get? b = some { o with slots := sl }) (free : ∀ b o, b ∉ ch → s.heap.get? b = some o → H b = none → H' b = none)
    (there : ∀ b o, b ∉ ch → s.heap.get? b = some o → ∃ o', h'.get? b = some o')
    (tups : ∀ b xs, H b = some (.tup xs) → H' b = some (.tup xs)) (frzs : ∀ b o u, H b = some (.frz o u) → H' b = some (.frz o u)) (tbls : ∀ b ps, H b = some (.tbl ps) → ∃ more, H' b = some (.tbl (ps ++ more)))
    (ns : ∀ m, s.heap.Ns X.env.locals m → h'.Ns X.env.locals m) (hok : HOk X.prog X.w H' h') (hg : AllBare g') :
    Inv X pins σ H' { s with heap := h', gens := g', drawn := d', toks := t' } := by
  have neL : ∀ b o, X.s₀.heap.get? b = some o → b ≠ X.env.locals := fun b o e => Nat.ne_of_lt (Nat.lt_of_lt_of_le (Heap.lt_size e) I.ok.above)
  have neC : ∀ b o, X.s₀.heap.get? b = some o → b ∉ X.ex → b ∉ ch := fun b o e hx hb => by
    rcases (hch b hb).1 with z | z
    · exact hx z
    · exact absurd (Nat.lt_of_lt_of_le (Heap.lt_size e) z) (Nat.lt_irrefl _)
  have cellK : ∀ x c, X.env.cells.lookup x = some c → ∀ v, s.heap.IsCell c v → h'.IsCell c v := fun x c e v ⟨o, ho, hd⟩ => by
    have nch : c ∉ ch := fun z => (hch c z).2.2.1 x c e rfl
    by_cases hc : c ∈ X.fs
    · obtain ⟨sl, q⟩ := slot c o (I.cne x c e) hc nch ho (I.freeC x c e)
      exact ⟨_, q, hd⟩
    · exact ⟨o, keep c o (I.cne x c e) hc nch ho (I.freeC x c e), hd⟩
  refine ⟨I.ok, I.os, hg, ⟨fun b o e n hb hx => ?_, fun b o e n hb hx => ?_, fun b o e n hx => ?_, fun b o e hx => ?_, fun b xs e => tups b xs (I.base.tups b xs e), fun b o xs e => frzs b o xs (I.base.frzs b o xs e), fun b ps e => ?_⟩, ?_, fun x c e => ?_, ?_, fun x c e => ?_, fun p hp => ?_, hok, I.len⟩
  · exact keep b o (neL b o e) hb (neC b o e hx) (I.base.keep b o e n hb hx) (I.base.free b o e n hx)
  · obtain ⟨sl, e1⟩ := I.base.slot b o e n hb hx
    obtain ⟨sl', e2⟩ := slot b _ (neL b o e) hb (neC b o e hx) e1 (I.base.free b o e n hx)
    exact ⟨sl', e2⟩
  · obtain ⟨o', e1⟩ := I.base.there b o e hx
    exact free b o' (neC b o e hx) e1 (I.base.free b o e n hx)
  · obtain ⟨o', e1⟩ := I.base.there b o e hx
    exact there b o' (neC b o e hx) e1
  · obtain ⟨m1, e1⟩ := I.base.tbls b ps e
    obtain ⟨m2, e2⟩ := tbls b _ e1
    exact ⟨m1 ++ m2, by rw [e2, Array.append_assoc]⟩
  · obtain ⟨m, hn, hl⟩ := I.loc
    refine ⟨m, ns m hn, fun i x v e1 e2 e3 => ?_⟩
    obtain ⟨u, r, l⟩ := hl i x v e1 e2 e3
    refine ⟨u, r, ?_⟩
    rcases l with l | ⟨k, c, e, z⟩
    · exact .inl l
    · exact .inr ⟨k, c, e, cellK x c e _ z⟩
  · obtain ⟨v, z⟩ := I.cell x c e
    exact ⟨v, cellK x c e v z⟩
  · obtain ⟨m, ⟨o, _, _, ho, _⟩, _⟩ := I.loc
    exact free _ o (fun z => (hch _ z).2.1 rfl) ho I.free
  · obtain ⟨v, o, ho, hd⟩ := I.cell x c e
    exact free c o (fun z => (hch c z).2.2.1 x c e rfl) ho (I.freeC x c e)
  · obtain ⟨e, n, ne, nf, d⟩ := I.pin p hp
    have nch : p.1 ∉ ch := fun z => (hch p.1 z).2.2.2 p hp rfl
    exact ⟨keep p.1 p.2 ne nf nch e n, free p.1 p.2 nch e n, ne, nf, d⟩
theorem Inv.un {t' : Nat} (I : Inv X pins σ H s) (u : Un X.fs [] H H' s.heap h') (hok : HOk X.prog X.w H' h') : Inv X pins σ H' { s with heap := h', toks := t' } := by
  obtain ⟨m, ⟨o, es, ep, ho, r⟩, _⟩ := id I.loc
  obtain ⟨sl, hL⟩ := u.any ho I.free (by simp)
  exact I.step (g' := s.gens) (d' := s.drawn) (ch := []) (fun _ z => nomatch z) (fun b o _ hb _ e n => u.keep b o e n hb (by simp)) (fun b o _ hb _ e n => u.slot b o e n hb (by simp)) (fun b o _ e n => u.free b o e n (by simp)) (fun b o _ e => u.there b o e (by simp)) u.tups u.frzs u.tbls (fun m' hm => by
    obtain ⟨o', es', ep', ho', r'⟩ := hm
    rw [ho] at ho'; cases ho'
    exact ⟨_, es', ep', hL, r'⟩) hok I.bare
theorem Inv.call {g' : Array GenState} {t' : Nat} {d' : Drawn} {ch : List Addr} (I : Inv X pins σ H s) (u : Un (frs X.stack) ch H H' s.heap h') (hok : HOk X.prog X.w H' h') (hg : AllBare g')
    (hch : ∀ b ∈ ch, (b ∈ X.ex ∨ X.s₀.heap.objs.size ≤ b) ∧ b ≠ X.env.locals ∧ (∀ x c, X.env.cells.lookup x = some c → c ≠ b) ∧ ∀ p ∈ X.pn ++ pins, p.1 ≠ b) :
    Inv X pins σ H' { s with heap := h', gens := g', drawn := d', toks := t' } := by
  obtain ⟨m, ⟨o, es, ep, ho, r⟩, _⟩ := id I.loc
  obtain ⟨sl, hL⟩ := u.any ho I.free fun z => (hch _ z).2.1 rfl
  exact I.step (ch := ch) hch (fun b o hL hb hc e n => u.keep b o e n (fun z => (List.mem_cons.mp (I.stkSub b z)).elim hL hb) hc) (fun b o _ _ hc e n => u.any e n hc) (fun b o hc e n => u.free b o e n hc) (fun b o hc e => u.there b o e hc) u.tups u.frzs u.tbls (fun m' hm => by
    obtain ⟨o', es', ep', ho', r'⟩ := hm
    rw [ho] at ho'; cases ho'
    exact ⟨_, es', ep', hL, r'⟩) hok hg
theorem Inv.turned {t' : Nat} {it : Addr} (I : Inv X pins σ H s) (k : ∀ b o, b ≠ it → s.heap.get? b = some o → h'.get? b = some o) (hn : H it = none) (hL : it ≠ X.env.locals)
    (h1 : it ∈ X.ex ∨ X.s₀.heap.objs.size ≤ it) (h2 : ∀ x c, X.env.cells.lookup x = some c → c ≠ it) (h3 : ∀ p ∈ X.pn ++ pins, p.1 ≠ it) : Inv X pins σ H { s with heap := h', toks := t' } := by
  have nit : ∀ b u, H b = some u → b ≠ it := fun b u e z => by rw [z, hn] at e; cases e
  refine I.step (g' := s.gens) (d' := s.drawn) (ch := [it]) (fun b hb => ?_) (fun b o _ _ hc e _ => k b o (fun z => hc (by simp [z])) e) (fun b o _ _ hc e _ => ⟨o.slots, k b o (fun z => hc (by simp [z])) e⟩) (fun _ _ _ _ n => n)
    (fun b o hc e => ⟨o, k b o (fun z => hc (by simp [z])) e⟩) (fun _ _ e => e) (fun _ _ _ e => e) (fun b ps e => ⟨#[], by rw [e]; simp⟩) (fun m hm => ?_) (fun b u e => ?_) I.bare
  · have e : b = it := by simpa using hb
    subst e
    exact ⟨h1, hL, h2, h3⟩
  · obtain ⟨o, es, ep, ho, r⟩ := hm
    exact ⟨o, es, ep, k _ o (Ne.symm hL) ho, r⟩
  · refine (I.hok b u e).stay (fun c v hc q => k c v ?_ q) (fun _ q => q) fun _ _ q => q
    rcases hc with z | z
    · rw [z]; exact nit b u e
    · exact nit c _ z
theorem Inv.tok (I : Inv X pins σ H s) (t : Nat) : Inv X pins σ H { s with toks := t } := I.un (h' := s.heap) (t' := t) Un.refl I.hok
theorem Inv.kept {t' : Nat} (I : Inv X pins σ H s) (k : ∀ b u, s.heap.get? b = some u → h'.get? b = some u) : Inv X pins σ H { s with heap := h', toks := t' } := I.un (Un.kept k) (I.hok.kept k)
theorem Inv.laid {a : Addr} {o : HO} {t' : Nat} (I : Inv X pins σ H s) (k : ∀ b u, s.heap.get? b = some u → h'.get? b = some u) (hp : s.heap.objs.size ≤ a) (new : ObjOk X.prog X.w (upd H a o) h' a o) :
    Inv X pins σ (upd H a o) { s with heap := h', toks := t' } := I.un (Un.laid k hp (I.hok.fresh hp)) (I.hok.laid k hp new)
theorem Inv.write {x e : Addr} {o : HO} {t' : Nat} (I : Inv X pins σ H s) (mu : Mut (H x)) (he : e = x ∨ H e = some (.own x)) (k : ∀ b u, b ≠ e → s.heap.get? b = some u → h'.get? b = some u) (heo : ∃ u, h'.get? e = some u)
    (new : ObjOk X.prog X.w (upd H x o) h' x o) : Inv X pins σ (upd H x o) { s with heap := h', toks := t' } := I.un (Un.write mu he k heo) (I.hok.write mu he k heo new)
theorem Inv.pins_of {pins' : List (Addr × Obj)} (I : Inv X pins σ H s) (h : ∀ p ∈ pins', s.heap.get? p.1 = some p.2 ∧ H p.1 = none ∧ p.1 ≠ X.env.locals ∧ p.1 ∉ X.fs ∧ ∀ v, p.2.data ≠ .cell v) : Inv X pins' σ H s :=
  ⟨I.ok, I.os, I.bare, I.base, I.loc, I.cell, I.free, I.freeC, fun p hp => (List.mem_append.mp hp).elim (fun z => I.pin p (List.mem_append_left _ z)) (h p), I.hok, I.len⟩

theorem nodup_ix {N : List Str} (hN : N.Nodup) {i j : Nat} {x : Str} (a : N[i]? = some x) (b : N[j]? = some x) : i = j := by
  obtain ⟨h1, e1⟩ := List.getElem?_eq_some_iff.mp a
  obtain ⟨h2, e2⟩ := List.getElem?_eq_some_iff.mp b
  exact (List.getElem_inj hN).mp (e1.trans e2.symm)

theorem store_ok2 {M : Model} {A : Around} {E : Value → Shared → Prop} {i : Nat} {x : Str} {v : V} {u : Value} {Q : Unit → Shared → Prop} (I : Inv X pins σ H s) (hN : X.N.Nodup) (hi : X.N[i]? = some x) (hx : Loc X.env.scope x) (r : RelV v u)
    (h : ∀ s', Inv X pins (σ.set i (some v)) H s' → (∃ a, Heap.SameBut a s.heap s'.heap ∧ (a = X.env.locals ∨ X.env.cells.lookup x = some a)) → Q () s') (hf : X.fn x = true ∨ X.env.scope.names.lookup x = some .local := by first | exact .inl rfl | exact .inr rfl | assumption) : wpAny M A (storeName X.env x u) Q E s := by
  obtain ⟨m, hn, hl⟩ := id I.loc
  have hcls : (X.env.scope.kind == .class || (X.env.scope.kind == .module && X.env.locals != X.env.globals)) = false := by rw [I.ok.kind]; rfl
  have hiσ : i < σ.length := by rw [I.len]; exact (List.getElem?_eq_some_iff.mp hi).1
  have cne := I.cne
  have tracked : ∀ {a : Addr} {h' : Heap}, (∃ o, s.heap.get? a = some o ∧ H a = none) → Heap.SameBut a s.heap h' → HOk X.prog X.w H h' := fun {a h'} ha hs b ob e => by
    obtain ⟨_, _, hfree⟩ := ha
    refine (I.hok b ob e).stay (fun c w' hc q => (hs.2 c ?_).trans q) (fun _ q => q) fun _ _ q => q
    rintro rfl
    rcases hc with rfl | hc
    · rw [hfree] at e; cases e
    · rw [hfree] at hc; cases hc
  rcases hx with hk | hk
  · refine wpAny_storeName_local hk hn (fun h' hn' hs => ?_) hcls
    obtain ⟨oL, _, _, hoL, _⟩ := id hn
    refine h _ ⟨I.ok, I.os, I.bare, ⟨fun b o e n hb hx => ?_, fun b o e n hb hx => ?_, I.base.free, fun b o e hx => ?_, I.base.tups, I.base.frzs, I.base.tbls⟩, ⟨_, hn', fun j y v' e1 e2 e3 => ?_⟩, fun y c e => ?_, I.free, I.freeC, fun p hp => ?_, tracked ⟨oL, hoL, I.free⟩ hs, by simpa using I.len⟩ ⟨_, hs, .inl rfl⟩
    · exact (hs.2 b (Nat.ne_of_lt (Nat.lt_of_lt_of_le (Heap.lt_size e) I.ok.above))).trans (I.base.keep b o e n hb hx)
    · obtain ⟨sl, e1⟩ := I.base.slot b o e n hb hx
      exact ⟨sl, (hs.2 b (Nat.ne_of_lt (Nat.lt_of_lt_of_le (Heap.lt_size e) I.ok.above))).trans e1⟩
    · obtain ⟨o', e1⟩ := I.base.there b o e hx
      exact ⟨o', (hs.2 b (Nat.ne_of_lt (Nat.lt_of_lt_of_le (Heap.lt_size e) I.ok.above))).trans e1⟩
    · by_cases hj : j = i
      · subst hj
        rw [hi] at e1; cases e1
        rw [List.getElem?_set_self hiσ] at e2
        cases e2
        exact ⟨u, r, .inl ⟨hk, by simp⟩⟩
      · rw [List.getElem?_set_ne (Ne.symm hj)] at e2
        obtain ⟨u', r', q⟩ := hl j y v' e1 e2 e3
        refine ⟨u', r', ?_⟩
        rcases q with ⟨k, e⟩ | ⟨k, c, e, z⟩
        · refine .inl ⟨k, ?_⟩
          have : y ≠ x := fun e => hj (nodup_ix hN e1 (e ▸ hi))
          simp [this, e]
        · exact .inr ⟨k, c, e, z.sameBut hs (cne y c e)⟩
    · obtain ⟨w', z⟩ := I.cell y c e
      exact ⟨w', z.sameBut hs (cne y c e)⟩
    · obtain ⟨e, n, ne, nf, d⟩ := I.pin p hp
      exact ⟨(hs.2 p.1 ne).trans e, n, ne, nf, d⟩
  · have hfn : X.fn x = true := by
      rcases hf with z | z
      · exact z
      · rw [z] at hk; cases hk
    obtain ⟨c, hc⟩ := I.ok.has x (.inl hk)
    obtain ⟨w', z⟩ := I.cell x c hc
    refine wpAny_storeName_cell I.ok.kind hk hc z (fun h' hc' hs => ?_)
    obtain ⟨oc, hoc, hocd⟩ := id z
    refine h { s with heap := h' } ⟨I.ok, I.os, I.bare, ⟨fun b o e n hb hx => ?_, fun b o e n hb hx => ?_, I.base.free, fun b o e hx => ?_, I.base.tups, I.base.frzs, I.base.tbls⟩, ⟨m, hn.sameBut hs (Ne.symm (cne x c hc)), fun j y v' e1 e2 e3 => ?_⟩, fun y c' e => ?_, I.free, I.freeC, fun p hp => ?_, tracked ⟨oc, hoc, I.freeC x c hc⟩ hs, by simpa using I.len⟩ ⟨c, hs, .inr hc⟩
    · exact (hs.2 b (Nat.ne_of_lt (Nat.lt_of_lt_of_le (Heap.lt_size e) (I.ok.cab x c hfn hc)))).trans (I.base.keep b o e n hb hx)
    · obtain ⟨sl, e1⟩ := I.base.slot b o e n hb hx
      exact ⟨sl, (hs.2 b (Nat.ne_of_lt (Nat.lt_of_lt_of_le (Heap.lt_size e) (I.ok.cab x c hfn hc)))).trans e1⟩
    · obtain ⟨o', e1⟩ := I.base.there b o e hx
      exact ⟨o', (hs.2 b (Nat.ne_of_lt (Nat.lt_of_lt_of_le (Heap.lt_size e) (I.ok.cab x c hfn hc)))).trans e1⟩
    · by_cases hj : j = i
      · subst hj
        rw [hi] at e1; cases e1
        rw [List.getElem?_set_self hiσ] at e2
        cases e2
        exact ⟨u, r, .inr ⟨.inl hk, c, hc, hc'⟩⟩
      · rw [List.getElem?_set_ne (Ne.symm hj)] at e2
        obtain ⟨u', r', q⟩ := hl j y v' e1 e2 e3
        refine ⟨u', r', ?_⟩
        rcases q with q | ⟨k, c', e, z'⟩
        · exact .inl q
        · refine .inr ⟨k, c', e, z'.sameBut hs ?_⟩
          rintro rfl
          exact hj (nodup_ix hN e1 (I.ok.inj _ _ _ e hc ▸ hi))
    · by_cases hcc : c' = c
      · subst hcc; exact ⟨_, hc'⟩
      · obtain ⟨w2, z2⟩ := I.cell y c' e
        exact ⟨w2, z2.sameBut hs hcc⟩
    · obtain ⟨e, n, ne, nf, d⟩ := I.pin p hp
      refine ⟨(hs.2 p.1 ?_).trans e, n, ne, nf, d⟩
      intro q
      rw [q, hoc] at e
      have q' : oc = p.2 := Option.some.inj e
      exact d w' (by rw [← q']; exact hocd)
theorem store_ok {M : Model} {A : Around} {E : Value → Shared → Prop} {i : Nat} {x : Str} {v : V} {u : Value} {Q : Unit → Shared → Prop} (I : Inv X pins σ H s) (hN : X.N.Nodup) (hi : X.N[i]? = some x) (hx : Loc X.env.scope x) (r : RelV v u)
    (h : ∀ s', Inv X pins (σ.set i (some v)) H s' → Q () s') (hf : X.fn x = true ∨ X.env.scope.names.lookup x = some .local := by first | exact .inl rfl | exact .inr rfl | assumption) : wpAny M A (storeName X.env x u) Q E s :=
  store_ok2 I hN hi hx r (fun s' I' _ => h s' I') hf
theorem Inv.call' {s' : Shared} {ch : List Addr} (I : Inv X pins σ H s) (ho : s'.os = s.os) (u : Un (frs X.stack) ch H H' s.heap s'.heap) (hok : HOk X.prog X.w H' s'.heap) (hg : AllBare s'.gens)
    (hch : ∀ b ∈ ch, (b ∈ X.ex ∨ X.s₀.heap.objs.size ≤ b) ∧ b ≠ X.env.locals ∧ (∀ x c, X.env.cells.lookup x = some c → c ≠ b) ∧ ∀ p ∈ X.pn ++ pins, p.1 ≠ b) : Inv X pins σ H' s' := by
  obtain ⟨h', g', d', t', o'⟩ := s'
  have e : o' = s.os := ho
  subst e
  exact I.call (g' := g') (t' := t') (d' := d') u hok hg hch
end

noncomputable abbrev XK := Value → Option Addr → Hp → Prop
noncomputable abbrev St := List (Option V)
noncomputable abbrev VK := V → Hp → Prop
noncomputable abbrev TE := St → Hp → VK → Prop
noncomputable abbrev TT := St → Hp → (Bool → Hp → Prop) → Prop
noncomputable abbrev TA := St → Hp → (List V → Hp → Prop) → Prop
structure Ends where
  nx : St → Hp → Prop
  rt : VK
  bk : St → Hp → Prop := fun _ _ => False
  ct : St → Hp → Prop := fun _ _ => False
noncomputable abbrev TS := Ends → St → Hp → Prop

noncomputable def EP (X : Cx) (pins : List (Addr × Obj)) (σ : St) (Q : VK) (u : Value) (s' : Shared) : Prop := ∃ v H', Inv X pins σ H' s' ∧ RelV v u ∧ Q v H'
noncomputable def TP (X : Cx) (pins : List (Addr × Obj)) (σ : St) (Q : Bool → Hp → Prop) (b : Bool) (s' : Shared) : Prop := ∃ H', Inv X pins σ H' s' ∧ Q b H'
noncomputable def AP (X : Cx) (pins : List (Addr × Obj)) (σ : St) (Q : List V → Hp → Prop) (us : List Value) (s' : Shared) : Prop := ∃ vs H', Inv X pins σ H' s' ∧ Vals vs us ∧ Q vs H'
noncomputable def SP (X : Cx) (pins : List (Addr × Obj)) (D : Ends) (f : Flow) (s' : Shared) : Prop :=
  match f with
  | .next => ∃ σ' H', Inv X pins σ' H' s' ∧ D.nx σ' H'
  | .brk => ∃ σ' H', Inv X pins σ' H' s' ∧ D.bk σ' H'
  | .cont => ∃ σ' H', Inv X pins σ' H' s' ∧ D.ct σ' H'
  | .ret u => ∃ v σ' H', Inv X pins σ' H' s' ∧ RelV v u ∧ D.rt v H'

noncomputable def PE (X : Cx) (e : Expr) (t : TE) : Prop :=
  ∀ (pins : List (Addr × Obj)) (s : Shared) (σ : St) (H : Hp) (Q : VK), Inv X pins σ H s → t σ H Q → wpAny (model X.prog X.w) X.A (eval e X.env) (EP X pins σ Q) X.xe s
noncomputable def PT (X : Cx) (e : Expr) (t : TT) : Prop :=
  ∀ (pins : List (Addr × Obj)) (s : Shared) (σ : St) (H : Hp) (Q : Bool → Hp → Prop), Inv X pins σ H s → t σ H Q → wpAny (model X.prog X.w) X.A (isTrue e X.env (eval e X.env)) (TP X pins σ Q) X.xe s
noncomputable def PW (X : Cx) (e : Expr) (t : TT) : Prop :=
  ∀ (whole : Sem Value) (pins : List (Addr × Obj)) (s : Shared) (σ : St) (H : Hp) (Q : Bool → Hp → Prop), Inv X pins σ H s → t σ H Q → wpAny (model X.prog X.w) X.A (isTrue e X.env whole) (TP X pins σ Q) X.xe s
theorem PW.pt {X : Cx} {e : Expr} {t : TT} (h : PW X e t) : PT X e t := h _
noncomputable def PA (X : Cx) (es : List Expr) (t : TA) : Prop :=
  ∀ (pos : Pos) (pins : List (Addr × Obj)) (s : Shared) (σ : St) (H : Hp) (Q : List V → Hp → Prop), Inv X pins σ H s → t σ H Q → wpAny (model X.prog X.w) X.A (spliced (backTo pos (starEach es X.env))) (AP X pins σ Q) X.xe s
noncomputable def PS (X : Cx) (st : Stmt) (t : TS) : Prop :=
  ∀ (pins : List (Addr × Obj)) (s : Shared) (σ : St) (H : Hp) (D : Ends), Inv X pins σ H s → t D σ H → wpAny (model X.prog X.w) X.A (exec st X.env) (SP X pins D) X.xe s
noncomputable def PSs (X : Cx) (st : List Stmt) (t : TS) : Prop :=
  ∀ (pins : List (Addr × Obj)) (s : Shared) (σ : St) (H : Hp) (D : Ends), Inv X pins σ H s → t D σ H → wpAny (model X.prog X.w) X.A (execs st X.env) (SP X pins D) X.xe s
theorem thn {α : Type} {t : Sem α} {Q Q' : α → Shared → Prop} {M : Model} {A : Around} {E : Value → Shared → Prop} {s : Shared} (h : wpAny M A t Q E s) (hQ : ∀ a s, Q a s → Q' a s) : wpAny M A t Q' E s := wpAny_mono h hQ fun _ _ x => x
end L2

namespace L2
open PySem PySem.Spec PyProof.Rows
section
variable {X : Cx}

noncomputable def tVar (i : Nat) : TE := fun σ H Q => ∃ v, σ[i]? = some (some v) ∧ Q v H
noncomputable def tC (v : V) : TE := fun _ H Q => Q v H
theorem pe_var {i : Nat} {x : Str} {pos : Pos} (hN : X.N[i]? = some x) (hv : Vis X.env.scope x) (hd : (x == ("__debug__" : Str)) = false := by decide) (hcd : (x == ("__classdict__" : Str)) = false := by decide) : PE X (.Name x pos) (tVar i) := by
  intro pins s σ H Q I h
  obtain ⟨v, e, h⟩ := h
  obtain ⟨m, hn, hl⟩ := I.loc
  obtain ⟨u, r, l⟩ := hl i x v hN e hv
  have fin : EP X pins σ Q u s := ⟨v, H, I, r, h⟩
  rcases l with ⟨hk, hm⟩ | ⟨hk, c, hc, hcell⟩
  · exact wpAny_Name (wpAny_loadName_local I.ok.kind hk hn hm fin) hd
  · rcases hk with hk | hk
    · exact wpAny_Name (wpAny_loadName_cell I.ok.kind hk hc hcell fin) hd
    · exact wpAny_Name (wpAny_loadName_free I.ok.kind hk hc hcell fin hcd) hd
theorem pe_int {i j pos} : PE X (.Constant (.int i) j pos) (tC (.int i)) := fun _ _ _ H _ I h => wpAny_Constant_int ⟨.int i, H, I.tok _, ⟨_, rfl⟩, h⟩
theorem pe_bl {b j pos} : PE X (.Constant (.bool b) j pos) (tC (.bl b)) := fun _ _ _ H _ I h => Constant_bool ⟨.bl b, H, I, rfl, h⟩
theorem pe_non {j pos} : PE X (.Constant .none j pos) (tC .non) := fun _ _ _ H _ I h => Constant_none ⟨.non, H, I, rfl, h⟩
theorem pe_str {x j pos} : PE X (.Constant (.str x) j pos) (tC (.str x)) := fun _ _ _ H _ I h => Calls.Constant_str ⟨.str x, H, I.tok _, ⟨_, rfl⟩, h⟩

noncomputable def Gl (X : Cx) (x : Str) : Prop := X.env.kindOf x = some .globalImplicit
theorem ld_glob {E : Value → Shared → Prop} {pins : List (Addr × Obj)} {s : Shared} {σ : St} {H : Hp} {x : Str} {u : Value} {pos : Pos} {Q : Value → Shared → Prop} (I : Inv X pins σ H s) (hg : Gl X x) (hm : X.mg x = some u) (h : Q u s)
    (hd : (x == ("__debug__" : Str)) = false := by decide) : wpAny (model X.prog X.w) X.A (eval (.Name x pos) X.env) Q E s :=
  Calls.Name_function_global I.ok.kind hg (Calls.loadGlobal_global (by rw [I.ok.glob]; exact I.mod.glob.keeps I.bk) hm h) hd
theorem ld_blt {E : Value → Shared → Prop} {pins : List (Addr × Obj)} {s : Shared} {σ : St} {H : Hp} {x : Str} {u : Value} {pos : Pos} {Q : Value → Shared → Prop} (I : Inv X pins σ H s) (hg : Gl X x) (hm : X.mg x = none) (hv : bootBuiltins x = some u) (h : Q u s)
    (hn : x ≠ "__name__" := by decide) (hd : (x == ("__debug__" : Str)) = false := by decide) : wpAny (model X.prog X.w) X.A (eval (.Name x pos) X.env) Q E s := by
  obtain ⟨mb, h1, h2⟩ := I.mod.blt
  exact Calls.Name_function_global I.ok.kind hg (Calls.loadGlobal_builtin (by rw [I.ok.glob]; exact I.mod.glob.keeps I.bk) hm (by rw [I.ok.blt]; exact h1.keeps I.bk) ((h2 x hn).trans hv) h) hd
theorem pe_bltn {x : Str} {v : V} {u : Value} {pos : Pos} (hg : Gl X x) (hm : X.mg x = none) (hv : bootBuiltins x = some u) (r : RelV v u) (hn : x ≠ "__name__" := by decide) (hd : (x == ("__debug__" : Str)) = false := by decide) : PE X (.Name x pos) (tC v) :=
  fun _ _ _ H _ I h => ld_blt I hg hm hv ⟨v, H, I, r, h⟩ hn hd

variable {a b : Expr} {ta tb : TE} {pos : Pos}
noncomputable def tB (t : TE) : TT := fun σ H Q => t σ H fun x H1 => ∃ c, x = .bl c ∧ Q c H1
theorem pt_val {e : Expr} {t : TE} (h : PE X e t) (he : ∀ whole, isTrue e X.env whole = (do let v ← whole; standAt e.pos; holding [v] (truthy v)) := by intro _; rfl) : PT X e (tB t) := by
  intro pins s σ H Q I hw
  refine isTrue_plain (thn (h pins s σ H _ I hw) fun v s1 ⟨x, H1, I1, r1, q1⟩ => ?_) (he _)
  obtain ⟨d, rfl, q⟩ := q1
  cases r1
  exact wpAny_truthy_bool ⟨H1, I1, q⟩

variable {tA tB' : TT} {rest : List Expr}
noncomputable def tAnd (t u : TT) : TT := fun σ H Q => t σ H fun c H1 => if c = true then u σ H1 Q else Q false H1
noncomputable def tOr (t u : TT) : TT := fun σ H Q => t σ H fun c H1 => if c = true then Q true H1 else u σ H1 Q
noncomputable def tNot (t : TT) : TT := fun σ H Q => t σ H fun c H1 => Q (!c) H1
theorem pw_and1 (ha : PT X a tA) : PW X (.BoolOp .And [a] pos) tA := by
  intro wh pins s σ H Q I h
  refine isTrue_and (thn (ha pins s σ H Q I h) fun c s1 e => ?_)
  cases c with
  | true => exact isTrue_and_nil e
  | false => exact e
theorem pw_or1 (ha : PT X a tA) : PW X (.BoolOp .Or [a] pos) tA := by
  intro wh pins s σ H Q I h
  refine isTrue_or (thn (ha pins s σ H Q I h) fun c s1 e => ?_)
  cases c with
  | false => exact isTrue_or_nil e
  | true => exact e
theorem pw_and (ha : PT X a tA) (hb : PW X (.BoolOp .And (b :: rest) pos) tB') : PW X (.BoolOp .And (a :: b :: rest) pos) (tAnd tA tB') := by
  intro wh pins s σ H Q I h
  refine isTrue_and (thn (ha pins s σ H _ I h) fun c s1 ⟨H1, I1, q1⟩ => ?_)
  cases c with
  | true => exact hb wh pins s1 σ H1 Q I1 q1
  | false => exact ⟨H1, I1, q1⟩
theorem pw_or (ha : PT X a tA) (hb : PW X (.BoolOp .Or (b :: rest) pos) tB') : PW X (.BoolOp .Or (a :: b :: rest) pos) (tOr tA tB') := by
  intro wh pins s σ H Q I h
  refine isTrue_or (thn (ha pins s σ H _ I h) fun c s1 ⟨H1, I1, q1⟩ => ?_)
  cases c with
  | true => exact ⟨H1, I1, q1⟩
  | false => exact hb wh pins s1 σ H1 Q I1 q1
theorem pt_not (ha : PT X a tA) : PT X (.UnaryOp .Not a pos) (tNot tA) := by
  intro pins s σ H Q I h
  exact isTrue_not (ha pins s σ H (fun c H1 => Q (!c) H1) I h)
noncomputable def tAndV (ta tb : TE) : TE := fun σ H Q => ta σ H fun x H1 => ∃ c, x = .bl c ∧ if c = true then tb σ H1 Q else Q (.bl false) H1
noncomputable def tNotV (ta : TE) : TE := fun σ H Q => ta σ H fun x H1 => ∃ c, x = .bl c ∧ Q (.bl (!c)) H1
theorem pe_one {op} {t : TE} (h : PE X a t) : PE X (.BoolOp op [a] pos) t := fun pins s σ H Q I hw => BoolOp_one (h pins s σ H Q I hw)
theorem pe_and (ha : PE X a ta) (hb : PE X (.BoolOp .And (b :: rest) pos) tb) : PE X (.BoolOp .And (a :: b :: rest) pos) (tAndV ta tb) := by
  intro pins s σ H Q I h
  refine BoolOp_and (thn (ha pins s σ H _ I h) fun v s1 ⟨x, H1, I1, r1, q1⟩ => ?_)
  obtain ⟨c, rfl, q1⟩ := q1
  cases r1
  refine wpAny_truthy_bool ?_
  cases c with
  | true => exact hb pins s1 σ H1 Q I1 q1
  | false => exact ⟨.bl false, H1, I1, rfl, q1⟩
theorem pe_not (ha : PE X a ta) : PE X (.UnaryOp .Not a pos) (tNotV ta) := by
  intro pins s σ H Q I h
  refine UnaryOp_ (thn (ha pins s σ H _ I h) fun v s1 ⟨x, H1, I1, r1, q1⟩ => ?_)
  obtain ⟨c, rfl, q1⟩ := q1
  cases r1
  exact not_of (wpAny_truthy_bool ⟨.bl (!c), H1, I1, rfl, q1⟩)
noncomputable def tIf (t : TT) (ta tb : TE) : TE := fun σ H Q => t σ H fun c H1 => if c = true then ta σ H1 Q else tb σ H1 Q
theorem pe_ifExp {c : Expr} (hc : PT X c tA) (ha : PE X a ta) (hb : PE X b tb) : PE X (.IfExp c a b pos) (tIf tA ta tb) := by
  intro pins s σ H Q I h
  refine wpAny_IfExp (thn (hc pins s σ H _ I h) fun d s1 ⟨H1, I1, q1⟩ => ?_)
  cases d with
  | true => exact ha pins s1 σ H1 Q I1 q1
  | false => exact hb pins s1 σ H1 Q I1 q1
end
end L2

namespace L2
open PySem PySem.Spec PyProof.Rows

noncomputable def SqL (K : PySem.W.Frag) (H : Hp) (a : Addr) (xs : List V) : Prop :=
  Rd H a (.lst xs) ∨
    ∃ (o : Obj) (its : Array Value) (n : Nat), K.lookup a = some o ∧ o.cls = .type "list" ∧ o.dict = none ∧ o.data = .seq its n ∧ its.size ≤ sizeLine ∧ Vals xs its.toList
noncomputable def SqT (K : PySem.W.Frag) (H : Hp) (a : Addr) (xs : List V) : Prop :=
  Rd H a (.tup xs) ∨
    ∃ (o : Obj) (its : Array Value) (n : Nat), K.lookup a = some o ∧ o.cls = .type "tuple" ∧ o.data = .seq its n ∧ its.size ≤ sizeLine ∧ Vals xs its.toList
noncomputable def absV : Value → Option V
  | .none => some .non
  | .bool b => some (.bl b)
  | .int i _ => some (.int i)
  | .str x _ => some (.str x)
  | .bytes b _ => some (.byt b)
  | .float b _ => some (.flt b)
  | .ref a => some (.ref a)
  | .type n => some (.ty n)
  | _ => none
theorem RelV.abs {x : V} {u : Value} (r : RelV x u) : absV u = some x := by
  cases x with
  | non => cases r; rfl
  | bl _ => cases r; rfl
  | int _ => obtain ⟨t, rfl⟩ := r; rfl
  | str _ => obtain ⟨t, rfl⟩ := r; rfl
  | byt _ => obtain ⟨t, rfl⟩ := r; rfl
  | flt _ => obtain ⟨t, rfl⟩ := r; rfl
  | ref _ => cases r; rfl
  | ty _ => cases r; rfl
theorem RelV.inj {x y : V} {u : Value} (r : RelV x u) (q : RelV y u) : x = y := Option.some.inj (r.abs.symm.trans q.abs)
theorem Vals.inj : ∀ {xs ys : List V} {us : List Value}, Vals xs us → Vals ys us → xs = ys
  | _, _, _, .nil, .nil => rfl
  | _, _, _, .cons r t, .cons r' t' => by rw [r.inj r', Vals.inj t t']
section
variable {X : Cx} {pins : List (Addr × Obj)} {σ : St} {H : Hp} {s : Shared} {a : Addr} {xs ys : List V}
theorem SqL.of {K : PySem.W.Frag} (h : H a = some (.lst xs)) : SqL K H a xs := .inl (.inl h)
theorem SqT.of {K : PySem.W.Frag} (h : H a = some (.tup xs)) : SqT K H a xs := .inl (.inl h)
theorem Inv.list (I : Inv X pins σ H s) (h : SqL X.K H a xs) : ∃ its : List Value, Vals xs its ∧ PlainL s.heap a its.toArray ∧ xs.length ≤ sizeLine := by
  rcases h with h | ⟨o, its, n, hk, hc, hd, hs, hz, r⟩
  · obtain ⟨z, its, n, r, e⟩ := h.ok I.hok
    exact ⟨its, r, ⟨_, n, e, rfl, rfl, rfl⟩, z⟩
  · refine ⟨its.toList, r, ⟨o, n, I.kIn a o hk, hc, hd, by simpa using hs⟩, ?_⟩
    have e := r.length
    simp only [Array.length_toList] at e
    (first | lia | omega)
theorem Inv.tuple (I : Inv X pins σ H s) (h : SqT X.K H a xs) : ∃ its : List Value, Vals xs its ∧ IsTup s.heap a its.toArray ∧ xs.length ≤ sizeLine := by
  rcases h with h | ⟨o, its, n, hk, hc, hs, hz, r⟩
  · obtain ⟨z, its, r, p, _⟩ := h.ok I.hok
    exact ⟨its, r, p, z⟩
  · refine ⟨its.toList, r, ⟨o, I.kIn a o hk, hc, n, by simpa using hs⟩, ?_⟩
    have e := r.length
    simp only [Array.length_toList] at e
    (first | lia | omega)
theorem Inv.list_inj (I : Inv X pins σ H s) (h : SqL X.K H a xs) (h' : SqL X.K H a ys) : xs = ys := by
  obtain ⟨its, r, ⟨o, n, e, _, _, d⟩, _⟩ := I.list h
  obtain ⟨its', r', ⟨o', n', e', _, _, d'⟩, _⟩ := I.list h'
  rw [e] at e'; cases e'
  rw [d] at d'
  injection d' with d1 _
  have : its = its' := by simpa using congrArg Array.toList d1
  subst this
  exact r.inj r'
theorem Inv.tuple_inj (I : Inv X pins σ H s) (h : SqT X.K H a xs) (h' : SqT X.K H a ys) : xs = ys := by
  obtain ⟨its, r, ⟨o, e, _, n, d⟩, _⟩ := I.tuple h
  obtain ⟨its', r', ⟨o', e', _, n', d'⟩, _⟩ := I.tuple h'
  rw [e] at e'; cases e'
  rw [d] at d'
  injection d' with d1 _
  have : its = its' := by simpa using congrArg Array.toList d1
  subst this
  exact r.inj r'
end

noncomputable abbrev Cx.wish (X : Cx) (E : Value → Shared → Prop) : Cx := { X with xe := E }
noncomputable abbrev Cx.nox (X : Cx) : Cx := X.wish fun _ _ => False
theorem Cx.Ok.wish {X : Cx} (ok : X.Ok) (E : Value → Shared → Prop) : (X.wish E).Ok :=
  ⟨ok.mod, ok.kind, ok.glob, ok.blt, ok.above, ok.inj, ok.has, ok.cab, ok.hd, ok.frames, ok.stk, ok.exf, ok.bs, ok.bsz, ok.noex, ok.exfs, ok.funs, ok.frf⟩
theorem Cx.Ok.unwish {X : Cx} {E : Value → Shared → Prop} (ok : (X.wish E).Ok) : X.Ok :=
  ⟨ok.mod, ok.kind, ok.glob, ok.blt, ok.above, ok.inj, ok.has, ok.cab, ok.hd, ok.frames, ok.stk, ok.exf, ok.bs, ok.bsz, ok.noex, ok.exfs, ok.funs, ok.frf⟩
section
variable {X : Cx} {pins : List (Addr × Obj)} {σ : St} {H : Hp} {s : Shared} {E : Value → Shared → Prop}
theorem Inv.wish (I : Inv X pins σ H s) (E : Value → Shared → Prop) : Inv (X.wish E) pins σ H s := ⟨I.ok.wish E, I.os, I.bare, I.base, I.loc, I.cell, I.free, I.freeC, I.pin, I.hok, I.len⟩
theorem Inv.unwish (I : Inv (X.wish E) pins σ H s) : Inv X pins σ H s := ⟨I.ok.unwish, I.os, I.bare, I.base, I.loc, I.cell, I.free, I.freeC, I.pin, I.hok, I.len⟩
theorem SP.unwish {D : Ends} {f : Flow} {s' : Shared} (h : SP (X.wish E) pins D f s') : SP X pins D f s' := by
  cases f with
  | next => obtain ⟨σ', H', I, q⟩ := h; exact ⟨σ', H', I.unwish, q⟩
  | brk => obtain ⟨σ', H', I, q⟩ := h; exact ⟨σ', H', I.unwish, q⟩
  | cont => obtain ⟨σ', H', I, q⟩ := h; exact ⟨σ', H', I.unwish, q⟩
  | ret u => obtain ⟨v, σ', H', I, r, q⟩ := h; exact ⟨v, σ', H', I.unwish, r, q⟩
theorem PSs.nox {st : List Stmt} {t : TS} (h : PSs X.nox st t) : PSs X st t := fun pins s σ H D I hw =>
  wpAny_mono (h pins s σ H D (I.wish _) hw) (fun _ _ q => q.unwish) fun _ _ z => False.elim z
end

section
variable {X : Cx} {st : Stmt} {rest : List Stmt} {t u : TS} {e : Expr} {te : TE} {pos : Pos}
noncomputable def tNext : TS := fun D σ H => D.nx σ H
noncomputable def tSeq (t u : TS) : TS := fun D σ H => t { D with nx := u D } σ H
theorem pss_nil : PSs X [] tNext := fun _ _ σ H _ I h => wpAny_execs_nil ⟨σ, H, I, h⟩
theorem pss_cons (h1 : PS X st t) (h2 : PSs X rest u) : PSs X (st :: rest) (tSeq t u) := by
  intro pins s σ H D I h
  refine wpAny_execs_cons (thn (h1 pins s σ H { D with nx := u D } I h) fun f s1 q => ?_)
  cases f with
  | next =>
    obtain ⟨σ', H', I', q⟩ := q
    exact h2 pins s1 σ' H' D I' q
  | ret v => exact q
  | brk => exact q
  | cont => exact q
theorem pss_one (h1 : PS X st t) : PSs X [st] t := by
  intro pins s σ H D I h
  refine wpAny_execs_cons (thn (h1 pins s σ H D I h) fun f s1 q => ?_)
  cases f with
  | next => exact wpAny_execs_nil q
  | ret v => exact q
  | brk => exact q
  | cont => exact q
theorem Inv.quiet {pins : List (Addr × Obj)} {σ : St} {H : Hp} {s : Shared} (I : Inv X pins σ H s) : interactive X.env = false := by simp [interactive, I.ok.kind]
noncomputable def tDrop (te : TE) : TS := fun D σ H => te σ H fun _ H1 => D.nx σ H1
theorem ps_expr (he : PE X e te) (hs : swapsWith e none pos.line X.env = pure false := by rfl) : PS X (.Expr e pos) (tDrop te) := by
  intro pins s σ H D I h
  exact wpAny_Expr_any (thn (he pins s σ H _ I h) fun v s1 ⟨x, H1, I1, r1, q1⟩ => ⟨σ, H1, I1, q1⟩) I.quiet hs
noncomputable def tRet (te : TE) : TS := fun D σ H => te σ H D.rt
theorem ps_ret (he : PE X e te) : PS X (.Return (some e) pos) (tRet te) := by
  intro pins s σ H D I h
  exact wpAny_Return_some (thn (he pins s σ H _ I h) fun v s1 ⟨x, H1, I1, r1, q1⟩ => ⟨x, σ, H1, I1, r1, q1⟩)
noncomputable def tIfS (c : TT) (t u : TS) : TS := fun D σ H => c σ H fun b H1 => if b = true then t D σ H1 else u D σ H1
theorem ps_if {c : Expr} {a b : List Stmt} {tc : TT} (hc : PT X c tc) (ha : PSs X a t) (hb : PSs X b u) : PS X (.If c a b pos) (tIfS tc t u) := by
  intro pins s σ H D I h
  refine wpAny_If (thn (hc pins s σ H _ I h) fun d s1 ⟨H1, I1, q1⟩ => ?_)
  cases d with
  | true => exact ha pins s1 σ H1 D I1 q1
  | false => exact hb pins s1 σ H1 D I1 q1
end

noncomputable abbrev TG := V → St → Hp → (St → Hp → Prop) → Prop
noncomputable abbrev TGs := List V → St → Hp → (St → Hp → Prop) → Prop
noncomputable def PG (X : Cx) (target : Expr) (t : TG) : Prop :=
  ∀ (pins : List (Addr × Obj)) (s : Shared) (σ : St) (H : Hp) (v : V) (u : Value) (Q : St → Hp → Prop), Inv X pins σ H s → RelV v u → t v σ H Q →
    wpAny (model X.prog X.w) X.A (assign target X.env u) (fun _ s' => ∃ σ' H', Inv X pins σ' H' s' ∧ Q σ' H') X.xe s
noncomputable def PGs (X : Cx) (ts : List Expr) (t : TGs) : Prop :=
  ∀ (pins : List (Addr × Obj)) (s : Shared) (σ : St) (H : Hp) (vs : List V) (us : List Value) (Q : St → Hp → Prop), Inv X pins σ H s → Vals vs us → t vs σ H Q →
    wpAny (model X.prog X.w) X.A (assignInOrder ((assignEach ts X.env).map (·.2)) us) (fun _ s' => ∃ σ' H', Inv X pins σ' H' s' ∧ Q σ' H') X.xe s
noncomputable abbrev TSet := V → V → V → Hp → (Hp → Prop) → Prop
noncomputable def PSet (X : Cx) (t : TSet) : Prop :=
  ∀ (pins : List (Addr × Obj)) (s : Shared) (σ : St) (H : Hp) (o i v : V) (ov iv u : Value) (Q : Hp → Prop), Inv X pins σ H s → RelV o ov → RelV i iv → RelV v u → t o i v H Q →
    wpAny (model X.prog X.w) X.A (setItem ov iv u) (fun _ s' => ∃ H', Inv X pins σ H' s' ∧ Q H') X.xe s
section
variable {X : Cx} {pos : Pos}
noncomputable def gName (i : Nat) : TG := fun v σ H Q => Q (σ.set i (some v)) H
theorem pg_name {i : Nat} {x : Str} (hN : X.N.Nodup) (hi : X.N[i]? = some x) (hx : Loc X.env.scope x) (hf : X.fn x = true ∨ X.env.scope.names.lookup x = some .local := by first | exact .inl rfl | exact .inr rfl | assumption) : PG X (.Name x pos) (gName i) := by
  intro pins s σ H v u Q I r h
  exact wpAny_assign_Name (store_ok I hN hi hx r (fun s' I' => ⟨_, H, I', h⟩) hf)
noncomputable def gNil : TGs := fun vs σ H Q => vs = [] ∧ Q σ H
noncomputable def gCons (t : TG) (u : TGs) : TGs := fun vs σ H Q => ∃ v r, vs = v :: r ∧ t v σ H fun σ' H' => u r σ' H' Q
theorem pgs_nil : PGs X [] gNil := by
  intro pins s σ H vs us Q I r h
  obtain ⟨e, h⟩ := h
  subst e
  cases r
  exact assignInOrder_nil ⟨σ, H, I, h⟩
theorem pgs_cons {e : Expr} {es : List Expr} {t : TG} {u : TGs} (h1 : PG X e t) (h2 : PGs X es u)
    (hs : (assignEach (e :: es) X.env).map (·.2) = assign e X.env :: (assignEach es X.env).map (·.2) := by rfl) : PGs X (e :: es) (gCons t u) := by
  intro pins s σ H vs us Q I r h
  obtain ⟨v, vr, e1, h⟩ := h
  subst e1
  cases r with
  | cons r rr =>
    rw [hs]
    refine assignInOrder_cons (thn (h1 pins s σ H _ _ _ I r h) fun _ s1 ⟨σ1, H1, I1, q1⟩ => ?_)
    exact h2 pins s1 σ1 H1 _ _ Q I1 rr q1
noncomputable def gTup (K : PySem.W.Frag) (n : Nat) (t : TGs) : TG := fun v σ H Q => ∃ a xs, v = .ref a ∧ SqT K H a xs ∧ xs.length = n ∧ t xs σ H Q
theorem pg_tup {es : List Expr} {k : Nat} {t : TGs} {n : Nat} (hc : X.calm = true) (h : PGs X es t)
    (hn : (assignEach es X.env).length = n := by rfl) (hst : (assignEach es X.env).findIdx? (·.1) = none := by rfl) : PG X (.Tuple es k pos) (gTup X.K n t) := by
  intro pins s σ H v u Q I r hw
  obtain ⟨a, xs, e1, hq, hl, hw⟩ := hw
  subst e1
  cases r
  obtain ⟨its, rv, ht, hz⟩ := I.tuple hq
  refine assign_Tuple_tuple (I.ok.hd hc) ht (by simp [hn, ← hl, rv.length]) hst fun h' hx => ?_
  have I1 : Inv X pins σ H { s with heap := h' } := I.kept (t' := s.toks) fun b o e => hx b o (Nat.ne_of_lt (Heap.lt_size e)) e
  exact h pins _ σ H xs _ Q I1 (by simpa using rv) hw
noncomputable def gSub (to ti : TE) (t : TSet) : TG := fun v σ H Q => to σ H fun o H1 => ti σ H1 fun i H2 => t o i v H2 fun H3 => Q σ H3
theorem pg_sub {o i : Expr} {to ti : TE} {t : TSet} (ho : PE X o to) (hi : PE X i ti) (hs : PSet X t)
    (ha : ∀ v, assign (.Subscript o i pos) X.env v = (do
      let ov ← holding [v] (eval o X.env)
      let iv ← holding [v, ov] (eval i X.env)
      standAt pos
      holding [v, ov, iv] (setItem ov iv v)
      release [v, ov, iv] []) := by intro _; rfl) : PG X (.Subscript o i pos) (gSub to ti t) := by
  intro pins s σ H v u Q I r h
  rw [ha]
  refine wpAny_bind (wpAny_holding (thn (ho pins s σ H _ I h) fun ov s1 ⟨x, H1, I1, r1, q1⟩ => ?_))
  refine wpAny_bind (wpAny_holding (thn (hi pins s1 σ H1 _ I1 q1) fun iv s2 ⟨y, H2, I2, r2, q2⟩ => ?_))
  refine wpAny_bind (wpAny_standAt (wpAny_bind (wpAny_holding (thn (hs pins s2 σ H2 x y v ov iv u _ I2 r1 r2 r q2) fun _ s3 ⟨H3, I3, q3⟩ => ?_))))
  exact wpAny_release ⟨σ, H3, I3, q3⟩
noncomputable def tAsg (te : TE) (g : TG) : TS := fun D σ H => te σ H fun x H1 => g x σ H1 D.nx
theorem ps_asg {tg e : Expr} {te : TE} {g : TG} (he : PE X e te) (hg : PG X tg g) (hs : swapsWithSole [tg] e pos.line X.env = pure false := by rfl) (hw : swappedStores [tg] e X.env = pure none := by rfl)
    (h1 : (assignEach [tg] X.env).map (·.2) = [assign tg X.env] := by rfl) : PS X (.Assign [tg] e pos) (tAsg te g) := by
  intro pins s σ H D I h
  refine wpAny_Assign_stores (thn (he pins s σ H _ I h) fun v s1 ⟨x, H1, I1, r1, q1⟩ => ?_) hs hw
  rw [h1]
  exact thn (hg pins s1 σ H1 x v _ I1 r1 q1) fun _ s2 q => q
theorem ps_set {i : Nat} {x : Str} {e : Expr} {te : TE} {pos' : Pos} (hN : X.N.Nodup) (hi : X.N[i]? = some x) (hx : Loc X.env.scope x) (he : PE X e te) (hs : swapsWith e (some (.Name x pos')) pos.line X.env = pure false := by rfl) (hf : X.fn x = true ∨ X.env.scope.names.lookup x = some .local := by first | exact .inl rfl | exact .inr rfl | assumption) :
    PS X (.Assign [.Name x pos'] e pos) (tAsg te (gName i)) := by
  intro pins s σ H D I h
  refine wpAny_Assign_Name (thn (he pins s σ H _ I h) fun v s1 ⟨y, H1, I1, r1, q1⟩ => ?_) hs
  exact store_ok I1 hN hi hx r1 (fun s2 I2 => ⟨_, H1, I2, q1⟩) hf
noncomputable def tPar (i j : Nat) (ta : TA) : TS := fun D σ H => ta σ H fun vs H1 => ∃ v w, vs = [v, w] ∧ D.nx ((σ.set i (some v)).set j (some w)) H1
theorem ps_par {i j : Nat} {x y : Str} {a b : Expr} {ta : TA} {px py pt : Pos} {kt k2 pt2} (hc : X.calm = true) (hN : X.N.Nodup) (hi : X.N[i]? = some x) (hj : X.N[j]? = some y) (hij : i ≠ j)
    (hx : X.env.scope.names.lookup x = some .local) (hy : X.env.scope.names.lookup y = some .local) (ha : PA X [a, b] ta)
    (hw : swappedStores [.Tuple [.Name x px, .Name y py] kt pt] (.Tuple [a, b] k2 pt2) X.env = pure (some [x, y]))
    (hs : swapsWithSole [.Tuple [.Name x px, .Name y py] kt pt] (.Tuple [a, b] k2 pt2) pos.line X.env = pure false := by rfl) :
    PS X (.Assign [.Tuple [.Name x px, .Name y py] kt pt] (.Tuple [a, b] k2 pt2) pos) (tPar i j ta) := by
  intro pins s σ H D I h
  rw [exec_Assign_arm]
  refine wpAny_bind (wpAny_standAt ?_)
  rw [hs]
  refine wpAny_bind (wpAny_pure ?_)
  rw [if_neg (by decide)]
  refine wpAny_bind (Tuple_ (thn (ha _ pins s σ H _ I h) fun us s1 ⟨vs, H1, I1, r1, q1⟩ => ?_))
  obtain ⟨v, w, e1, q1⟩ := q1
  subst e1
  obtain ⟨u1, u2, rfl, rv, rw'⟩ : ∃ u1 u2, us = [u1, u2] ∧ RelV v u1 ∧ RelV w u2 := by
    cases r1 with
    | cons p q =>
      cases q with
      | cons p' q' =>
        cases q'
        exact ⟨_, _, rfl, p, p'⟩
  refine wpAny_newObj_type ?_ (by show 2 ≤ sizeLine; decide)
  have I2 : Inv X pins σ H1 { s1 with heap := s1.heap.push { cls := .type "tuple", data := .seq [u1, u2].toArray } } := I1.kept (t' := s1.toks) fun b o e => Heap.get?_push_of_some _ e
  rw [hw]
  refine wpAny_bind (wpAny_pure ?_)
  show wpAny (model X.prog X.w) X.A (do rule "assign.swapped-stores"; let items ← unpackItems (.ref s1.heap.objs.size) 2 none; assignInOrder [fun v => bindName X.env y v, fun v => bindName X.env x v] items.reverse; pure Flow.next) _ _ _
  refine wpAny_bind (wpAny_rule (wpAny_bind (unpackItems_tuple (items := #[u1, u2]) (I.ok.hd hc) (IsTup.new s1.heap _) fun h' hx' => ?_)))
  have I3 := I2.kept (h' := h') (t' := s1.toks) fun b o e => hx' b o (Nat.ne_of_lt (Heap.lt_size e)) e
  show wpAny _ _ (assignInOrder [fun v => bindName X.env y v, fun v => bindName X.env x v] [u2, u1] >>= fun _ => pure Flow.next) _ _ _
  refine wpAny_bind (assignInOrder_cons (wpAny_bindName (store_ok I3 hN hj (.inl hy) rw' (fun s2 I4 => ?_) (.inr hy))))
  refine assignInOrder_cons (wpAny_bindName (store_ok I4 hN hi (.inl hx) rv (fun s3 I5 => assignInOrder_nil (wpAny_pure ?_)) (.inr hx)))
  rw [List.set_comm _ _ (Ne.symm hij)] at I5
  exact ⟨_, H1, I5, q1⟩
end

section
variable {X : Cx} {pos : Pos}
noncomputable def tWhile (c : TT) (tb : TS) : TS := fun D σ H => ∃ W : Nat → St → Hp → Prop, (∃ m, W m σ H) ∧ ∀ m σ H, W m σ H →
  c σ H fun b H1 => if b = true then ∃ N : St → Hp → Prop, (∀ σ' H', N σ' H' → ∃ m', m' < m ∧ W m' σ' H') ∧ tb { D with nx := N, ct := N, bk := D.nx } σ H1 else D.nx σ H1
theorem ps_while {c : Expr} {body : List Stmt} {tc : TT} {tb : TS} (hp : PassesOwn (model X.prog X.w) X.A X.env X.xe) (hc : PT X c tc) (hb : PSs X body tb) : PS X (.While c body [] pos) (tWhile tc tb) := by
  intro pins s σ H D I h
  obtain ⟨W, ⟨m0, w0⟩, turn⟩ := h
  refine wpAny_While (codeAny_whileLoop (fun n s' => ∃ σ' H', Inv X pins σ' H' s' ∧ W n σ' H') ?_ m0 ⟨σ, H, I, w0⟩)
  rintro n s1 ⟨σ1, H1, I1, w1⟩
  refine wpAny_passesOwn hp (thn (hc pins s1 σ1 H1 _ I1 (turn n σ1 H1 w1)) fun b s2 ⟨H2, I2, q2⟩ => ?_)
  cases b with
  | true =>
    obtain ⟨N, hN, q2⟩ := q2
    rw [if_pos rfl]
    refine wpAny_passesOwn hp (thn (hb pins s2 σ1 H2 _ I2 q2) fun f s3 q3 => ?_)
    cases f with
    | next =>
      obtain ⟨σ3, H3, I3, n3⟩ := q3
      obtain ⟨m', hm, w3⟩ := hN σ3 H3 n3
      exact ⟨m', hm, σ3, H3, I3, w3⟩
    | cont =>
      obtain ⟨σ3, H3, I3, n3⟩ := q3
      obtain ⟨m', hm, w3⟩ := hN σ3 H3 n3
      exact ⟨m', hm, σ3, H3, I3, w3⟩
    | brk => exact q3
    | ret v => exact q3
  | false =>
    rw [if_neg Bool.false_ne_true]
    exact wpAny_execs_nil ⟨σ1, H2, I2, q2⟩
end

structure It where
  go : Nat → Hp → Prop
  yld : Nat → Hp → V → Hp → Prop
  stop : Nat → Hp → Prop
noncomputable def FpOk (X : Cx) (pins : List (Addr × Obj)) (H : Hp) (b : Addr) : Prop :=
  H b = none ∧ b ≠ X.env.locals ∧ b ∉ X.fs ∧ (b ∈ X.ex ∨ X.s₀.heap.objs.size ≤ b) ∧ (∀ x c, X.env.cells.lookup x = some c → c ≠ b) ∧ ∀ p ∈ X.pn ++ pins, p.1 ≠ b
theorem Inv.fpOk {X : Cx} {pins : List (Addr × Obj)} {σ : St} {H H' : Hp} {s : Shared} {b : Addr} (I : Inv X pins σ H s) (hb : s.heap.objs.size ≤ b) (hn : H' b = none) : FpOk X pins H' b := by
  refine ⟨hn, Nat.ne_of_gt (Nat.lt_of_lt_of_le I.lt hb), I.nofs hb, .inr (Nat.le_trans I.sz hb), fun x c e z => ?_, fun p hp z => ?_⟩
  · obtain ⟨v, q⟩ := I.cell x c e
    exact absurd (Nat.lt_of_lt_of_le q.lt (by rw [z]; exact hb)) (Nat.lt_irrefl _)
  · exact absurd (Nat.lt_of_lt_of_le (Heap.lt_size (I.pin p hp).1) (by rw [z]; exact hb)) (Nat.lt_irrefl _)
structure Turn (P : Program) (w : World) (K : PySem.W.Frag) (tg : Expr) (J : It) (fp : List Addr) (it : Addr) (tn : Nat → Heap → Prop) : Prop where
  mem : it ∈ fp
  obj : ∀ i h, tn i h → ∀ b ∈ fp, ∃ o, h.get? b = some o ∧ ∀ v, o.data ≠ .cell v
  keep : ∀ i h h', tn i h → (∀ b ∈ fp, ∀ o, h.get? b = some o → h'.get? b = some o) → tn i h'
  item : ∀ (X : Cx), X.prog = P → X.w = w → X.K = K → X.calm = true → ∀ (i : Nat) (pins : List (Addr × Obj)) (s : Shared) (σ : St) (H : Hp) (E : Value → Shared → Prop), Inv X pins σ H s → (∀ b ∈ fp, FpOk X pins H b) → tn i s.heap → J.go i H →
    wpAny (model P w) X.A (pyNext (.ref it)) (fun r s1 => ∃ u, r = some u ∧
      wpAny (model P w) X.A (letOwnedTupleGo tg (.ref it) u) (fun _ s2 => ∃ x H', Inv X pins σ H' s2 ∧ RelV x u ∧ J.yld i H x H' ∧ tn (i + 1) s2.heap ∧ ∀ b ∈ fp, H' b = none) E s1) E s
  done : ∀ (X : Cx), X.prog = P → X.w = w → X.K = K → X.calm = true → ∀ (i : Nat) (pins : List (Addr × Obj)) (s : Shared) (σ : St) (H : Hp) (E : Value → Shared → Prop), Inv X pins σ H s → (∀ b ∈ fp, FpOk X pins H b) → tn i s.heap → J.stop i H →
    wpAny (model P w) X.A (pyNext (.ref it)) (fun r s1 => r = none ∧ Inv X pins σ H s1) E s
  self : ∀ (A : Around) (i : Nat) (s : Shared) (Q : Value → Shared → Prop) (E : Value → Shared → Prop), tn i s.heap → Q (.ref it) s → wpAny (model P w) A (pyIter (.ref it)) Q E s
noncomputable abbrev TI := St → Hp → (It → Hp → Prop) → Prop
noncomputable def PIE (X : Cx) (pins : List (Addr × Obj)) (σ : St) (tg : Expr) (R : It → Hp → Prop) (itv : Value) (s2 : Shared) : Prop :=
  ∃ (it : Addr) (fp : List Addr) (tn : Nat → Heap → Prop) (J : It) (H' : Hp), itv = .ref it ∧ Inv X pins σ H' s2 ∧ Turn X.prog X.w X.K tg J fp it tn ∧ tn 0 s2.heap ∧ (∀ b ∈ fp, FpOk X pins H' b) ∧ R J H'
noncomputable def PI (X : Cx) (tg iter : Expr) (wi : TI) : Prop :=
  ∀ (pins : List (Addr × Obj)) (s : Shared) (σ : St) (H : Hp) (R : It → Hp → Prop), Inv X pins σ H s → wi σ H R →
    wpAny (model X.prog X.w) X.A (eval iter X.env) (fun v s1 => wpAny (model X.prog X.w) X.A (pyIter v) (PIE X pins σ tg R) X.xe s1) X.xe s

theorem go_of {M : Model} {A : Around} {E : Value → Shared → Prop} {s : Shared} {tg : Expr} {it : Addr} {u : Value} {o : Obj} {n : String} {vs : Array Value} {Q : Unit → Shared → Prop} (ho : s.heap.get? it = some o) (hc : o.cls = .type n) (hd : o.data = .fields vs)
    (hn : ["enumerate", "zip", "dict_itemiterator", "dict_reverseitemiterator", "odict_iterator", "itertools.zip_longest", "itertools.pairwise"].contains n = false) (hQ : Q () s) : wpAny M A (letOwnedTupleGo tg (.ref it) u) Q E s := by
  unfold letOwnedTupleGo
  cases tg <;> first
    | exact wpAny_pure hQ
    | (cases u <;> first
        | exact wpAny_pure hQ
        | (refine wpAny_bind (wpAny_load ho ?_)
           rw [hc, hd]
           show wpAny M A (if (["enumerate", "zip", "dict_itemiterator", "dict_reverseitemiterator", "odict_iterator", "itertools.zip_longest", "itertools.pairwise"].contains n && vs[0]? == some (rawInt _)) = true then _ else _) Q E s
           rw [if_neg (by intro h; rw [hn, Bool.false_and] at h; cases h)]
           exact wpAny_pure hQ))

noncomputable def Itl (K : PySem.W.Frag) (a : Addr) : It :=
  ⟨fun i H => ∃ xs x, SqL K H a xs ∧ xs[i]? = some x, fun i H x H' => H' = H ∧ ∀ xs, SqL K H a xs → xs[i]? = some x, fun i H => ∃ xs, SqL K H a xs ∧ xs.length ≤ i⟩
noncomputable def Itt (K : PySem.W.Frag) (a : Addr) : It :=
  ⟨fun i H => ∃ xs x, SqT K H a xs ∧ xs[i]? = some x, fun i H x H' => H' = H ∧ ∀ xs, SqT K H a xs → xs[i]? = some x, fun i H => ∃ xs, SqT K H a xs ∧ xs.length ≤ i⟩
noncomputable def Itr (lo : Int) (n : Nat) : It := ⟨fun i _ => i < n, fun i H x H' => H' = H ∧ x = .int (lo + i), fun i _ => n ≤ i⟩
theorem turn_list {P : Program} {w : World} {K : PySem.W.Frag} {tg : Expr} (a it : Addr) : Turn P w K tg (Itl K a) [it] it (fun i h => h.IsListIter it a i) where
  mem := by simp
  obj := fun i h st b hb => by
    have e : b = it := by simpa using hb
    subst e
    obtain ⟨o, e, c, d⟩ := st
    exact ⟨o, e, fun v z => by rw [d] at z; cases z⟩
  keep := fun i h h' st k => st.at fun o e => k it (by simp) o e
  item := by
    intro X hP hw hK hc i pins s σ H E I hf st hg
    subst hP hw hK
    obtain ⟨xs, x, hq, hx⟩ := hg
    obtain ⟨its, rv, p, hz⟩ := I.list hq
    obtain ⟨u, hu, ru⟩ := rv.get hx
    obtain ⟨f0, f1, f2, f3, f4, f5⟩ := hf it (by simp)
    refine wpAny_pyNext_list_item st p.isList (x := u) (by simpa using hu) fun h' st' sb => ?_
    have I1 : Inv X pins σ H { s with heap := h' } := I.turned (t' := s.toks) (fun b o hb e => (sb.2 b hb).trans e) f0 f1 f3 f4 f5
    obtain ⟨o, e, c, d⟩ := id st'
    exact ⟨u, rfl, go_of (s := { s with heap := h' }) e c d (by decide) ⟨x, H, I1, ru, ⟨rfl, fun ys hy => by rw [I.list_inj hy hq]; exact hx⟩, st', fun b hb => (hf b hb).1⟩⟩
  done := by
    intro X hP hw hK hc i pins s σ H E I hf st hg
    subst hP hw hK
    obtain ⟨xs, hq, hx⟩ := hg
    obtain ⟨its, rv, p, hz⟩ := I.list hq
    obtain ⟨f0, f1, f2, f3, f4, f5⟩ := hf it (by simp)
    have hl := rv.length
    exact wpAny_pyNext_list_end (I.ok.hd hc) st p.isList (by simp; (first | lia | omega)) fun h' eb => ⟨rfl, I.turned (t' := s.toks) (fun b o hb e => eb b o hb e) f0 f1 f3 f4 f5⟩
  self := fun _ _ _ _ _ st h => wpAny_pyIter_listiter st h
theorem turn_tuple {P : Program} {w : World} {K : PySem.W.Frag} {tg : Expr} (a it : Addr) : Turn P w K tg (Itt K a) [it] it (fun i h => h.IsTupleIter it a i) where
  mem := by simp
  obj := fun i h st b hb => by
    have e : b = it := by simpa using hb
    subst e
    obtain ⟨o, e, c, d⟩ := st
    exact ⟨o, e, fun v z => by rw [d] at z; cases z⟩
  keep := fun i h h' st k => st.at fun o e => k it (by simp) o e
  item := by
    intro X hP hw hK hc i pins s σ H E I hf st hg
    subst hP hw hK
    obtain ⟨xs, x, hq, hx⟩ := hg
    obtain ⟨its, rv, p, hz⟩ := I.tuple hq
    obtain ⟨u, hu, ru⟩ := rv.get hx
    obtain ⟨f0, f1, f2, f3, f4, f5⟩ := hf it (by simp)
    refine wpAny_pyNext_tuple_item st (show s.heap.IsTuple a its.toArray from p) (x := u) (by simpa using hu) fun h' st' sb => ?_
    have I1 : Inv X pins σ H { s with heap := h' } := I.turned (t' := s.toks) (fun b o hb e => (sb.2 b hb).trans e) f0 f1 f3 f4 f5
    obtain ⟨o, e, c, d⟩ := id st'
    exact ⟨u, rfl, go_of (s := { s with heap := h' }) e c d (by decide) ⟨x, H, I1, ru, ⟨rfl, fun ys hy => by rw [I.tuple_inj hy hq]; exact hx⟩, st', fun b hb => (hf b hb).1⟩⟩
  done := by
    intro X hP hw hK hc i pins s σ H E I hf st hg
    subst hP hw hK
    obtain ⟨xs, hq, hx⟩ := hg
    obtain ⟨its, rv, p, hz⟩ := I.tuple hq
    obtain ⟨f0, f1, f2, f3, f4, f5⟩ := hf it (by simp)
    have hl := rv.length
    exact wpAny_pyNext_tuple_end (I.ok.hd hc) st (show s.heap.IsTuple a its.toArray from p) (by simp; (first | lia | omega)) fun h' eb => ⟨rfl, I.turned (t' := s.toks) (fun b o hb e => eb b o hb e) f0 f1 f3 f4 f5⟩
  self := fun _ _ _ _ _ st h => wpAny_pyIter_tupleiter st h
theorem turn_range {P : Program} {w : World} {K : PySem.W.Frag} {tg : Expr} (it : Addr) (lo : Int) (n : Nat) : Turn P w K tg (Itr lo n) [it] it (fun i h => IsRangeIter h it (lo + (i : Nat) * 1) ((n : Int) - (i : Nat)) 1) where
  mem := by simp
  obj := fun i h st b hb => by
    have e : b = it := by simpa using hb
    subst e
    exact ⟨_, st, fun v z => by
      have z' : Data.fields _ = Data.cell v := z
      cases z'⟩
  keep := fun i h h' st k => k it (by simp) _ st
  item := by
    intro X hP hw hK hc i pins s σ H E I hf st hg
    subst hP hw hK
    obtain ⟨f0, f1, f2, f3, f4, f5⟩ := hf it (by simp)
    have W := Walks.range (prog := X.prog) (w := X.w) (I.ok.hd hc) it lo 1 n
    refine W.item i s _ _ hg st fun v h' tk hv st' kk => ?_
    obtain ⟨t, rfl⟩ := hv
    have I1 : Inv X pins σ H { s with heap := h', toks := tk } := I.turned (fun b o hb e => kk b o (by simpa using hb) e) f0 f1 f3 f4 f5
    refine ⟨_, rfl, go_of (s := { s with heap := h', toks := tk }) (n := "range_iterator") st' rfl rfl (by decide) ⟨.int (lo + i), H, I1, ⟨t, ?_⟩, ⟨rfl, rfl⟩, st', fun b hb => (hf b hb).1⟩⟩
    rw [Int.mul_one]
  done := by
    intro X hP hw hK hc i pins s σ H E I hf st hg
    subst hP hw hK
    obtain ⟨f0, f1, f2, f3, f4, f5⟩ := hf it (by simp)
    exact wpAny_pyNext_range_end (I.ok.hd hc) st (by have : n ≤ i := hg; (first | lia | omega)) fun h' eb => ⟨rfl, I.turned (t' := s.toks) (fun b o hb e => eb b o hb e) f0 f1 f3 f4 f5⟩
  self := fun _ _ _ _ _ st h => wpAny_pyIter_rangeiter st h
end L2

namespace L2
open PySem PySem.Spec PyProof.Rows
section
variable {X : Cx} {tg : Expr}
noncomputable def iList (K : PySem.W.Frag) (tl : TE) : TI := fun σ H R => tl σ H fun x H1 => ∃ a, x = .ref a ∧ (∃ xs, SqL K H1 a xs) ∧ R (Itl K a) H1
noncomputable def iTup (K : PySem.W.Frag) (tl : TE) : TI := fun σ H R => tl σ H fun x H1 => ∃ a, x = .ref a ∧ (∃ xs, SqT K H1 a xs) ∧ R (Itt K a) H1
theorem pi_list {l : Expr} {tl : TE} (hl : PE X l tl) : PI X tg l (iList X.K tl) := by
  intro pins s σ H R I h
  refine thn (hl pins s σ H _ I h) fun v s1 ⟨x, H1, I1, r1, q1⟩ => ?_
  obtain ⟨a, e, ⟨xs, hq⟩, q⟩ := q1
  subst e
  cases r1
  obtain ⟨its, rv, p, hz⟩ := I1.list hq
  refine wpAny_pyIter_list p.isList ?_
  refine ⟨s1.heap.objs.size, [s1.heap.objs.size], _, _, H1, rfl, I1.kept (t' := s1.toks) fun b o e => Heap.get?_push_of_some _ e, turn_list a _, ⟨_, Heap.get?_push_size _ rfl, rfl, rfl⟩, fun b hb => ?_, q⟩
  have e : b = s1.heap.objs.size := by simpa using hb
  subst e
  exact I1.fpOk (Nat.le_refl _) (I1.hok.fresh (Nat.le_refl _))
theorem pi_tup {l : Expr} {tl : TE} (hl : PE X l tl) : PI X tg l (iTup X.K tl) := by
  intro pins s σ H R I h
  refine thn (hl pins s σ H _ I h) fun v s1 ⟨x, H1, I1, r1, q1⟩ => ?_
  obtain ⟨a, e, ⟨xs, hq⟩, q⟩ := q1
  subst e
  cases r1
  obtain ⟨its, rv, p, hz⟩ := I1.tuple hq
  refine wpAny_pyIter_tuple (show s1.heap.IsTuple a its.toArray from p) ?_
  refine ⟨s1.heap.objs.size, [s1.heap.objs.size], _, _, H1, rfl, I1.kept (t' := s1.toks) fun b o e => Heap.get?_push_of_some _ e, turn_tuple a _, ⟨_, Heap.get?_push_size _ rfl, rfl, rfl⟩, fun b hb => ?_, q⟩
  have e : b = s1.heap.objs.size := by simpa using hb
  subst e
  exact I1.fpOk (Nat.le_refl _) (I1.hok.fresh (Nat.le_refl _))
theorem range_it {pins : List (Addr × Obj)} {σ : St} {H : Hp} {s : Shared} {R : It → Hp → Prop} {E : Value → Shared → Prop} {lo hi : Int} {t u v : Tok} {tk : Nat} (I : Inv X pins σ H s) (h1 : -(2 ^ 62) ≤ lo) (h2 : lo < 2 ^ 62) (h3 : -(2 ^ 62) ≤ hi) (h4 : hi < 2 ^ 62)
    (q : R (Itr lo (hi - lo).toNat) H) : wpAny (model X.prog X.w) X.A (pyIter (.ref s.heap.objs.size)) (PIE X pins σ tg R) E { s with heap := s.heap.push { cls := .type "range", data := .fields #[.int lo t, .int hi u, .int 1 v] }, toks := tk } := by
  refine wpAny_pyIter_range (IsRange.new ..) (small_one h1 h2 h3 h4) ?_
  have I1 : Inv X pins σ H { s with heap := s.heap.push { cls := .type "range", data := .fields #[.int lo t, .int hi u, .int 1 v] }, toks := tk } := I.kept fun b o e => Heap.get?_push_of_some _ e
  refine ⟨(s.heap.push { cls := .type "range", data := .fields #[.int lo t, .int hi u, .int 1 v] }).objs.size, [(s.heap.push { cls := .type "range", data := .fields #[.int lo t, .int hi u, .int 1 v] }).objs.size], _, _, H, rfl,
    I1.kept (t' := tk) fun b o e => Heap.get?_push_of_some _ e, turn_range _ lo (hi - lo).toNat, ?_, fun b hb => ?_, q⟩
  · have e1 : lo + ((0 : Nat) : Int) * 1 = lo := by simp
    have e2 : (((hi - lo).toNat : Nat) : Int) - ((0 : Nat) : Int) = Builtin.Range.rangeSize lo hi 1 := by rw [rangeSize_one]; split <;> (first | lia | omega)
    show IsRangeIter _ _ (lo + ((0 : Nat) : Int) * 1) ((((hi - lo).toNat : Nat) : Int) - ((0 : Nat) : Int)) 1
    rw [e1, e2]
    exact Heap.get?_push_size _ rfl
  · have e : b = (s.heap.push { cls := .type "range", data := .fields #[.int lo t, .int hi u, .int 1 v] }).objs.size := by simpa using hb
    subst e
    exact I1.fpOk (Nat.le_refl _) (I1.hok.fresh (Nat.le_refl _))
noncomputable def iRng1 (ta : TA) : TI := fun σ H R => ta σ H fun vs H1 => ∃ j : Int, vs = [.int j] ∧ -(2 ^ 62) ≤ j ∧ j < 2 ^ 62 ∧ R (Itr 0 j.toNat) H1
noncomputable def iRng2 (ta : TA) : TI := fun σ H R => ta σ H fun vs H1 => ∃ i j : Int, vs = [.int i, .int j] ∧ (-(2 ^ 62) ≤ i ∧ i < 2 ^ 62 ∧ -(2 ^ 62) ≤ j ∧ j < 2 ^ 62) ∧ R (Itr i (j - i).toNat) H1
theorem pi_range1 {a : Expr} {ta : TA} {p pos : Pos} (hg : Gl X "range") (hm : X.mg "range" = none) (ha : PA X [a] ta) (hs : starEach [a] X.env = [(false, eval a X.env)] := by rfl) : PI X tg (.Call (.Name "range" p) [a] [] pos) (iRng1 ta) := by
  intro pins s σ H R I h
  refine Call_ (ld_blt I hg hm boot_range (PyProof.Rows.callWith_type1 (thn (ha pos pins s σ H _ I h) fun us s1 ⟨vs, H1, I1, r1, q1⟩ => ?_) hs rfl))
  obtain ⟨j, e, q1, q2, q⟩ := q1
  subst e
  cases r1 with
  | cons r rr =>
    cases rr
    obtain ⟨t, rfl⟩ := r
    exact call_range_1 (range_it I1 (by (first | lia | omega)) (by (first | lia | omega)) q1 q2 (by simpa using q))
theorem pi_range2 {a b : Expr} {ta : TA} {p pos : Pos} (hg : Gl X "range") (hm : X.mg "range" = none) (ha : PA X [a, b] ta) (hs : starEach [a, b] X.env = [(false, eval a X.env), (false, eval b X.env)] := by rfl) (hs2 : starEach [b] X.env = [(false, eval b X.env)] := by rfl) :
    PI X tg (.Call (.Name "range" p) [a, b] [] pos) (iRng2 ta) := by
  intro pins s σ H R I h
  refine Call_ (ld_blt I hg hm boot_range (PyProof.Rows.callWith_type1 (thn (ha pos pins s σ H _ I h) fun us s1 ⟨vs, H1, I1, r1, q1⟩ => ?_) (by rw [hs, hs2]) (by rw [hs2]; rfl)))
  obtain ⟨i, j, e, ⟨q1, q2, q3, q4⟩, q⟩ := q1
  subst e
  cases r1 with
  | cons r rr =>
    cases rr with
    | cons r' rr =>
      cases rr
      obtain ⟨t, rfl⟩ := r
      obtain ⟨t', rfl⟩ := r'
      exact call_range_2 (range_it I1 q1 q2 q3 q4 q)

noncomputable def tFor (wi : TI) (g : TG) (tb : TS) : TS := fun D σ H => wi σ H fun J H1 => ∃ W : Nat → Nat → St → Hp → Prop, (∃ m, W 0 m σ H1) ∧ ∀ i m σ H, W i m σ H →
  (J.stop i H ∧ D.nx σ H) ∨ (J.go i H ∧ ∃ N : St → Hp → Prop, (∀ σ' H', N σ' H' → ∃ m', m' < m ∧ W (i + 1) m' σ' H') ∧ ∀ x H', J.yld i H x H' → g x σ H' fun σ2 H2 => tb { D with nx := N, ct := N, bk := D.nx } σ2 H2)
noncomputable def pinsAt (fp : List Addr) (h : Heap) : List (Addr × Obj) := fp.filterMap fun b => (h.get? b).map fun o => (b, o)
theorem mem_pinsAt {fp : List Addr} {h : Heap} {b : Addr} {o : Obj} (hb : b ∈ fp) (e : h.get? b = some o) : (b, o) ∈ pinsAt fp h := List.mem_filterMap.mpr ⟨b, hb, by rw [e]; rfl⟩
theorem of_pinsAt {fp : List Addr} {h : Heap} {p : Addr × Obj} (hp : p ∈ pinsAt fp h) : p.1 ∈ fp ∧ h.get? p.1 = some p.2 := by
  obtain ⟨b, hb, e⟩ := List.mem_filterMap.mp hp
  cases q : h.get? b with
  | none => rw [q] at e; cases e
  | some o =>
    rw [q] at e
    have e' : (b, o) = p := Option.some.inj e
    subst e'
    exact ⟨hb, q⟩
theorem Inv.pinned {pins : List (Addr × Obj)} {σ : St} {H : Hp} {s : Shared} {fp : List Addr} (I : Inv X pins σ H s) (hf : ∀ b ∈ fp, FpOk X pins H b) (ho : ∀ b ∈ fp, ∃ o, s.heap.get? b = some o ∧ ∀ v, o.data ≠ .cell v) : Inv X (pins ++ pinsAt fp s.heap) σ H s :=
  I.pins_of fun p hp => (List.mem_append.mp hp).elim (fun z => I.pin p (List.mem_append_right _ z)) fun z => by
    obtain ⟨hb, e⟩ := of_pinsAt z
    obtain ⟨f0, f1, f2, _⟩ := hf p.1 hb
    obtain ⟨o, e', d⟩ := ho p.1 hb
    rw [e] at e'; cases e'
    exact ⟨e, f0, f1, f2, d⟩
theorem Inv.unpinned {pins pl : List (Addr × Obj)} {σ : St} {H : Hp} {s : Shared} (I : Inv X (pins ++ pl) σ H s) : Inv X pins σ H s := I.pins_of fun p hp => I.pin p (List.mem_append_right _ (List.mem_append_left _ hp))
theorem ps_for {iter : Expr} {body : List Stmt} {wi : TI} {g : TG} {tb : TS} {pos : Pos} (hp : PassesOwn (model X.prog X.w) X.A X.env X.xe) (hc : X.calm = true) (hi : PI X tg iter wi) (hg : PG X tg g) (hb : PSs X body tb)
    (hs : ∀ x, foldedSetIterable iter X.env x = pure x := by intro _; rfl) : PS X (.For tg iter body [] pos) (tFor wi g tb) := by
  intro pins s σ H D I h
  refine wpAny_For (thn (hi pins s σ H _ I h) fun v s1 h1 => thn h1 fun itv s2 h2 => ?_) hs
  obtain ⟨it, fp, tn, J, H2, e, I2, T, st2, f2, W, ⟨m0, w0⟩, turn⟩ := h2
  subst e
  -- what stays true of the iterator's objects through the loop
  have stat : ∀ {H' : Hp}, (∀ b ∈ fp, H' b = none) → ∀ b ∈ fp, FpOk X pins H' b := fun hn b hb => ⟨hn b hb, (f2 b hb).2⟩
  refine codeAny_forLoop_any (fun n s' => ∃ i σ' H', Inv X pins σ' H' s' ∧ tn i s'.heap ∧ (∀ b ∈ fp, H' b = none) ∧ W i n σ' H') ?_ m0 ⟨0, σ, H2, I2, st2, fun b hb => (f2 b hb).1, w0⟩
  rintro n s3 ⟨i, σ3, H3, I3, st3, fr3, w3⟩
  rcases turn i n σ3 H3 w3 with ⟨stop, qn⟩ | ⟨go, N, hN, step⟩
  · refine wpAny_passesOwn hp (thn (T.done X rfl rfl rfl hc i pins s3 σ3 H3 X.xe I3 (stat fr3) st3 stop) fun r s4 ⟨hr, I4⟩ => ?_)
    subst hr
    exact wpAny_execs_nil ⟨σ3, H3, I4, qn⟩
  · refine wpAny_passesOwn hp (thn (T.item X rfl rfl rfl hc i pins s3 σ3 H3 X.xe I3 (stat fr3) st3 go) fun r s4 ⟨u, hr, h4⟩ => ?_)
    subst hr
    refine wpAny_passesOwn hp (thn h4 fun _ s5 ⟨x, H5, I5, r5, y5, st5, fr5⟩ => ?_)
    have I5' := I5.pinned (stat fr5) (T.obj _ _ st5)
    refine wpAny_passesOwn hp (thn (hg _ s5 σ3 H5 x u _ I5' r5 (step x H5 y5)) fun _ s6 ⟨σ6, H6, I6, q6⟩ => ?_)
    refine wpAny_passesOwn hp (thn (hb _ s6 σ6 H6 _ I6 q6) fun f s7 q7 => ?_)
    have again : ∀ {σ7 : St} {H7 : Hp}, Inv X (pins ++ pinsAt fp s5.heap) σ7 H7 s7 → N σ7 H7 → ∃ m, m < n ∧ ∃ i σ' H', Inv X pins σ' H' s7 ∧ tn i s7.heap ∧ (∀ b ∈ fp, H' b = none) ∧ W i m σ' H' := fun {σ7 H7} I7 n7 => by
      obtain ⟨m', hm, w7⟩ := hN σ7 H7 n7
      refine ⟨m', hm, i + 1, σ7, H7, I7.unpinned, T.keep _ _ _ st5 fun b hb o e => (I7.pin (b, o) (List.mem_append_right _ (List.mem_append_right _ (mem_pinsAt hb e)))).1, fun b hb => ?_, w7⟩
      obtain ⟨o, e, d⟩ := T.obj _ _ st5 b hb
      exact (I7.pin (b, o) (List.mem_append_right _ (List.mem_append_right _ (mem_pinsAt hb e)))).2.1
    cases f with
    | next => obtain ⟨σ7, H7, I7, n7⟩ := q7; exact again I7 n7
    | cont => obtain ⟨σ7, H7, I7, n7⟩ := q7; exact again I7 n7
    | brk => obtain ⟨σ7, H7, I7, q7⟩ := q7; exact ⟨σ7, H7, I7.unpinned, q7⟩
    | ret v => obtain ⟨x7, σ7, H7, I7, r7, q7⟩ := q7; exact ⟨x7, σ7, H7, I7.unpinned, r7, q7⟩
end

theorem for_list {K : PySem.W.Frag} {a : Addr} {xs : List V} {g : TG} {tb : TS} {D : Ends} {σ : St} {H : Hp} (Pv : Nat → St → Hp → Prop) (h0 : Pv 0 σ H) (hl : ∀ i σ H, i ≤ xs.length → Pv i σ H → SqL K H a xs)
    (hs : ∀ i x σ H, xs[i]? = some x → Pv i σ H → g x σ H fun σ2 H2 => tb { D with nx := Pv (i + 1), ct := Pv (i + 1), bk := D.nx } σ2 H2) (hd : ∀ σ H, Pv xs.length σ H → D.nx σ H) :
    ∃ W : Nat → Nat → St → Hp → Prop, (∃ m, W 0 m σ H) ∧ ∀ i m σ H, W i m σ H →
      ((Itl K a).stop i H ∧ D.nx σ H) ∨ ((Itl K a).go i H ∧ ∃ N : St → Hp → Prop, (∀ σ' H', N σ' H' → ∃ m', m' < m ∧ W (i + 1) m' σ' H') ∧ ∀ x H', (Itl K a).yld i H x H' → g x σ H' fun σ2 H2 => tb { D with nx := N, ct := N, bk := D.nx } σ2 H2) := by
  refine ⟨fun i m σ H => m = xs.length - i ∧ i ≤ xs.length ∧ Pv i σ H, ⟨xs.length, by simp, Nat.zero_le _, h0⟩, ?_⟩
  rintro i m σ H ⟨rfl, hi, p⟩
  have q := hl i σ H hi p
  by_cases hlt : i < xs.length
  · refine .inr ⟨⟨xs, xs[i], q, by simp [hlt]⟩, Pv (i + 1), fun σ' H' p' => ⟨xs.length - (i + 1), by (first | lia | omega), rfl, hlt, p'⟩, fun x H' y => ?_⟩
    obtain ⟨e, y⟩ := y
    subst e
    exact hs i x σ _ (y xs q) p
  · have e : i = xs.length := by (first | lia | omega)
    subst e
    exact .inl ⟨⟨xs, q, Nat.le_refl _⟩, hd σ H p⟩
theorem for_tup {K : PySem.W.Frag} {a : Addr} {xs : List V} {g : TG} {tb : TS} {D : Ends} {σ : St} {H : Hp} (Pv : Nat → St → Hp → Prop) (h0 : Pv 0 σ H) (hl : ∀ i σ H, i ≤ xs.length → Pv i σ H → SqT K H a xs)
    (hs : ∀ i x σ H, xs[i]? = some x → Pv i σ H → g x σ H fun σ2 H2 => tb { D with nx := Pv (i + 1), ct := Pv (i + 1), bk := D.nx } σ2 H2) (hd : ∀ σ H, Pv xs.length σ H → D.nx σ H) :
    ∃ W : Nat → Nat → St → Hp → Prop, (∃ m, W 0 m σ H) ∧ ∀ i m σ H, W i m σ H →
      ((Itt K a).stop i H ∧ D.nx σ H) ∨ ((Itt K a).go i H ∧ ∃ N : St → Hp → Prop, (∀ σ' H', N σ' H' → ∃ m', m' < m ∧ W (i + 1) m' σ' H') ∧ ∀ x H', (Itt K a).yld i H x H' → g x σ H' fun σ2 H2 => tb { D with nx := N, ct := N, bk := D.nx } σ2 H2) := by
  refine ⟨fun i m σ H => m = xs.length - i ∧ i ≤ xs.length ∧ Pv i σ H, ⟨xs.length, by simp, Nat.zero_le _, h0⟩, ?_⟩
  rintro i m σ H ⟨rfl, hi, p⟩
  have q := hl i σ H hi p
  by_cases hlt : i < xs.length
  · refine .inr ⟨⟨xs, xs[i], q, by simp [hlt]⟩, Pv (i + 1), fun σ' H' p' => ⟨xs.length - (i + 1), by (first | lia | omega), rfl, hlt, p'⟩, fun x H' y => ?_⟩
    obtain ⟨e, y⟩ := y
    subst e
    exact hs i x σ _ (y xs q) p
  · have e : i = xs.length := by (first | lia | omega)
    subst e
    exact .inl ⟨⟨xs, q, Nat.le_refl _⟩, hd σ H p⟩
theorem for_range {lo : Int} {n : Nat} {g : TG} {tb : TS} {D : Ends} {σ : St} {H : Hp} (Pv : Nat → St → Hp → Prop) (h0 : Pv 0 σ H)
    (hs : ∀ i σ H, i < n → Pv i σ H → g (.int (lo + i)) σ H fun σ2 H2 => tb { D with nx := Pv (i + 1), ct := Pv (i + 1), bk := D.nx } σ2 H2) (hd : ∀ σ H, Pv n σ H → D.nx σ H) :
    ∃ W : Nat → Nat → St → Hp → Prop, (∃ m, W 0 m σ H) ∧ ∀ i m σ H, W i m σ H →
      ((Itr lo n).stop i H ∧ D.nx σ H) ∨ ((Itr lo n).go i H ∧ ∃ N : St → Hp → Prop, (∀ σ' H', N σ' H' → ∃ m', m' < m ∧ W (i + 1) m' σ' H') ∧ ∀ x H', (Itr lo n).yld i H x H' → g x σ H' fun σ2 H2 => tb { D with nx := N, ct := N, bk := D.nx } σ2 H2) := by
  refine ⟨fun i m σ H => m = n - i ∧ i ≤ n ∧ Pv i σ H, ⟨n, by simp, Nat.zero_le _, h0⟩, ?_⟩
  rintro i m σ H ⟨rfl, hi, p⟩
  by_cases hlt : i < n
  · refine .inr ⟨hlt, Pv (i + 1), fun σ' H' p' => ⟨n - (i + 1), by (first | lia | omega), rfl, hlt, p'⟩, fun x H' y => ?_⟩
    obtain ⟨e, y⟩ := y
    subst e y
    exact hs i σ _ hlt p
  · have e : i = n := by (first | lia | omega)
    subst e
    exact .inl ⟨Nat.le_refl _, hd σ H p⟩
theorem while_by {c : TT} {tb : TS} {D : Ends} {σ : St} {H : Hp} (Pv : St → Hp → Prop) (μ : St → Hp → Nat) (h0 : Pv σ H)
    (hs : ∀ σ H, Pv σ H → c σ H fun b H1 => if b = true then tb { D with nx := fun σ' H' => Pv σ' H' ∧ μ σ' H' < μ σ H, ct := fun σ' H' => Pv σ' H' ∧ μ σ' H' < μ σ H, bk := D.nx } σ H1 else D.nx σ H1)
    (mono : ∀ σ H Q Q', (∀ b H1, Q b H1 → Q' b H1) → c σ H Q → c σ H Q') : tWhile c tb D σ H := by
  refine ⟨fun m σ H => m = μ σ H ∧ Pv σ H, ⟨_, rfl, h0⟩, ?_⟩
  rintro m σ H ⟨rfl, p⟩
  refine mono σ H _ _ (fun b H1 q => ?_) (hs σ H p)
  cases b with
  | true => exact ⟨_, fun σ' H' ⟨p', l⟩ => ⟨_, l, rfl, p'⟩, q⟩
  | false => exact q
end L2

namespace L2
open PySem PySem.Spec PyProof.Rows

noncomputable abbrev R2 := V → V → Hp → VK → Prop
noncomputable def OpR (X : Cx) (f : Value → Value → Sem Value) (r : R2) : Prop :=
  ∀ (pins : List (Addr × Obj)) (s : Shared) (σ : St) (H : Hp) (x y : V) (v u : Value) (Q : VK), Inv X pins σ H s → RelV x v → RelV y u → r x y H Q →
    wpAny (model X.prog X.w) X.A (f v u) (EP X pins σ Q) X.xe s
noncomputable def UnR (X : Cx) (f : Value → Sem Value) (r : V → Hp → VK → Prop) : Prop :=
  ∀ (pins : List (Addr × Obj)) (s : Shared) (σ : St) (H : Hp) (x : V) (v : Value) (Q : VK), Inv X pins σ H s → RelV x v → r x H Q →
    wpAny (model X.prog X.w) X.A (f v) (EP X pins σ Q) X.xe s
noncomputable def CallR (X : Cx) (f : Value) (r : List V → Hp → VK → Prop) : Prop :=
  ∀ (pins : List (Addr × Obj)) (s : Shared) (σ : St) (H : Hp) (xs : List V) (us : List Value) (Q : VK), Inv X pins σ H s → Vals xs us → r xs H Q →
    wpAny (model X.prog X.w) X.A (call f us) (EP X pins σ Q) X.xe s
noncomputable def tOp (r : R2) (ta tb : TE) : TE := fun σ H Q => ta σ H fun x H1 => tb σ H1 fun y H2 => r x y H2 Q
noncomputable def tUn (r : V → Hp → VK → Prop) (ta : TE) : TE := fun σ H Q => ta σ H fun x H1 => r x H1 Q
noncomputable def rI (C : Int → Int → Prop) (g : Int → Int → V) : R2 := fun x y H Q => ∃ i j, x = .int i ∧ y = .int j ∧ C i j ∧ Q (g i j) H
noncomputable def rI0 (g : Int → Int → V) : R2 := fun x y H Q => ∃ i j, x = .int i ∧ y = .int j ∧ Q (g i j) H
noncomputable def rU (g : Int → V) : V → Hp → VK → Prop := fun x H Q => ∃ i, x = .int i ∧ Q (g i) H

section
variable {X : Cx} {a b c : Expr} {ta tb tc : TE} {pos : Pos}

theorem binT (ha : PE X a ta) (hb : PE X b tb) {pins : List (Addr × Obj)} {s : Shared} {σ : St} {H : Hp} {R : V → V → Hp → Prop} (I : Inv X pins σ H s)
    (h : ta σ H fun x H1 => tb σ H1 fun y H2 => R x y H2) {Q : Value → Shared → Prop} {f : Value → Value → Sem Value}
    (hf : ∀ v u s2 x y H2, Inv X pins σ H2 s2 → RelV x v → RelV y u → R x y H2 → wpAny (model X.prog X.w) X.A (f v u) Q X.xe s2) :
    wpAny (model X.prog X.w) X.A (eval a X.env) (fun v s₁ => wpAny (model X.prog X.w) X.A (eval b X.env) (fun u s₂ => wpAny (model X.prog X.w) X.A (f v u) Q X.xe s₂) X.xe s₁) X.xe s := by
  refine thn (ha pins s σ H _ I h) fun v s1 ⟨x, H1, I1, r1, q1⟩ => ?_
  refine thn (hb pins s1 σ H1 _ I1 q1) fun u s2 ⟨y, H2, I2, r2, q2⟩ => ?_
  exact hf v u s2 x y H2 I2 r1 r2 q2

theorem pe_op {op : Operator} {r : R2} (ho : OpR X (binaryOp op) r) (ha : PE X a ta) (hb : PE X b tb) : PE X (.BinOp a op b pos) (tOp r ta tb) := by
  intro pins s σ H Q I h
  exact wpAny_BinOp (binT ha hb I h fun v u s2 x y H2 I2 rx ry q => ho pins s2 σ H2 x y v u Q I2 rx ry q)
theorem pe_un {op : UnaryOp} {r : V → Hp → VK → Prop} (ho : UnR X (unaryOp op) r) (ha : PE X a ta) : PE X (.UnaryOp op a pos) (tUn r ta) := by
  intro pins s σ H Q I h
  exact UnaryOp_ (thn (ha pins s σ H _ I h) fun v s1 ⟨x, H1, I1, r1, q1⟩ => ho pins s1 σ H1 x v Q I1 r1 q1)
theorem opI {f : Value → Value → Sem Value} {C : Int → Int → Prop} {g : Int → Int → Int}
    (rule : ∀ (i j : Int) (t u : Tok) (s : Shared) (Q : Value → Shared → Prop) (E : Value → Shared → Prop), C i j → Q (.int (g i j) s.toks) { s with toks := s.toks + 1 } → wpAny (model X.prog X.w) X.A (f (.int i t) (.int j u)) Q E s) :
    OpR X f (rI C fun i j => .int (g i j)) := by
  intro pins s σ H x y v u Q I rx ry h
  obtain ⟨i, j, rfl, rfl, hc, q⟩ := h
  obtain ⟨t, rfl⟩ := rx
  obtain ⟨t', rfl⟩ := ry
  exact rule i j t t' s _ _ hc ⟨.int (g i j), H, I.tok _, ⟨_, rfl⟩, q⟩
theorem opI0 {f : Value → Value → Sem Value} {g : Int → Int → Int}
    (rule : ∀ (i j : Int) (t u : Tok) (s : Shared) (Q : Value → Shared → Prop) (E : Value → Shared → Prop), Q (.int (g i j) s.toks) { s with toks := s.toks + 1 } → wpAny (model X.prog X.w) X.A (f (.int i t) (.int j u)) Q E s) :
    OpR X f (rI0 fun i j => .int (g i j)) := by
  intro pins s σ H x y v u Q I rx ry h
  obtain ⟨i, j, rfl, rfl, q⟩ := h
  obtain ⟨t, rfl⟩ := rx
  obtain ⟨t', rfl⟩ := ry
  exact rule i j t t' s _ _ ⟨.int (g i j), H, I.tok _, ⟨_, rfl⟩, q⟩
theorem opB0 {f : Value → Value → Sem Value} {g : Int → Int → Bool}
    (rule : ∀ (i j : Int) (t u : Tok) (s : Shared) (Q : Value → Shared → Prop) (E : Value → Shared → Prop), Q (.bool (g i j)) s → wpAny (model X.prog X.w) X.A (f (.int i t) (.int j u)) Q E s) :
    OpR X f (rI0 fun i j => .bl (g i j)) := by
  intro pins s σ H x y v u Q I rx ry h
  obtain ⟨i, j, rfl, rfl, q⟩ := h
  obtain ⟨t, rfl⟩ := rx
  obtain ⟨t', rfl⟩ := ry
  exact rule i j t t' s _ _ ⟨.bl (g i j), H, I, rfl, q⟩

noncomputable def CDiv (i j : Int) : Prop := 0 < j ∧ j < 1073741824
noncomputable def CPow (i j : Int) : Prop := 0 ≤ j ∧ j ≤ 1000000 ∧ i.natAbs < 2 ^ 64
noncomputable def CMul (i j : Int) : Prop := (-(2 ^ 64) < i ∧ i < 2 ^ 64) ∨ (-(2 ^ 64) < j ∧ j < 2 ^ 64)
theorem CMul.ok {i j : Int} (h : CMul i j) : IntMulOk i j := by
  rcases h with ⟨h1, h2⟩ | ⟨h1, h2⟩
  · exact .of_left (intBits_le_64 h1 h2)
  · exact .of_right (intBits_le_64 h1 h2)
theorem op_add : OpR X (binaryOp .Add) (rI0 fun i j => .int (i + j)) := opI0 fun _ _ _ _ _ _ _ q => add_int q
theorem op_sub : OpR X (binaryOp .Sub) (rI0 fun i j => .int (i - j)) := opI0 fun _ _ _ _ _ _ _ q => sub_int q
theorem op_mul : OpR X (binaryOp .Mult) (rI CMul fun i j => .int (i * j)) := opI fun _ _ _ _ _ _ _ hc q => mul_int q hc.ok
theorem op_fdiv : OpR X (binaryOp .FloorDiv) (rI CDiv fun i j => .int (i / j)) := opI fun i j _ _ _ _ _ hc q => by
  have h1 : (0 : Int) < j := hc.1
  have h2 : j < 1073741824 := hc.2
  exact floordiv_int (by (first | lia | omega)) (by rw [Int.fdiv_eq_ediv_of_nonneg i (by (first | lia | omega))]; exact q) (.inl (PyProof.noPylong_small (by (first | lia | omega))))
theorem op_mod : OpR X (binaryOp .Mod) (rI (fun _ j => 0 < j) fun i j => .int (i % j)) := opI fun i j _ _ _ _ _ hc q => by
  have h1 : (0 : Int) < j := hc
  exact mod_int' (by (first | lia | omega)) (by rw [Int.fmod_eq_emod_of_nonneg i (by (first | lia | omega))]; exact q)
theorem op_modN : OpR X (binaryOp .Mod) (rI (fun _ j => j ≠ 0) fun i j => .int (i.fmod j)) := opI fun _ _ _ _ _ _ _ hc q => mod_int' hc q
theorem op_pow : OpR X (binaryOp .Pow) (rI CPow fun i j => .int (i ^ j.toNat)) := opI fun _ _ _ _ _ _ _ hc q => pow_int_small hc.1 hc.2.1 hc.2.2 q
theorem op_xor : OpR X (binaryOp .BitXor) (rI0 fun i j => .int (Builtin.bitXor i j)) := opI0 fun _ _ _ _ _ _ _ q => xor_int q

theorem unI {f : Value → Sem Value} {g : Int → Int}
    (rule : ∀ (i : Int) (t : Tok) (s : Shared) (Q : Value → Shared → Prop) (E : Value → Shared → Prop), Q (.int (g i) s.toks) { s with toks := s.toks + 1 } → wpAny (model X.prog X.w) X.A (f (.int i t)) Q E s) :
    UnR X f (rU fun i => .int (g i)) := by
  intro pins s σ H x v Q I rx h
  obtain ⟨i, rfl, q⟩ := h
  obtain ⟨t, rfl⟩ := rx
  exact rule i t s _ _ ⟨.int (g i), H, I.tok _, ⟨_, rfl⟩, q⟩
theorem un_neg : UnR X (unaryOp .USub) (rU fun i => .int (-i)) := unI fun _ _ _ _ _ q => neg_int q
end

noncomputable def scal : V → V → Bool
  | .non, .non => true | .non, .int _ => true | .int _, .non => true | .non, .bl _ => true | .bl _, .non => true | .non, .str _ => true | .str _, .non => true
  | .int _, .int _ => true | .bl _, .bl _ => true | .str _, .str _ => true | .byt _, .byt _ => true
  | .int _, .str _ => true | .str _, .int _ => true | .bl _, .str _ => true | .str _, .bl _ => true
  | _, _ => false
noncomputable def rEq : R2 := fun x y H Q => scal x y = true ∧ Q (.bl (decide (x = y))) H
noncomputable def rNe : R2 := fun x y H Q => scal x y = true ∧ Q (.bl (!decide (x = y))) H

theorem dec_int {i j : Int} : decide (V.int i = V.int j) = (i == j) := by
  rw [Bool.eq_iff_iff]
  simp
theorem dec_bl {i j : Bool} : decide (V.bl i = V.bl j) = (i == j) := by
  rw [Bool.eq_iff_iff]
  simp
theorem dec_str {i j : Str} : decide (V.str i = V.str j) = (i == j) := by
  rw [Bool.eq_iff_iff]
  simp
theorem dec_byt {i j : Array UInt8} : decide (V.byt i = V.byt j) = (i.toList == j.toList) := by
  rw [Bool.eq_iff_iff]
  cases i
  cases j
  simp

section
variable {X : Cx} {a b c : Expr} {ta tb tc : TE} {pos : Pos}
theorem fin_bl {pins : List (Addr × Obj)} {σ : St} {H : Hp} {s : Shared} {Q : VK} {k k' : Bool} (I : Inv X pins σ H s) (q : Q (.bl k) H) (e : k = k') : EP X pins σ Q (.bool k') s := by
  subst e
  exact ⟨.bl k, H, I, rfl, q⟩
theorem op_eq : OpR X (compareOp .Eq) rEq := by
  intro pins s σ H x y v u Q I rx ry h
  obtain ⟨hs, q⟩ := h
  cases x with
  | non =>
    cases rx
    cases y with
    | non => cases ry; exact PySem.EqNone.eq_none_none (fin_bl I q (by simp))
    | bl j => cases ry; exact PySem.EqNone.eq_none_bool (fin_bl I q (by simp))
    | int j => obtain ⟨t', rfl⟩ := ry; exact PySem.EqNone.eq_none_int (fin_bl I q (by simp))
    | str j => obtain ⟨t', rfl⟩ := ry; exact PySem.EqNone.eq_none_str (fin_bl I q (by simp))
    | _ => exact absurd (show false = true from hs) Bool.false_ne_true
  | bl i =>
    cases rx
    cases y with
    | non => cases ry; exact PySem.EqNone.eq_bool_none (fin_bl I q (by simp))
    | bl j => cases ry; exact eq_bool (fin_bl I q dec_bl)
    | str j => obtain ⟨t', rfl⟩ := ry; exact PySem.EqMixed.eq_bool_str (fin_bl I q (by simp))
    | _ => exact absurd (show false = true from hs) Bool.false_ne_true
  | int i =>
    obtain ⟨t, rfl⟩ := rx
    cases y with
    | non => cases ry; exact PySem.EqNone.eq_int_none (fin_bl I q (by simp))
    | int j => obtain ⟨t', rfl⟩ := ry; exact eq_int (fin_bl I q dec_int)
    | str j => obtain ⟨t', rfl⟩ := ry; exact PySem.EqMixed.eq_int_str (fin_bl I q (by simp))
    | _ => exact absurd (show false = true from hs) Bool.false_ne_true
  | str i =>
    obtain ⟨t, rfl⟩ := rx
    cases y with
    | non => cases ry; exact PySem.EqNone.eq_str_none (fin_bl I q (by simp))
    | bl j => cases ry; exact PySem.EqMixed.eq_str_bool (fin_bl I q (by simp))
    | int j => obtain ⟨t', rfl⟩ := ry; exact PySem.EqMixed.eq_str_int (fin_bl I q (by simp))
    | str j => obtain ⟨t', rfl⟩ := ry; exact eq_str (fin_bl I q dec_str)
    | _ => exact absurd (show false = true from hs) Bool.false_ne_true
  | byt i =>
    obtain ⟨t, rfl⟩ := rx
    cases y with
    | byt j => obtain ⟨t', rfl⟩ := ry; exact PySem.W.eq_bytes (fin_bl I q dec_byt)
    | _ => exact absurd (show false = true from hs) Bool.false_ne_true
  | _ => cases y <;> exact absurd (show false = true from hs) Bool.false_ne_true
theorem op_ne : OpR X (compareOp .NotEq) rNe := by
  intro pins s σ H x y v u Q I rx ry h
  obtain ⟨hs, q⟩ := h
  cases x with
  | non =>
    cases rx
    cases y with
    | non => cases ry; exact PySem.EqNone.ne_none_none (fin_bl I q (by simp))
    | bl j => cases ry; exact PySem.EqNone.ne_none_bool (fin_bl I q (by simp))
    | int j => obtain ⟨t', rfl⟩ := ry; exact PySem.EqNone.ne_none_int (fin_bl I q (by simp))
    | str j => obtain ⟨t', rfl⟩ := ry; exact PySem.EqNone.ne_none_str (fin_bl I q (by simp))
    | _ => exact absurd (show false = true from hs) Bool.false_ne_true
  | bl i =>
    cases rx
    cases y with
    | non => cases ry; exact PySem.EqNone.ne_bool_none (fin_bl I q (by simp))
    | bl j => cases ry; exact ne_bool (fin_bl I q (congrArg not dec_bl))
    | str j => obtain ⟨t', rfl⟩ := ry; exact PySem.EqMixed.ne_bool_str (fin_bl I q (by simp))
    | _ => exact absurd (show false = true from hs) Bool.false_ne_true
  | int i =>
    obtain ⟨t, rfl⟩ := rx
    cases y with
    | non => cases ry; exact PySem.EqNone.ne_int_none (fin_bl I q (by simp))
    | int j => obtain ⟨t', rfl⟩ := ry; exact ne_int (fin_bl I q (congrArg not dec_int))
    | str j => obtain ⟨t', rfl⟩ := ry; exact PySem.EqMixed.ne_int_str (fin_bl I q (by simp))
    | _ => exact absurd (show false = true from hs) Bool.false_ne_true
  | str i =>
    obtain ⟨t, rfl⟩ := rx
    cases y with
    | non => cases ry; exact PySem.EqNone.ne_str_none (fin_bl I q (by simp))
    | bl j => cases ry; exact PySem.EqMixed.ne_str_bool (fin_bl I q (by simp))
    | int j => obtain ⟨t', rfl⟩ := ry; exact PySem.EqMixed.ne_str_int (fin_bl I q (by simp))
    | str j => obtain ⟨t', rfl⟩ := ry; exact ne_str (fin_bl I q (congrArg not dec_str))
    | _ => exact absurd (show false = true from hs) Bool.false_ne_true
  | byt i =>
    obtain ⟨t, rfl⟩ := rx
    cases y with
    | byt j => obtain ⟨t', rfl⟩ := ry; exact PySem.W.ne_bytes (fin_bl I q (congrArg not dec_byt))
    | _ => exact absurd (show false = true from hs) Bool.false_ne_true
  | _ => cases y <;> exact absurd (show false = true from hs) Bool.false_ne_true

theorem op_lt : OpR X (compareOp .Lt) (rI0 fun i j => .bl (decide (i < j))) := opB0 fun _ _ _ _ _ _ _ q => lt_int q
theorem op_gt : OpR X (compareOp .Gt) (rI0 fun i j => .bl (decide (j < i))) := opB0 fun _ _ _ _ _ _ _ q => gt_int q
theorem op_ge : OpR X (compareOp .GtE) (rI0 fun i j => .bl (decide (j ≤ i))) := opB0 fun _ _ _ _ _ _ _ q => ge_int q
theorem op_isN : OpR X (compareOp .Is) (fun x y H Q => y = .non ∧ Q (.bl (decide (x = .non))) H) := by
  intro pins s σ H x y v u Q I rx ry h
  obtain ⟨rfl, q⟩ := h
  cases ry
  refine is_none_gen (fin_bl I q ?_)
  cases x <;> first
    | (cases rx; rfl)
    | (obtain ⟨t, rfl⟩ := rx; rfl)
theorem op_notN : OpR X (compareOp .IsNot) (fun x y H Q => y = .non ∧ Q (.bl (!decide (x = .non))) H) := by
  intro pins s σ H x y v u Q I rx ry h
  obtain ⟨rfl, q⟩ := h
  cases ry
  refine isnot_none_gen (fin_bl I q ?_)
  cases x <;> first
    | (cases rx; rfl)
    | (obtain ⟨t, rfl⟩ := rx; rfl)

theorem nomark (b : Expr) {op : CmpOp} (h : op ≠ .In := by decide) (h2 : op ≠ .NotIn := by decide) : behindInMarks op b = false := by
  have e1 : (op == CmpOp.In) = false := by cases op <;> first | rfl | exact absurd rfl h
  have e2 : (op == CmpOp.NotIn) = false := by cases op <;> first | rfl | exact absurd rfl h2
  cases b <;> simp [behindInMarks, e1, e2]
theorem pe_cmpR {op : CmpOp} {r : R2} (ho : OpR X (compareOp op) r) (ha : PE X a ta) (hb : PE X b tb) (hm : behindInMarks op b = false) : PE X (.Compare a [op] [b] pos) (tOp r ta tb) := by
  intro pins s σ H Q I h
  exact wpAny_Compare1 (binT ha hb I h fun v u s2 x y H2 I2 rx ry q => ho pins s2 σ H2 x y v u Q I2 rx ry q) hm
noncomputable def tTest (t : TE) : TT := fun σ H Q => t σ H fun x H' => ∃ k, x = .bl k ∧ Q k H'
theorem pt_cmpR {op : CmpOp} {r : R2} (ho : OpR X (compareOp op) r) (ha : PE X a ta) (hb : PE X b tb) (hm : behindInMarks op b = false) : PT X (.Compare a [op] [b] pos) (tTest (tOp r ta tb)) := by
  intro pins s σ H Q I h
  refine wpAny_isTrue_Compare1 (thn (ha pins s σ H _ I h) fun v s1 ⟨x, H1, I1, r1, q1⟩ => thn (hb pins s1 σ H1 _ I1 q1) fun u s2 ⟨y, H2, I2, r2, q2⟩ =>
    thn (ho pins s2 σ H2 x y v u _ I2 r1 r2 q2) fun c s3 ⟨z, H3, I3, r3, k, e, q3⟩ => ?_) hm
  subst e
  cases r3
  exact wpAny_truthy_bool ⟨H3, I3, q3⟩
theorem line63 : (sizeLine : Nat) < 2 ^ 63 := by rw [sizeLine_eq]; decide
theorem vals1 {x : V} {us : List Value} (r : Vals [x] us) : ∃ u, us = [u] ∧ RelV x u := by
  cases r with
  | cons r1 r2 => cases r2; exact ⟨_, rfl, r1⟩
theorem vals2 {x y : V} {us : List Value} (r : Vals [x, y] us) : ∃ u w', us = [u, w'] ∧ RelV x u ∧ RelV y w' := by
  cases r with
  | cons r1 r2 =>
    cases r2 with
    | cons r3 r4 => cases r4; exact ⟨_, _, rfl, r1, r3⟩
theorem call_abs : CallR X (.builtin "abs") (fun xs H Q => ∃ i, xs = [.int i] ∧ Q (.int (if i < 0 then -i else i)) H) := by
  intro pins s σ H xs us Q I r h
  obtain ⟨i, rfl, q⟩ := h
  obtain ⟨u, rfl, t, rfl⟩ := vals1 r
  exact call_abs_int fun u tk => ⟨.int (if i < 0 then -i else i), H, I.tok _, ⟨_, rfl⟩, q⟩
theorem call_min2 (hc : X.calm = true) : CallR X (.builtin "min") (fun xs H Q => ∃ i j, xs = [.int i, .int j] ∧ Q (.int (if j < i then j else i)) H) := by
  intro pins s σ H xs us Q I r h
  obtain ⟨i, j, rfl, q⟩ := h
  obtain ⟨u, w', rfl, ⟨t, rfl⟩, ⟨t', rfl⟩⟩ := vals2 r
  refine min_two_ints (I.ok.hd hc) fun h' tk k => ⟨_, H, I.kept k, ?_, q⟩
  by_cases hj : j < i
  · rw [if_pos hj, if_pos hj]; exact ⟨_, rfl⟩
  · rw [if_neg hj, if_neg hj]; exact ⟨_, rfl⟩
end
end L2

namespace L2
open PySem PySem.Spec PyProof.Rows

structure ObjM (h : Heap) (x dx C : Addr) (mA : Str → Option Value) : Prop where
  obj : h.get? x = some (PySem.W.instObj C dx)
  ns : h.Ns1 dx mA
  ne : dx ≠ x

theorem lookIn_ns {h : Heap} {dx : Addr} {mA : Str → Option Value} (n : h.Ns1 dx mA) : ∃ od, h.get? dx = some od ∧ ∀ name, PySem.W.lookIn name od = some (mA name) := by
  obtain ⟨o, es, ep, ho, hd, hk, _, hm⟩ := n
  refine ⟨o, ho, fun name => ?_⟩
  have e := hm name
  unfold nsFind findBy at e
  rw [← Array.find?_toList] at e
  unfold PySem.W.lookIn
  rw [hd]
  dsimp only
  split
  · rename_i y q
    rw [q] at e
    exact congrArg some e
  · rename_i q
    rw [q] at e
    have a : es.toList.any (·.refKey) = false := by
      rw [List.any_eq_false]
      intro y hy
      obtain ⟨z, t, hkey⟩ := hk y (Array.mem_toList_iff.mp hy)
      simp [DictEntry.refKey, hkey]
    have a' : ¬ es.toList.any (·.refKey) = true := by rw [a]; exact Bool.false_ne_true
    rw [if_neg a']
    exact congrArg some e

theorem ObjM.look {h : Heap} {x dx C : Addr} {mA : Str → Option Value} (I : ObjM h x dx C mA) : ∃ od, PySem.W.InstAt h x (PySem.W.instObj C dx) C (some od) ∧ ∀ name, PySem.W.lookIn name od = some (mA name) :=
  let ⟨od, ho, hl⟩ := lookIn_ns I.ns
  ⟨od, ⟨I.obj, rfl, rfl, ho⟩, hl⟩

section
variable {prog : Program} {w : World} {A : Around} {E : Value → Shared → Prop} {s : Shared} {K : PySem.W.Frag} {x dx C f : Addr} {mA : Str → Option Value} {name : Str} {v : Value}

end

section
variable {P : Program} {w : World} {H H' : Hp} {h h' : Heap} {a C dx : Addr} {fs fs' : List (Str × V)}
theorem ins_get (hok : HOk P w H h) (e : H a = some (.ins C dx fs)) : ∃ mA, ObjM h a dx C mA ∧ (∀ f, RelO (fs.lookup f) (mA f)) ∧ PySem.Within mA (fs.map (·.1)) ∧ fs.length ≤ 1000 ∧ H dx = some (.own a) := by
  obtain ⟨d, z, ne, ob, mA, n, r, q⟩ := (show ObjOk P w H h a (.ins C dx fs) from hok a _ e)
  exact ⟨mA, ⟨ob, n, ne⟩, r, q, z, d⟩
end

structure Cls (K : PySem.W.Frag) (C : Addr) : Prop where
  pg : PySem.W.plainGet K C Str.empty = true
  hd : PySem.W.hasDictIn K C = true
  po : PySem.W.plainOver K C = true
  sa : PySem.W.findIn K (.ref C) "__setattr__" = some (some (.builtin "object.__setattr__"))
theorem Cls.get {K : PySem.W.Frag} {C : Addr} (c : Cls K C) (f : Str) : PySem.W.plainGet K C f = true := c.pg
section
variable {X : Cx} {pins : List (Addr × Obj)} {σ : St} {H : Hp} {s : Shared} {a C dx : Addr} {fs : List (Str × V)} {f : Str} {v : V} {A : Around} {E : Value → Shared → Prop}

end

section
variable {X : Cx} {o e value : Expr} {f : Str} {pos pos' tpos : Pos} {ta tv : TE}
end

section
variable {X : Cx} {pins : List (Addr × Obj)} {σ : St} {H : Hp} {s : Shared} {A : Around} {E : Value → Shared → Prop} {Q : Value → Shared → Prop} {c : Value} {b : Bool}
inductive TyOf (K : PySem.W.Frag) (H : Hp) : V → Value → Prop where
  | non : TyOf K H .non (.type "NoneType")
  | bl (x : Bool) : TyOf K H (.bl x) (.type "bool")
  | int (i : Int) : TyOf K H (.int i) (.type "int")
  | str (x : Str) : TyOf K H (.str x) (.type "str")
  | flt (x : UInt64) : TyOf K H (.flt x) (.type "float")
  | lst {a : Addr} {xs : List V} (e : H a = some (.lst xs)) : TyOf K H (.ref a) (.type "list")
  | frz {a : Addr} {o : Obj} {xs : List V} (e : H a = some (.frz o (.lst xs))) : TyOf K H (.ref a) (.type "list")
  | tup {a : Addr} {xs : List V} (e : H a = some (.tup xs)) : TyOf K H (.ref a) (.type "tuple")
  | dK {a : Addr} {kvs : List (Key × V)} (e : H a = some (.dK kvs)) : TyOf K H (.ref a) (.type "dict")
  | dT {a : Addr} {kvs : List (List Key × V)} (e : H a = some (.dT kvs)) : TyOf K H (.ref a) (.type "dict")
  | ins {a C dx : Addr} {fs : List (Str × V)} (e : H a = some (.ins C dx fs)) (cl : Cls K C) (ha : PySem.W.findIn K (.ref C) "__class__" = some (some (.builtin "object.__class__")))
      (hn : PySem.W.specialIn K (.builtin "object.__class__") "__get__" = some (some (.builtin "getset_descriptor.__get__"))) (htk : PySem.W.takesIn K (.builtin "object.__class__") = some true)
      (hm : PySem.W.mroIn K C (.type "object") = some true) : TyOf K H (.ref a) (.ref C)
theorem isinst_ok {x : V} {u t : Value} (I : Inv X pins σ H s) (rx : RelV x u) (ty : TyOf X.K H x t) (e : PySem.W.kitOne X.K t c = some b) (h : ∀ tk, Q (.bool b) { s with toks := tk }) :
    wpAny (model X.prog X.w) A (call (.builtin "isinstance") [u, c]) Q E s := by
  cases ty with
  | non => cases (show u = Value.none from rx); exact PySem.W.kia_one PySem.W.kitx_none I.kIn True.intro e (fun z => nomatch z) h
  | bl y => cases (show u = Value.bool y from rx); exact PySem.W.kia_one PySem.W.kitx_bool I.kIn True.intro e (fun z => nomatch z) h
  | int i => obtain ⟨t, q⟩ := (show ∃ t, u = Value.int i t from rx); cases q; exact PySem.W.kia_one PySem.W.kitx_int I.kIn True.intro e (fun z => nomatch z) h
  | str y => obtain ⟨t, q⟩ := (show ∃ t, u = Value.str y t from rx); cases q; exact PySem.W.kia_one PySem.W.kitx_str I.kIn True.intro e (fun z => nomatch z) h
  | flt y => obtain ⟨t, q⟩ := (show ∃ t, u = Value.float y t from rx); cases q; exact PySem.W.kia_one PySem.W.kitx_float I.kIn True.intro e (fun z => nomatch z) h
  | @lst a xs ea =>
    cases (show u = Value.ref a from rx)
    obtain ⟨_, _, n, _, h1⟩ := (show ObjOk X.prog X.w H s.heap a (.lst xs) from I.hok a _ ea)
    exact PySem.W.kia_one PySem.W.kitx_list I.kIn ⟨_, h1, rfl⟩ e (fun z => nomatch z) h
  | @frz a ob xs ea =>
    cases (show u = Value.ref a from rx)
    obtain ⟨_, _, _, n, _, h1⟩ := (show ObjOk X.prog X.w H s.heap a (.frz ob (.lst xs)) from I.hok a _ ea)
    exact PySem.W.kia_one PySem.W.kitx_list I.kIn ⟨_, h1, rfl⟩ e (fun z => nomatch z) h
  | @tup a xs ea =>
    cases (show u = Value.ref a from rx)
    obtain ⟨_, _, _, p, _⟩ := (show ObjOk X.prog X.w H s.heap a (.tup xs) from I.hok a _ ea)
    obtain ⟨o, h1, h2, _⟩ := p
    exact PySem.W.kia_one PySem.W.kitx_tuple I.kIn ⟨o, h1, h2⟩ e (fun z => nomatch z) h
  | @dK a kvs ea =>
    cases (show u = Value.ref a from rx)
    obtain ⟨_, _, vs, _, p⟩ := (show ObjOk X.prog X.w H s.heap a (.dK kvs) from I.hok a _ ea)
    obtain ⟨o, es, ep, h1, h2, _⟩ := p
    exact PySem.W.kia_one PySem.W.kitx_dict I.kIn ⟨o, h1, h2.1⟩ e (fun z => nomatch z) h
  | @dT a kvs ea =>
    cases (show u = Value.ref a from rx)
    obtain ⟨_, _, xs, _, o, es, ep, h1, h2, _⟩ := (show ObjOk X.prog X.w H s.heap a (.dT kvs) from I.hok a _ ea)
    exact PySem.W.kia_one PySem.W.kitx_dict I.kIn ⟨o, h1, h2.1⟩ e (fun z => nomatch z) h
  | @ins a C dx fs ea cl ha hn htk hm =>
    cases (show u = Value.ref a from rx)
    obtain ⟨mA, O, _⟩ := ins_get I.hok ea
    obtain ⟨od, J, _⟩ := O.look
    exact PySem.W.kia_one (PySem.W.kitx_own (cl.get _) cl.hd ha hn htk hm) I.kIn J e (fun z => nomatch z) h
end
end L2

namespace L2
open PySem PySem.Spec PyProof.Rows

structure Room (k : Nat) (A : Around) : Prop where
  hd : A.handled = none
  dp : A.depth + 3 * k + 5 < recursionLimit
  un : A.units + 16 * k + 200 < cLine
theorem Room.mono {j k : Nat} {A : Around} (r : Room k A) (h : j ≤ k) : Room j A := ⟨r.hd, by have := r.dp; (first | lia | omega), by have := r.un; (first | lia | omega)⟩
theorem Room.deeper {k : Nat} {A : Around} (r : Room (k + 1) A) (env : Env) : Room k (A.deeper env) :=
  ⟨r.hd, by have := r.dp; show A.depth + 1 + 3 * k + 5 < _; (first | lia | omega), by have := r.un; show A.units + 3 + 16 * k + 200 < _; (first | lia | omega)⟩
theorem Room.depth {k : Nat} {A : Around} (r : Room k A) : A.depth < recursionLimit := by have := r.dp; (first | lia | omega)
theorem Room.units {k : Nat} {A : Around} (r : Room k A) : A.units + 64 < cLine := by have := r.un; (first | lia | omega)
noncomputable def tNil : TA := fun _ H Q => Q [] H
noncomputable def tCons (ta : TE) (tr : TA) : TA := fun σ H Q => ta σ H fun x H1 => tr σ H1 fun xs H2 => Q (x :: xs) H2
section
variable {X : Cx} {e : Expr} {es : List Expr} {te : TE} {t : TA} {pos : Pos}
theorem pa_nil : PA X [] tNil := fun _ _ _ _ H Q I h => Calls.spliced_nil ⟨[], H, I, .nil, h⟩
theorem pa_cons (ha : PE X e te) (hr : PA X es t) (hs : starEach (e :: es) X.env = (false, eval e X.env) :: starEach es X.env := by rfl) : PA X (e :: es) (tCons te t) := by
  intro pos pins s σ H Q I h
  rw [hs]
  show wpAny _ _ (spliced ((false, eval e X.env) :: backTo pos (starEach es X.env))) _ _ s
  refine Calls.spliced_cons (thn (ha pins s σ H _ I h) fun u s1 ⟨x, H1, I1, r1, q1⟩ => ?_)
  exact thn (hr pos pins s1 σ H1 _ I1 q1) fun us s2 ⟨xs, H2, I2, r2, q2⟩ => ⟨x :: xs, H2, I2, .cons r1 r2, q2⟩

noncomputable def tTup (t : TA) : TE := fun σ H Q => t σ H fun xs H1 => xs.length ≤ sizeLine ∧ ∀ p, H1 p = none → Q (.ref p) (upd H1 p (.tup xs))
noncomputable def tLst (t : TA) : TE := fun σ H Q => t σ H fun xs H1 => xs.length ≤ sizeLine ∧ ∀ p, H1 p = none → Q (.ref p) (upd H1 p (.lst xs))
theorem pe_tup {x1} (h : PA X es t) : PE X (.Tuple es x1 pos) (tTup t) := by
  intro pins s σ H Q I hq
  refine wpAny_Tuple_spliced (thn (h pos pins s σ H _ I hq) fun us s1 ⟨xs, H1, I1, r, z, q⟩ => ⟨by rw [← r.length]; exact z, ?_⟩)
  have hf : H1 s1.heap.objs.size = none := I1.hok.fresh (Nat.le_refl _)
  refine ⟨.ref s1.heap.objs.size, upd H1 s1.heap.objs.size (.tup xs), I1.laid (t' := s1.toks) (fun b u e => Heap.get?_push_of_some _ e) (Nat.le_refl _) ?_, rfl, q _ hf⟩
  exact ⟨z, us, r, ⟨_, Heap.get?_push_size _ rfl, rfl, _, rfl⟩, _, Heap.get?_push_size _ rfl, rfl⟩
theorem pe_lst (h : PA X es t) : PE X (.List es pos) (tLst t) := by
  intro pins s σ H Q I hq
  refine wpAny_List_spliced (thn (h pos pins s σ H _ I hq) fun us s1 ⟨xs, H1, I1, r, z, q⟩ => ⟨by rw [← r.length]; exact z, ?_⟩)
  have hf : H1 s1.heap.objs.size = none := I1.hok.fresh (Nat.le_refl _)
  refine ⟨.ref s1.heap.objs.size, upd H1 s1.heap.objs.size (.lst xs), I1.laid (t' := s1.toks) (fun b u e => Heap.get?_push_of_some _ e) (Nat.le_refl _) ?_, rfl, q _ hf⟩
  exact ⟨z, us, 0, r, Heap.get?_push_size _ rfl⟩
end

noncomputable abbrev Sp := List V → Hp → VK → XK → Prop
noncomputable abbrev CXT := List Env → Hp → Shared → XK → Value → Shared → Prop

structure Env0 (P : Program) (w : World) (K : PySem.W.Frag) (mg : Str → Option Value) (base : Heap) (A : Around) (outer : List Env) (s : Shared) (H : Hp) : Prop where
  frames : A.frames = some outer
  mod : Mod K mg base
  bs : ∀ b o, base.get? b = some o → s.heap.get? b = some o ∧ H b = none
  bsz : base.objs.size ≤ s.heap.objs.size
  funs : s.heap.FunFrames base outer
  frf : ∀ b ∈ frs outer, H b = none
  hok : HOk P w H s.heap
  bare : AllBare s.gens
noncomputable def CE (outer : List Env) (P : Program) (w : World) (H : Hp) (s : Shared) (Q : VK) (u : Value) (s' : Shared) : Prop :=
  ∃ v H', s'.os = s.os ∧ AllBare s'.gens ∧ Un (frs outer) [] H H' s.heap s'.heap ∧ HOk P w H' s'.heap ∧ RelV v u ∧ Q v H'
noncomputable def CR (CX : CXT) (outer : List Env) (P : Program) (w : World) (H : Hp) (s : Shared) (Q : VK) (E : XK) (r : Result) (s' : Shared) : Prop :=
  match r with
  | .ok (.ret u) => CE outer P w H s Q u s'
  | .ok _ => False
  | .error e => CX outer H s E e s'
structure FnOk (P : Program) (w : World) (K : PySem.W.Frag) (mg : Str → Option Value) (base : Heap) (CX : CXT) (k : Nat) (f : Addr) (fd : FuncData) (ps : List Str) (sp : Sp) : Prop where
  len : ∀ vs H Q E, sp vs H Q E → vs.length = ps.length
  run : ∀ (A : Around) (outer : List Env) (s : Shared) (H : Hp) (args : Args) (us : List Value) (vs : List V) (Q : VK) (E : XK), Room k A → Env0 P w K mg base A outer s H → BindsTo s fd args (ps.zip us) → Vals vs us → sp vs H Q E →
    codeAny (model P w) A (.call (.ref f) args) (CR CX outer P w H s Q E) s
section
variable {X : Cx} {pins : List (Addr × Obj)} {σ : St} {H : Hp} {s s' : Shared}
theorem Inv.env0 (I : Inv X pins σ H s) : Env0 X.prog X.w X.K X.mg X.base X.A X.stack s H :=
  ⟨I.ok.frames, I.ok.mod, I.bs, Nat.le_trans I.ok.bsz I.sz, I.stack, I.stkFree, I.hok, I.bare⟩
theorem Inv.after {Q : VK} {u : Value} (I : Inv X pins σ H s) (h : CE X.stack X.prog X.w H s Q u s') : EP X pins σ Q u s' := by
  obtain ⟨v, H', os, bare, un, hok, r, q⟩ := h
  obtain ⟨hh, g, d, t, os'⟩ := s'
  obtain rfl : os' = s.os := os
  exact ⟨v, H', I.call (h' := hh) (g' := g) (d' := d) (t' := t) (ch := []) un hok bare (fun b z => absurd z (by simp)), r, q⟩
end

noncomputable def tCall (sp : Sp) (dvs : List V) (E : XK) (t : TA) : TE := fun σ H Q => t σ H fun vs H1 => sp (vs ++ dvs) H1 Q E
noncomputable def Binds (K : PySem.W.Frag) (fd : FuncData) (ps : List Str) (ds : List Value) : Prop :=
  ∀ (s : Shared) (us : List Value), K.In s.heap → (us ++ ds).length = ps.length → BindsTo s fd ⟨us, []⟩ (ps.zip (us ++ ds))
theorem Binds.all {K : PySem.W.Frag} {fd : FuncData} {ps : List Str} (h : ∀ us : List Value, us.length = ps.length → bindArgs fd ⟨us, []⟩ = pure (ps.zip us)) : Binds K fd ps [] := fun s us _ hl => by
  rw [List.append_nil] at hl ⊢
  exact .of_eq (h us hl)

noncomputable def Passes (CX : CXT) (X : Cx) (E : XK) : Prop := ∀ (pins : List (Addr × Obj)) (σ : St) (H : Hp) (s : Shared) (e : Value) (s' : Shared), Inv X pins σ H s → CX X.stack H s E e s' → X.xe e s'

section
variable {X : Cx} {CX : CXT} {k : Nat} {f C : Addr} {fd : FuncData} {ps : List Str} {sp : Sp} {dvs : List V} {ds : List Value} {E : XK} {x m : Str} {p pos apos : Pos} {e o : Expr} {es : List Expr} {ta : TE} {t : TA}

theorem run_fn {pins : List (Addr × Obj)} {σ : St} {H : Hp} {s : Shared} {Q : VK} {us : List Value} {vs : List V} (F : FnOk X.prog X.w X.K X.mg X.base CX k f fd ps sp) (hr : Room k X.A) (hb : Binds X.K fd ps ds) (hd : Vals dvs ds) (hx : Passes CX X E)
    (I : Inv X pins σ H s) (r : Vals vs us) (h : sp (vs ++ dvs) H Q E) : wpAny (model X.prog X.w) X.A (call (.ref f) us) (EP X pins σ Q) X.xe s := by
  have r2 : Vals (vs ++ dvs) (us ++ ds) := r.append hd
  have hl : (us ++ ds).length = ps.length := by rw [← r2.length]; exact F.len _ _ _ _ h
  refine wpAny_call (codeAny_mono (F.run X.A X.stack s H ⟨us, []⟩ (us ++ ds) (vs ++ dvs) Q E hr I.env0 (hb s us I.kIn hl) r2 h) fun r s' hq => ?_)
  cases r with
  | error e => exact hx pins σ H s e s' I hq
  | ok fl =>
    cases fl with
    | ret u => exact I.after hq
    | next => exact False.elim hq
    | brk => exact False.elim hq
    | cont => exact False.elim hq

theorem pe_call (F : FnOk X.prog X.w X.K X.mg X.base CX k f fd ps sp) (hr : Room k X.A) (hg : Gl X x) (hm : X.mg x = some (.ref f)) (hk : PySem.W.keepIn X.K (.ref f) = true) (hb : Binds X.K fd ps ds) (hd : Vals dvs ds) (hx : Passes CX X E)
    (ha : PA X (e :: es) t) (hdb : (x == ("__debug__" : Str)) = false := by decide) (he : starEach (e :: es) X.env = (false, eval e X.env) :: starEach es X.env := by rfl) (hpl : (backTo pos (starEach es X.env)).any (·.1) = false := by rfl) :
    PE X (.Call (.Name x p) (e :: es) [] pos) (tCall sp dvs E t) := by
  intro pins s σ H Q I h
  refine wpAny_Call_Name_kw (ld_glob I hg hm ?_ hdb)
  refine PySem.W.callWith_K (h₀ := X.base) I.ok.mod.kin hk (thn (ha pos pins s σ H _ I h) fun us s1 ⟨vs, H1, I1, r, q⟩ => ⟨I1.kIn, ?_⟩) he hpl
  exact run_fn F hr hb hd hx I1 r q
end

section
variable {X : Cx} {CX : CXT} {k : Nat} {f C : Addr} {fd : FuncData} {ps ks : List Str} {sp : Sp} {E : XK} {x m : Str} {p pos apos kpos : Pos} {e o : Expr} {es : List Expr} {kws : List Keyword} {te ta : TE} {t tk : TA} {nm : Option Str}
variable {g : List Value → List Value → List Value} {gV : List V → List V → List V}
end

structure FnScope (N P : List Str) (sc : Scope) : Prop where
  kind : sc.kind = .function
  co : sc.isCoroutine = false
  gen : sc.isGenerator = false
  nd : N.Nodup
  pre : N.take P.length = P
  par : ∀ x ∈ P, sc.names.lookup x = some .local ∨ sc.names.lookup x = some .cell
  nofree : ∀ y ∈ sc.names, y.2 ≠ .free

theorem bindL_out {kindOf : Str → Option NameKind} {x : Str} : ∀ {binds : List (Str × Value)} {m : Str → Option Value}, (∀ v, (x, v) ∉ binds) → bindL kindOf binds m x = m x
  | [], _, _ => rfl
  | (n, v) :: r, m, h => by
    unfold bindL
    rw [bindL_out fun w hw => h w (List.mem_cons_of_mem _ hw)]
    split
    · have : x ≠ n := by rintro rfl; exact h v List.mem_cons_self
      simp [this]
    · rfl
theorem bindC_out {kindOf : Str → Option NameKind} {x : Str} : ∀ {binds : List (Str × Value)} {m : Str → Option Value}, (∀ v, (x, v) ∉ binds) → bindC kindOf binds m x = m x
  | [], _, _ => rfl
  | (n, v) :: r, m, h => by
    unfold bindC
    rw [bindC_out fun w hw => h w (List.mem_cons_of_mem _ hw)]
    split
    · rfl
    · have : x ≠ n := by rintro rfl; exact h v List.mem_cons_self
      simp [this]
theorem bindL_get {kindOf : Str → Option NameKind} {x : Str} {v : Value} : ∀ {P : List Str} {vs : List Value} {i : Nat} {m : Str → Option Value}, P.Nodup → P[i]? = some x → vs[i]? = some v → kindOf x = some .local →
    bindL kindOf (P.zip vs) m x = some v
  | [], _, _, _, _, h, _, _ => by simp at h
  | _ :: _, [], _, _, _, _, h, _ => by simp at h
  | p :: P, w :: vs, 0, m, nd, h1, h2, hk => by
    simp at h1 h2; subst h1; subst h2
    show bindL kindOf ((p, w) :: P.zip vs) m p = _
    unfold bindL
    rw [bindL_out fun v hv => (List.nodup_cons.mp nd).1 (List.of_mem_zip hv).1, if_pos hk]
    simp
  | p :: P, w :: vs, i + 1, m, nd, h1, h2, hk => by
    show bindL kindOf ((p, w) :: P.zip vs) m x = _
    unfold bindL
    exact bindL_get (i := i) (List.nodup_cons.mp nd).2 (by simpa using h1) (by simpa using h2) hk
theorem bindC_get {kindOf : Str → Option NameKind} {x : Str} {v : Value} : ∀ {P : List Str} {vs : List Value} {i : Nat} {m : Str → Option Value}, P.Nodup → P[i]? = some x → vs[i]? = some v → kindOf x ≠ some .local →
    bindC kindOf (P.zip vs) m x = some v
  | [], _, _, _, _, h, _, _ => by simp at h
  | _ :: _, [], _, _, _, _, h, _ => by simp at h
  | p :: P, w :: vs, 0, m, nd, h1, h2, hk => by
    simp at h1 h2; subst h1; subst h2
    show bindC kindOf ((p, w) :: P.zip vs) m p = _
    unfold bindC
    rw [bindC_out fun v hv => (List.nodup_cons.mp nd).1 (List.of_mem_zip hv).1, if_neg hk]
    simp
  | p :: P, w :: vs, i + 1, m, nd, h1, h2, hk => by
    show bindC kindOf ((p, w) :: P.zip vs) m x = _
    unfold bindC
    exact bindC_get (i := i) (List.nodup_cons.mp nd).2 (by simpa using h1) (by simpa using h2) hk

noncomputable def start (N : List Str) (vs : List V) : St := vs.map some ++ List.replicate (N.length - vs.length) none

noncomputable def cxOf (CX : CXT) (P : Program) (w : World) (K : PySem.W.Frag) (mg : Str → Option Value) (base : Heap) (N : List Str) (qual : Str) (scope : Scope) (f : Addr) (cd : Value) (A : Around) (outer : List Env) (s : Shared) (H : Hp) (E : XK) : Cx where
  prog := P
  w := w
  K := K
  mg := mg
  base := base
  A := A.deeper (envOfC qual scope s.heap.objs.size f cd)
  N := N
  s₀ := s
  H₀ := H
  env := envOfC qual scope s.heap.objs.size f cd
  outer := outer
  stack := envOfC qual scope s.heap.objs.size f cd :: outer
  ex := []
  calm := true
  fn := fun _ => true
  pn := []
  xe := fun e s' => wpAny (model P w) (A.deeper (envOfC qual scope s.heap.objs.size f cd)) (leaving (envOfC qual scope s.heap.objs.size f cd) e) (fun _ s'' => CX outer H s E e s'') (fun e' s'' => CX outer H s E e' s'') s'

theorem cell_has {sc : Scope} {n : Nat} {x : Str} (h : sc.names.lookup x = some .cell) : ∃ c, (cellsFrom n sc.names []).lookup x = some c := by
  have q := PySem.W.cellsFrom_some sc.names n [] (.inl h)
  exact Option.isSome_iff_exists.mp q

theorem inv_start {CX : CXT} {P : Program} {w : World} {K : PySem.W.Frag} {mg : Str → Option Value} {base : Heap} {N ps : List Str} {qual : Str} {scope : Scope} {f : Addr} {cd : Value} {A : Around} {outer : List Env} {s s1 : Shared} {H : Hp} {E : XK} {us : List Value} {vs : List V}
    (S : FnScope N ps scope) (hd : A.handled = none) (e0 : Env0 P w K mg base A outer s H) (hl : vs.length = ps.length) (r : Vals vs us)
    (x : InCallC s s.heap.objs.size (bindL (envOfC qual scope s.heap.objs.size f cd).kindOf (ps.zip us) fun _ => none) (cellsFrom (s.heap.objs.size + 1) scope.names []) (bindC (envOfC qual scope s.heap.objs.size f cd).kindOf (ps.zip us) fun _ => none) s1) :
    Inv (cxOf CX P w K mg base N qual scope f cd A outer s H E) [] (start N vs) H s1 := by
  have hpl : ps.length ≤ N.length := by have := congrArg List.length S.pre; rw [List.length_take] at this; (first | lia | omega)
  obtain ⟨h1, tk, rfl, hk⟩ := x.done
  have noA : ∀ b : Addr, b ∉ (cxOf CX P w K mg base N qual scope f cd A outer s H E).ex := fun b z => absurd (show b ∈ ([] : List Addr) from z) (by simp)
  refine ⟨⟨e0.mod, S.kind, rfl, rfl, Nat.le_refl _, fun y z c h1 h2 => ?_, fun y hy => ?_, fun y c _ h => ?_, fun _ => hd, Around.frames_deeper e0.frames, .inr ⟨rfl, rfl⟩, fun b z => absurd z (noA b), e0.bs, e0.bsz, fun b _ _ => noA b, fun b z => absurd z (noA b), e0.funs, e0.frf⟩,
    rfl, e0.bare, Un.kept hk, ⟨_, x.toInCall.ns, fun i y v h1 h2 h3 => ?_⟩, fun y c h => ⟨_, x.cell y c h⟩, e0.hok.fresh (Nat.le_refl _), fun y c h => ?_, fun p hp => absurd (show p ∈ ([] : List (Addr × Obj)) from hp) (by simp), e0.hok.kept hk, ?_⟩
  · exact name_of_addr x.apart (PySem.mem_of_lookup h1) (PySem.mem_of_lookup h2)
  · have hy : scope.names.lookup y = some .cell ∨ scope.names.lookup y = some .free := hy
    rcases hy with hy | hy
    · exact cell_has hy
    · exact absurd rfl (S.nofree _ (PySem.mem_of_lookup hy))
  · exact Nat.le_of_lt (x.above y c (PySem.mem_of_lookup h))
  · have hi : i < vs.length := by
      unfold start at h2
      by_cases hi : i < vs.length
      · exact hi
      · rw [List.getElem?_append_right (by simpa using hi)] at h2
        rw [List.getElem?_replicate] at h2
        split at h2 <;> cases h2
    have ha : vs[i]? = some v := by
      unfold start at h2
      rw [List.getElem?_append_left (by simpa using hi), List.getElem?_map] at h2
      cases e : vs[i]? with
      | none => rw [e] at h2; cases h2
      | some a => rw [e] at h2; cases h2; rfl
    obtain ⟨u, hu, rv⟩ := r.get ha
    have hp : ps[i]? = some y := by
      rw [← S.pre, List.getElem?_take_of_lt (by (first | lia | omega))]; exact h1
    have ndP : ps.Nodup := by rw [← S.pre]; exact S.nd.sublist (List.take_sublist _ _)
    refine ⟨u, rv, ?_⟩
    rcases S.par y (List.mem_of_getElem? hp) with k | k
    · exact .inl ⟨k, bindL_get ndP hp hu k⟩
    · obtain ⟨c, e⟩ := cell_has (n := s.heap.objs.size + 1) k
      refine .inr ⟨.inl k, c, e, ?_⟩
      have q := x.cell y c e
      rw [bindC_get ndP hp hu (by show scope.names.lookup y ≠ _; rw [k]; decide)] at q
      exact q
  · exact e0.hok.fresh (Nat.le_of_lt (x.above y c (PySem.mem_of_lookup h)))
  · unfold start
    show _ = N.length
    rw [List.length_append, List.length_map, List.length_replicate]
    (first | lia | omega)

theorem fn_of {CX : CXT} {P : Program} {w : World} {K : PySem.W.Frag} {mg : Str → Option Value} {base : Heap} {k : Nat} {f : Addr} {name qual : Str} {params : Arguments} {body : List Stmt} {scope : Scope} {dV kV doc pm cdv ct oc : Value} {an od : Option Addr}
    {osl : Array (Option Value)} {N ps : List Str} {sp : Sp} (lk : K.lookup f = some ⟨oc, od, .func (PySem.W.fnOf name qual params body scope dV kV doc pm an cdv ct), osl⟩) (hcd : PySem.W.codeIn K cdv qual = true) (S : FnScope N ps scope)
    (len : ∀ vs H Q E, sp vs H Q E → vs.length = ps.length)
    (hbody : ∀ (A : Around) (outer : List Env) (s : Shared) (H : Hp) (vs : List V) (Q : VK) (E : XK), Room k (A.deeper (envOfC qual scope s.heap.objs.size f cdv)) → sp vs H Q E →
      ∃ t, PSs (cxOf CX P w K mg base N qual scope f cdv A outer s H E) body t ∧ t { nx := fun _ H' => Q .non H', rt := Q } (start N vs) H) :
    FnOk P w K mg base CX (k + 1) f (PySem.W.fnOf name qual params body scope dV kV doc pm an cdv ct) ps sp := by
  refine ⟨len, fun A outer s H args us vs Q E hr e0 hb r hsp => ?_⟩
  have hl := len _ _ _ _ hsp
  have KX : K.In s.heap := e0.mod.kin.keeps fun b o e => (e0.bs b o e).1
  have lim : s.heap.NoLimit := e0.mod.nolimit.keeps fun b o e => (e0.bs b o e).1
  have hkind : ∀ y ∈ ps.zip us, scope.names.lookup y.1 = some .local ∨ (scope.names.lookup y.1 = some .cell ∧ ((cellsFrom (s.heap.objs.size + 1) scope.names []).lookup y.1).isSome = true) := fun ⟨n, v⟩ hy => by
    rcases S.par n (List.of_mem_zip hy).1 with q | q
    · exact .inl q
    · exact .inr ⟨q, PySem.W.cellsFrom_some _ _ _ (.inl q)⟩
  refine codeAny_call_function hr.depth (KX _ _ lk) rfl S.co S.gen rfl (PySem.W.codeRec_of KX hcd) (hb _ _ _ _ ?_)
  refine wpAny_newFunctionEnv_cells S.kind hkind fun env he s1 x => ?_
  subst he
  refine ⟨lim.keeps x.toInCall.keep, codeAny_func ?_⟩
  obtain ⟨t, ht, hq⟩ := hbody A outer s H vs Q E (hr.deeper _) hsp
  have I : Inv (cxOf CX P w K mg base N qual scope f cdv A outer s H E) [] (start N vs) H s1 := inv_start S hr.hd e0 hl r x
  refine wpAny_mono (ht [] s1 (start N vs) H _ I hq) (fun fl s' hs => ?_) fun e s' hs => hs
  have fin : ∀ {σ' : St} {H' : Hp} {v : V} {u : Value}, Inv (cxOf CX P w K mg base N qual scope f cdv A outer s H E) [] σ' H' s' → RelV v u → Q v H' → CE outer P w H s Q u s' :=
    fun {σ' H' v u} J rv q => ⟨v, H', J.os, J.bare, J.base, J.hok, rv, q⟩
  cases fl with
  | ret u =>
    obtain ⟨v, σ', H', J, rv, q⟩ := hs
    exact fin J rv q
  | next =>
    obtain ⟨σ', H', J, q⟩ := hs
    exact fin (v := V.non) (u := Value.none) J rfl q
  | brk =>
    obtain ⟨_, _, _, q⟩ := hs
    exact False.elim q
  | cont =>
    obtain ⟨_, _, _, q⟩ := hs
    exact False.elim q
end L2

namespace L2
open PySem PySem.Spec PyProof.Rows
section
variable {X : Cx} {x : Str} {p pos : Pos} {e : Expr} {es : List Expr} {t : TA} {id T : String} {r : List V → Hp → VK → Prop}

noncomputable def tCB (r : List V → Hp → VK → Prop) (t : TA) : TE := fun σ H Q => t σ H fun vs H1 => r vs H1 Q
theorem pe_callB (hc : CallR X (.builtin id) r) (hg : Gl X x) (hm : X.mg x = none) (hv : bootBuiltins x = some (.builtin id)) (ha : PA X (e :: es) t) (hn : x ≠ "__name__" := by decide) (hdb : (x == ("__debug__" : Str)) = false := by decide)
    (he : starEach (e :: es) X.env = (false, eval e X.env) :: starEach es X.env := by rfl) (hpl : (backTo pos (starEach es X.env)).any (·.1) = false := by rfl) : PE X (.Call (.Name x p) (e :: es) [] pos) (tCB r t) := by
  intro pins s σ H Q I h
  refine wpAny_Call_Name_kw (ld_blt I hg hm hv ?_ hn hdb)
  exact PyProof.Rows.callWith_builtin1 (thn (ha pos pins s σ H _ I h) fun us s1 ⟨vs, H1, I1, r1, q1⟩ => hc pins s1 σ H1 vs us Q I1 r1 q1) he hpl
theorem pe_callTy (hc : CallR X (.type T) r) (hg : Gl X x) (hm : X.mg x = none) (hv : bootBuiltins x = some (.type T)) (ha : PA X (e :: es) t) (hn : x ≠ "__name__" := by decide) (hdb : (x == ("__debug__" : Str)) = false := by decide)
    (he : starEach (e :: es) X.env = (false, eval e X.env) :: starEach es X.env := by rfl) (hpl : (backTo pos (starEach es X.env)).any (·.1) = false := by rfl) : PE X (.Call (.Name x p) (e :: es) [] pos) (tCB r t) := by
  intro pins s σ H Q I h
  refine wpAny_Call_Name_kw (ld_blt I hg hm hv ?_ hn hdb)
  exact PyProof.Rows.callWith_type1 (thn (ha pos pins s σ H _ I h) fun us s1 ⟨vs, H1, I1, r1, q1⟩ => hc pins s1 σ H1 vs us Q I1 r1 q1) he hpl
end
end L2

namespace HT
open PySem PyProof.Rows

section
open PySem.SeqAt
open PySem.AutoSeq1 (wpAny_loadPart')
open PySem.MeetsSeq PySem.MeetsSeq2 PySem.MeetsSeq3

end

section
variable {prog : Program} {w : World} {A : Around} {E : Value → Shared → Prop} {s : Shared}

theorem cat_tup {t b : Addr} {vs ws : List Value} {Q : Value → Shared → Prop} (ht : IsTup s.heap t vs.toArray) (hb : IsTup s.heap b ws.toArray) (hv : vs ≠ [])
    (h1 : ws = [] → Q (.ref t) s) (h2 : ws ≠ [] → Q (.ref s.heap.objs.size) { s with heap := s.heap.push { cls := .type "tuple", data := .seq (vs ++ ws).toArray } })
    (hsz : vs.length + ws.length ≤ sizeLine) : wpAny (model prog w) A (binaryOp .Add (.ref t) (.ref b)) Q E s := by
  obtain ⟨⟨cls, dd, data, sl⟩, ho, hc, n, hd⟩ := id ht
  obtain ⟨⟨cls2, dd2, data2, sl2⟩, ho2, hc2, n2, hd2⟩ := id hb
  simp only at hc hd hc2 hd2
  subst hc hd hc2 hd2
  have e : vs.toArray ++ ws.toArray = (vs ++ ws).toArray := by simp
  by_cases hw : ws = []
  · exact concat_meets ⟨_, ho, rfl⟩ ⟨_, ho2, rfl⟩ noFill_tuple_add seq_tuple_add PySem.F.slot_tuple_add PySem.F.entry_tuple_add (PySem.F.args_tuple_add_2 _ _)
      (tuple_addW1 t b vs.toArray ws.toArray n n2 dd dd2 sl sl2 (by simpa using hv) (by simp [hw])) ⟨ho, ho2, h1 hw⟩
  · refine concat_meets ⟨_, ho, rfl⟩ ⟨_, ho2, rfl⟩ noFill_tuple_add seq_tuple_add PySem.F.slot_tuple_add PySem.F.entry_tuple_add (PySem.F.args_tuple_add_2 _ _)
      (tuple_addW2 t b vs.toArray ws.toArray n n2 dd dd2 sl sl2 (by simpa using hv) (by simpa using hw) (by rw [List.size_toArray, List.size_toArray]; exact hsz)) ⟨ho, ho2, ?_⟩
    rw [e]
    exact h2 hw

noncomputable def sIx (n d : Nat) : Option Int → Nat
  | none => d
  | some v => if v < 0 then (v + (n : Int)).toNat else min v.toNat n
theorem sIx_le (n d : Nat) (hd : d ≤ n) (o : Option Int) : sIx n d o ≤ n := by
  cases o with
  | none => exact hd
  | some v =>
    show (if v < 0 then (v + (n : Int)).toNat else min v.toNat n) ≤ n
    by_cases hv : v < 0
    · rw [if_pos hv]; (first | lia | omega)
    · rw [if_neg hv]; exact Nat.min_le_right _ _
theorem clip_eq (v : Int) (n d : Nat) : (if v < 0 then max (v + (n : Int)) 0 else min v (n : Int)) = ((sIx n d (some v) : Nat) : Int) := by
  show (if v < 0 then max (v + (n : Int)) 0 else min v (n : Int)) = (((if v < 0 then (v + (n : Int)).toNat else min v.toNat n) : Nat) : Int)
  by_cases hv : v < 0
  · simp only [if_pos hv]; (first | lia | omega)
  · simp only [if_neg hv]; (first | lia | omega)
theorem adjust_gen (lo hi : Option Int) (n : Nat) : Builtin.Slice.sliceAdjust lo hi 1 (n : Int) = (((sIx n 0 lo : Nat) : Int), ((sIx n n hi : Nat) : Int)) := by
  have h1 : ¬ ((1 : Int) < 0) := by (first | lia | omega)
  unfold Builtin.Slice.sliceAdjust
  simp only [h1, if_false]
  refine Prod.ext ?_ ?_
  · cases lo with
    | none => rfl
    | some v => exact clip_eq v n 0
  · cases hi with
    | none => rfl
    | some v => exact clip_eq v n n
theorem places_gen (i j : Nat) : Builtin.Slice.slicePlaces (i : Int) (j : Int) 1 = j - i := by
  unfold Builtin.Slice.slicePlaces
  have h1 : (1 : Int) > 0 := by (first | lia | omega)
  simp only [h1, if_true, Int.ediv_one]
  split <;> (first | lia | omega)
theorem slicePart_ {v : Value} {o : Option Int} {Q : Option Int → Shared → Prop} (p : IsPart v o) (h : Q o s) : wpAny (model prog w) A (Builtin.Slice.slicePartIndex v) Q E s := by
  cases p with
  | none => exact slicePart_none h
  | int i t => exact slicePart_int h
theorem sliceApplied_gen {sl : Addr} {vl vu : Value} {lo hi : Option Int} {n : Nat} {Q : Int × Int × Nat → Shared → Prop} (hs : s.heap.IsSliceOf sl vl vu .none) (pl : IsPart vl lo) (pu : IsPart vu hi)
    (h : Q (((sIx n 0 lo : Nat) : Int), 1, sIx n n hi - sIx n 0 lo) s) : wpAny (model prog w) A (Builtin.Slice.sliceApplied (.ref sl) (pure (n : Int))) Q E s := by
  obtain ⟨os, hos, hcs, hds⟩ := id hs
  unfold Builtin.Slice.sliceApplied Builtin.Slice.sliceFields
  refine wpAny_bind (wpAny_bind (wpAny_field hos hds (x := vl) rfl (wpAny_bind (wpAny_field hos hds (x := vu) rfl (wpAny_bind (wpAny_field hos hds (x := .none) rfl (wpAny_pure ?_)))))))
  refine wpAny_bind (slicePart_none ?_)
  show wpAny _ _ (if ((1 : Int) == 0) = true then _ else _) _ _ s
  rw [if_neg (by decide)]
  refine wpAny_bind (slicePart_ pl (wpAny_bind (slicePart_ pu (wpAny_bind (wpAny_pure ?_)))))
  show wpAny _ _ (match Builtin.Slice.sliceAdjust lo hi 1 (n : Int) with | (lo, hi) => pure (lo, (1 : Int), Builtin.Slice.slicePlaces lo hi 1)) _ _ s
  rw [adjust_gen lo hi n]
  show wpAny _ _ (pure (((sIx n 0 lo : Nat) : Int), (1 : Int), Builtin.Slice.slicePlaces ((sIx n 0 lo : Nat) : Int) ((sIx n n hi : Nat) : Int) 1)) _ _ s
  rw [places_gen]
  exact wpAny_pure h
theorem pick_gen (xs : Array Value) (i k : Nat) : ((List.range k).filterMap fun (m : Nat) => xs[((i : Int) + (m : Int) * 1).toNat]?).toArray = ((xs.toList.drop i).take k).toArray := by
  have e : (fun (m : Nat) => xs[((i : Int) + (m : Int) * 1).toNat]?) = fun m => xs[i + m]? := by
    funext m
    have : ((i : Int) + (m : Int) * 1).toNat = i + m := by (first | lia | omega)
    rw [this]
  rw [e]
  have := pick_run xs i k
  rw [List.filterMap_map] at this
  have e2 : ((fun x => xs[x]?) ∘ fun x => i + x) = fun m => xs[i + m]? := rfl
  rw [e2] at this
  rw [this]

theorem getItem_tuple_cut {t sl : Addr} {items : Array Value} {vl vu : Value} {lo hi : Option Int} {Q : Value → Shared → Prop} (ht : IsTup s.heap t items) (hs : s.heap.IsSliceOf sl vl vu .none) (pl : IsPart vl lo) (pu : IsPart vu hi)
    (hw : ¬ (sIx items.size 0 lo = 0 ∧ sIx items.size items.size hi = items.size))
    (h : Q (.ref s.heap.objs.size) { s with heap := s.heap.push { cls := .type "tuple", data := .seq ((items.toList.drop (sIx items.size 0 lo)).take (sIx items.size items.size hi - sIx items.size 0 lo)).toArray } })
    (hsz : items.size ≤ sizeLine) : wpAny (model prog w) A (getItem (.ref t) (.ref sl)) Q E s := by
  have htake : sizeOk (.seq ((items.toList.drop (sIx items.size 0 lo)).take (sIx items.size items.size hi - sIx items.size 0 lo)).toArray) := by
    show ((items.toList.drop (sIx items.size 0 lo)).take (sIx items.size items.size hi - sIx items.size 0 lo)).toArray.size ≤ sizeLine
    rw [List.size_toArray, List.length_take, List.length_drop, Array.length_toList]
    (first | lia | omega)
  have hj : sIx items.size items.size hi ≤ items.size := sIx_le _ _ (Nat.le_refl _) hi
  obtain ⟨os, hos, hcs, hds⟩ := id hs
  have hTs : s.TypeIs (.ref sl) "slice" := ⟨os, hos, hcs⟩
  unfold getItem
  try with_reducible refine wpAny_holding ?_
  first | refine wpAny_bind (wpAny_pure ?_) | skip
  refine wpAny_bind (wpAny_sequenceKey ht.typeIs (by decide) ?_)
  refine wpAny_bind (wpAny_callSpecial?_slot (name := Str.ofString "__getitem__") ht.typeIs PyProof.Rows.slot_tuple_getitem
    (wpAny_call_entry PyProof.Rows.slot_tuple_getitem ht.typeIs entry_tuple_getitem ?_ (args_tuple_getitem _ _)))
  show wpAny _ _ (Builtin.Tuple.tupleItemsOf (.ref t) >>= _) _ _ s
  refine wpAny_bind (tupleItemsOf_ ht ?_)
  refine wpAny_bind (wpAny_typeOf hTs ?_)
  rw [if_pos (by decide)]
  refine wpAny_bind (sliceApplied_gen hs pl pu ?_)
  have hno : ¬ ((((sIx items.size 0 lo : Nat) : Int) == 0 && (1 : Int) == 1 && (sIx items.size items.size hi - sIx items.size 0 lo) == items.size) = true) := by
    intro q
    rw [Bool.and_eq_true, Bool.and_eq_true] at q
    have q1 : ((sIx items.size 0 lo : Nat) : Int) = 0 := eq_of_beq q.1.1
    have q2 : sIx items.size items.size hi - sIx items.size 0 lo = items.size := eq_of_beq q.2
    exact hw ⟨by (first | lia | omega), by (first | lia | omega)⟩
  show wpAny _ _ (if (((sIx items.size 0 lo : Nat) : Int) == 0 && (1 : Int) == 1 && (sIx items.size items.size hi - sIx items.size 0 lo) == items.size) = true then _ else _) _ _ s
  rw [if_neg hno, pick_gen]
  first
    | exact wpAny_bind (m := Builtin.Tuple.tupleExact _) (wpAny_newObj_type (wpAny_pure ⟨_, rfl, wpAny_pure h⟩) htake)
    | exact wpAny_bind (m := Builtin.Tuple.tupleExact _) (wpAny_newObj_type (wpAny_bind (wpAny_pure (wpAny_pure ⟨_, rfl, wpAny_pure h⟩))) htake)
    | exact wpAny_bind (wpAny_bind (m := Builtin.Tuple.tupleExact _) (wpAny_newObj_type (wpAny_pure (wpAny_pure ⟨_, rfl, wpAny_pure h⟩)) htake))
    | exact wpAny_bind (wpAny_bind (m := Builtin.Tuple.tupleExact _) (wpAny_newObj_type (wpAny_pure ⟨_, rfl, wpAny_pure h⟩) htake))
end
end HT

namespace L2
open PySem PySem.Spec PyProof.Rows

noncomputable abbrev TO := St → Hp → (Option Int → Hp → Prop) → Prop
noncomputable def PO (X : Cx) (e : Option Expr) (t : TO) : Prop :=
  ∀ (pins : List (Addr × Obj)) (s : Shared) (σ : St) (H : Hp) (Q : Option Int → Hp → Prop), Inv X pins σ H s → t σ H Q →
    wpAny (model X.prog X.w) X.A (evalPart e X.env) (fun u s' => ∃ o H', Inv X pins σ H' s' ∧ IsPart u o ∧ Q o H') X.xe s
noncomputable def tNoPart : TO := fun _ H Q => Q none H
noncomputable def tPart (t : TE) : TO := fun σ H Q => t σ H fun x H1 => ∃ i, x = .int i ∧ Q (some i) H1

theorem intsAre_of {ns : List Int} : ∀ {us : List Value}, Vals (ns.map V.int) us → IntsAre us ns := by
  induction ns with
  | nil => intro us r; rw [List.map_nil] at r; cases r; exact .nil
  | cons n ns ih =>
    intro us r
    rw [List.map_cons] at r
    cases r with
    | cons r1 r2 =>
      obtain ⟨t, e⟩ := r1
      subst e
      exact .cons n t (ih r2)

section
variable {X : Cx} {e : Expr} {te : TE} {lo hi : Option Expr} {tl th : TO} {pos p2 : Pos}

theorem po_none : PO X none tNoPart := by
  intro pins s σ H Q I h
  rw [evalPart_none]
  exact wpAny_pure ⟨none, H, I, .none, h⟩
theorem po_some (h : PE X e te) : PO X (some e) (tPart te) := by
  intro pins s σ H Q I hw
  rw [evalPart_some]
  refine thn (h pins s σ H _ I hw) fun u s1 ⟨x, H1, I1, r1, q1⟩ => ?_
  obtain ⟨i, rfl, q⟩ := q1
  obtain ⟨t, rfl⟩ := r1
  exact ⟨some i, H1, I1, .int i t, q⟩

noncomputable def SlR (X : Cx) (r : V → Option Int → Option Int → Hp → VK → Prop) : Prop :=
  ∀ (pins : List (Addr × Obj)) (s : Shared) (σ : St) (H : Hp) (x : V) (v vl vu : Value) (lo hi : Option Int) (sl : Addr) (Q : VK), Inv X pins σ H s → RelV x v → s.heap.IsSliceOf sl vl vu .none → IsPart vl lo → IsPart vu hi → r x lo hi H Q →
    ∃ T id, typeLookup (.type T) "__getitem__" = pure (some (.builtin id)) ∧ s.TypeIs v T ∧ wpAny (model X.prog X.w) X.A (getItem v (.ref sl)) (EP X pins σ Q) X.xe s
noncomputable def tSl (r : V → Option Int → Option Int → Hp → VK → Prop) (te : TE) (tl th : TO) : TE := fun σ H Q => te σ H fun x H1 => tl σ H1 fun l H2 => th σ H2 fun u H3 => r x l u H3 Q
theorem pe_slice {r : V → Option Int → Option Int → Hp → VK → Prop} (hr : SlR X r) (he : PE X e te) (hl : PO X lo tl) (hu : PO X hi th) : PE X (.Subscript e (.Slice lo hi none p2) pos) (tSl r te tl th) := by
  intro pins s σ H Q I h
  refine Subscript_ (thn (he pins s σ H _ I h) fun v s1 ⟨x, H1, I1, r1, q1⟩ => ?_)
  refine wpAny_Slice (thn (hl pins s1 σ H1 _ I1 q1) fun vl s2 ⟨l, H2, I2, pl, q2⟩ => thn (hu pins s2 σ H2 _ I2 q2) fun vu s3 ⟨u, H3, I3, pu, q3⟩ => ?_)
  rw [evalPart_none]
  refine wpAny_pure ?_
  have I4 : Inv X pins σ H3 { s3 with heap := s3.heap.push { cls := .type "slice", data := .fields #[vl, vu, .none] } } := I3.kept (t' := s3.toks) fun b ob q => Heap.get?_push_of_some _ q
  obtain ⟨T, id, hT, ht, hg⟩ := hr pins { s3 with heap := s3.heap.push { cls := .type "slice", data := .fields #[vl, vu, .none] } } σ H3 x v vl vu l u s3.heap.objs.size Q I4 r1 (Heap.IsSliceOf.new ..) pl pu q3
  show wpAny (model X.prog X.w) X.A (subscriptTail e (.Slice lo hi none p2) v (.ref s3.heap.objs.size)) (EP X pins σ Q) X.xe { s3 with heap := s3.heap.push { cls := .type "slice", data := .fields #[vl, vu, .none] } }
  exact tail_any (ops := [.ref s3.heap.objs.size, v]) ht hT hg (by with_unfolding_all rfl)

noncomputable def cutV (xs : List V) (lo hi : Option Int) : List V := (xs.drop (HT.sIx xs.length 0 lo)).take (HT.sIx xs.length xs.length hi - HT.sIx xs.length 0 lo)
theorem cutV_length (xs : List V) (lo hi : Option Int) : (cutV xs lo hi).length ≤ xs.length := by
  unfold cutV
  rw [List.length_take, List.length_drop]
  (first | lia | omega)
noncomputable def rSlT (K : PySem.W.Frag) : V → Option Int → Option Int → Hp → VK → Prop := fun x lo hi H Q => ∃ a xs, x = .ref a ∧ SqT K H a xs ∧
  ¬ (HT.sIx xs.length 0 lo = 0 ∧ HT.sIx xs.length xs.length hi = xs.length) ∧ ∀ p, H p = none → Q (.ref p) (upd H p (.tup (cutV xs lo hi)))
theorem sl_tup : SlR X (rSlT X.K) := by
  intro pins s σ H x v vl vu lo hi sl Q I rx hs pl pu h
  obtain ⟨a, xs, rfl, hx, hw, q⟩ := h
  cases rx
  obtain ⟨its, r, ht, hz⟩ := I.tuple hx
  have hlen : its.toArray.size = xs.length := by rw [List.size_toArray]; exact r.length.symm
  refine ⟨"tuple", _, PyProof.Rows.slot_tuple_getitem.lookup, ht.typeIs, ?_⟩
  refine HT.getItem_tuple_cut ht hs pl pu (by rw [hlen]; exact hw) ?_ (by rw [hlen]; exact hz)
  rw [hlen]
  refine ⟨.ref s.heap.objs.size, _, I.laid (t' := s.toks) (o := .tup (cutV xs lo hi)) (fun b ob q => Heap.get?_push_of_some _ q) (Nat.le_refl _) ?_, rfl, q _ (I.hok.fresh (Nat.le_refl _))⟩
  exact ⟨Nat.le_trans (cutV_length xs lo hi) hz, _, (r.drop (HT.sIx xs.length 0 lo)).take (HT.sIx xs.length xs.length hi - HT.sIx xs.length 0 lo), IsTup.new _ _, _, Heap.get?_push_size _ rfl, rfl⟩

noncomputable def rCatT (K : PySem.W.Frag) : R2 := fun x y H Q => ∃ a b xs ys, x = .ref a ∧ y = .ref b ∧ SqT K H a xs ∧ SqT K H b ys ∧ xs ≠ [] ∧ xs.length + ys.length ≤ sizeLine ∧
  (ys = [] → Q (.ref a) H) ∧ (ys ≠ [] → ∀ p, H p = none → Q (.ref p) (upd H p (.tup (xs ++ ys))))
theorem Vals.nil_iff {xs : List V} {us : List Value} (r : Vals xs us) : us = [] ↔ xs = [] := by
  cases r with
  | nil => simp
  | cons _ _ => simp
theorem op_catT : OpR X (binaryOp .Add) (rCatT X.K) := by
  intro pins s σ H x y v u Q I rx ry h
  obtain ⟨a, b, xs, ys, rfl, rfl, ha, hb, hx, hz, q1, q2⟩ := h
  cases rx
  cases ry
  obtain ⟨its, r1, p1, _⟩ := I.tuple ha
  obtain ⟨its2, r2, p2, _⟩ := I.tuple hb
  refine HT.cat_tup p1 p2 (fun z => hx (r1.nil_iff.mp z)) (fun z => ⟨.ref a, H, I, rfl, q1 (r2.nil_iff.mp z)⟩) (fun z => ?_) (by rw [← r1.length, ← r2.length]; exact hz)
  refine ⟨.ref s.heap.objs.size, _, I.laid (t' := s.toks) (o := .tup (xs ++ ys)) (fun b ob q => Heap.get?_push_of_some _ q) (Nat.le_refl _) ?_, rfl, q2 (fun w => z (r2.nil_iff.mpr w)) _ (I.hok.fresh (Nat.le_refl _))⟩
  exact ⟨by rw [List.length_append]; exact hz, _, r1.append r2, IsTup.new _ _, _, Heap.get?_push_size _ rfl, rfl⟩
end
end L2

namespace L2
open PySem PySem.Spec PyProof.Rows

noncomputable def ixN (n : Nat) (i : Int) : Option Nat := if 0 ≤ i then (if i < n then some i.toNat else none) else if -(n : Int) ≤ i then some (i + n).toNat else none
noncomputable def atI {α : Type} (xs : List α) (i : Int) : Option α := (ixN xs.length i).bind fun j => xs[j]?
theorem ixN_seq {n : Nat} {i : Int} {j : Nat} (h : ixN n i = some j) : seqIndex? i n = some j ∧ j < n ∧ -(n : Int) ≤ i ∧ i < n := by
  unfold ixN at h
  by_cases h0 : 0 ≤ i
  · rw [if_pos h0] at h
    by_cases h1 : i < n
    · rw [if_pos h1] at h
      have e : i.toNat = j := Option.some.inj h
      exact ⟨by rw [seqIndex_of h0 h1, e], by (first | lia | omega), by (first | lia | omega), h1⟩
    · rw [if_neg h1] at h; cases h
  · rw [if_neg h0] at h
    by_cases h1 : -(n : Int) ≤ i
    · rw [if_pos h1] at h
      have e : (i + n).toNat = j := Option.some.inj h
      exact ⟨by rw [seqIndex_neg (by (first | lia | omega)) h1, e], by (first | lia | omega), h1, by (first | lia | omega)⟩
    · rw [if_neg h1] at h; cases h
theorem atI_get {α : Type} {xs : List α} {i : Int} {v : α} (h : atI xs i = some v) : ∃ j, seqIndex? i xs.length = some j ∧ xs[j]? = some v ∧ j < xs.length ∧ -(xs.length : Int) ≤ i ∧ i < xs.length := by
  unfold atI at h
  cases e : ixN xs.length i with
  | none => rw [e] at h; cases h
  | some j =>
    rw [e] at h
    obtain ⟨h1, h2, h3, h4⟩ := ixN_seq e
    exact ⟨j, h1, h, h2, h3, h4⟩
theorem atI_nat {α : Type} {xs : List α} {j : Nat} {v : α} (h : xs[j]? = some v) : atI xs (j : Int) = some v := by
  have hj : j < xs.length := (List.getElem?_eq_some_iff.mp h).1
  have e : ixN xs.length (j : Int) = some j := by
    unfold ixN
    rw [if_pos (by (first | lia | omega)), if_pos (by (first | lia | omega))]; simp
  unfold atI; rw [e]; exact h
noncomputable def PlainIx (b : Expr) : Prop := ∀ o i, subscripted b false o i = operate [o, i] (getItem o i)
noncomputable def IxR (X : Cx) (r : R2) : Prop :=
  ∀ (value slice : Expr) (pins : List (Addr × Obj)) (s : Shared) (σ : St) (H : Hp) (x y : V) (v u : Value) (Q : VK), Inv X pins σ H s → RelV x v → RelV y u → r x y H Q →
    subscripted slice false v u = operate [v, u] (getItem v u) → wpAny (model X.prog X.w) X.A (subscriptTail value slice v u) (EP X pins σ Q) X.xe s
noncomputable def MtR (X : Cx) (id : String) (r : V → List V → Hp → VK → Prop) : Prop :=
  ∀ (pins : List (Addr × Obj)) (s : Shared) (σ : St) (H : Hp) (x : V) (xs : List V) (v : Value) (us : List Value) (Q : VK), Inv X pins σ H s → RelV x v → Vals xs us → r x xs H Q →
    wpAny (model X.prog X.w) X.A (call (.builtin id) (v :: us)) (EP X pins σ Q) X.xe s
section
variable {X : Cx} {a b : Expr} {ta tb : TE} {pos : Pos}
theorem pe_ix {r : R2} (hr : IxR X r) (ha : PE X a ta) (hb : PE X b tb) (hs : PlainIx b) : PE X (.Subscript a b pos) (tOp r ta tb) := by
  intro pins s σ H Q I h
  exact Subscript_ (binT ha hb I h fun v u s2 x y H2 I2 rx ry q => hr a b pins s2 σ H2 x y v u Q I2 rx ry q (hs _ _))

noncomputable def rIxL (K : PySem.W.Frag) : R2 := fun x y H Q => ∃ p xs i v, x = .ref p ∧ y = .int i ∧ SqL K H p xs ∧ atI xs i = some v ∧ Q v H
noncomputable def rIxT (K : PySem.W.Frag) : R2 := fun x y H Q => ∃ p xs i v, x = .ref p ∧ y = .int i ∧ SqT K H p xs ∧ atI xs i = some v ∧ Q v H
theorem ix_list : IxR X (rIxL X.K) := by
  intro value slice pins s σ H x y v u Q I rx ry h hs
  obtain ⟨p, xs, i, z, rfl, rfl, hq, he, q⟩ := h
  cases rx
  obtain ⟨t, rfl⟩ := ry
  obtain ⟨its, r, pl, hz⟩ := I.list hq
  obtain ⟨j, h1, h2, h3, h4, h5⟩ := atI_get he
  obtain ⟨w, ew, rw'⟩ := r.get h2
  have hl := r.length
  have hn := line63
  have fin : EP X pins σ Q w s := ⟨z, H, I, rw', q⟩
  by_cases h0 : 0 ≤ i
  · have hj : i.toNat = j := by
      rw [seqIndex_of h0 h5] at h1
      exact Option.some.inj h1
    exact item_listR pl.isList h0 (by (first | lia | omega)) (by rw [hj]; simpa using ew) fin hs
  · have hj : (i + (its.toArray.size : Int)).toNat = j := by
      rw [seqIndex_neg (by (first | lia | omega)) h4] at h1
      rw [List.size_toArray, ← hl]
      exact Option.some.inj h1
    exact subscriptTail_builtinR (x := w) pl.isList.typeIs slot_list_getitem.lookup
      (wpAny_getItem_list_neg (Q := fun r s' => r = w ∧ EP X pins σ Q r s') pl.isList (by (first | lia | omega)) (by rw [List.size_toArray] <;> (first | lia | omega)) (by (first | lia | omega)) (by rw [hj]; simpa using ew) ⟨rfl, fin⟩) hs
theorem ix_tup : IxR X (rIxT X.K) := by
  intro value slice pins s σ H x y v u Q I rx ry h hs
  obtain ⟨p, xs, i, z, rfl, rfl, hq, he, q⟩ := h
  cases rx
  obtain ⟨t, rfl⟩ := ry
  obtain ⟨its, r, pl, hz⟩ := I.tuple hq
  obtain ⟨j, h1, h2, h3, h4, h5⟩ := atI_get he
  obtain ⟨w, ew, rw'⟩ := r.get h2
  have hl := r.length
  have hn := line63
  have fin : EP X pins σ Q w s := ⟨z, H, I, rw', q⟩
  exact subscriptTail_builtinR (x := w) pl.typeIs slot_tuple_getitem.lookup
    (getItem_tuple (j := j) (Q := fun r s' => r = w ∧ EP X pins σ Q r s') pl (by (first | lia | omega)) (by (first | lia | omega)) (by rw [List.size_toArray, ← hl]; exact h1) (by simpa using ew) ⟨rfl, fin⟩) hs
theorem mapSeq_set (its : List Value) (n j : Nat) (u : Value) : Obj.mapSeq (·.setIfInBounds j u) { cls := .type "list", data := .seq its.toArray n } = { cls := .type "list", data := .seq (its.set j u).toArray n } := by
  simp [Obj.mapSeq]
theorem Inv.lst {pins : List (Addr × Obj)} {σ : St} {H : Hp} {s : Shared} {p : Addr} {xs : List V} (I : Inv X pins σ H s) (h : H p = some (.lst xs)) :
    ∃ (its : List Value) (n : Nat), Vals xs its ∧ s.heap.get? p = some { cls := .type "list", data := .seq its.toArray n } ∧ xs.length ≤ sizeLine := by
  obtain ⟨z, its, n, r, e⟩ := I.hok p _ h
  exact ⟨its, n, r, e, z⟩
theorem Inv.lstUpd {pins : List (Addr × Obj)} {σ : St} {H : Hp} {s : Shared} {p : Addr} {xs ys : List V} {its its' : List Value} {n n' : Nat} {f : Obj → Obj} (I : Inv X pins σ H s) (h : H p = some (.lst xs))
    (ho : s.heap.get? p = some { cls := .type "list", data := .seq its.toArray n }) (hf : f { cls := .type "list", data := .seq its.toArray n } = { cls := .type "list", data := .seq its'.toArray n' }) (r : Vals ys its') (hz : ys.length ≤ sizeLine) (t : Nat) :
    Inv X pins σ (upd H p (.lst ys)) { s with heap := s.heap.update p f, toks := t } := by
  have e : (s.heap.update p f).get? p = some { cls := .type "list", data := .seq its'.toArray n' } := by
    rw [Heap.get?_update_self f ho (by rw [hf] <;> rfl), hf]
  refine I.write (x := p) (e := p) (by rw [h]; trivial) (.inl rfl) (fun b u hb q => (Heap.get?_update_other _ _ (Ne.symm hb)).trans q) ⟨_, e⟩ ?_
  exact ⟨hz, its', n', r, e⟩
noncomputable def rSetL : V → V → V → Hp → (Hp → Prop) → Prop := fun o i v H Q => ∃ p xs k j, o = .ref p ∧ i = .int k ∧ H p = some (.lst xs) ∧ ixN xs.length k = some j ∧ Q (upd H p (.lst (xs.set j v)))
theorem set_list : PSet X rSetL := by
  intro pins s σ H o i v ov iv u Q I ro ri rv h
  obtain ⟨p, xs, k, j, rfl, rfl, hp, hj, q⟩ := h
  cases ro
  obtain ⟨t, rfl⟩ := ri
  obtain ⟨its, n, r, ho, hz⟩ := I.lst hp
  obtain ⟨h1, h2, h3, h4⟩ := ixN_seq hj
  have hl := r.length
  have hn := line63
  have I' : Inv X pins σ (upd H p (.lst (xs.set j v))) { s with heap := s.heap.update p (Obj.mapSeq (·.setIfInBounds j u)) } :=
    I.lstUpd hp ho (mapSeq_set its n j u) (r.set rv j) (by rw [List.length_set]; exact hz) s.toks
  by_cases h0 : 0 ≤ k
  · have hk : k.toNat = j := by
      rw [seqIndex_of h0 h4] at h1
      exact Option.some.inj h1
    exact PySem.W.ki_setAt ho h0 (by (first | lia | omega)) (by rw [List.size_toArray, ← hl]; exact h4) (by rw [hk]; exact ⟨_, I', q⟩)
  · have hk : (k + (its.toArray.size : Int)).toNat = j := by
      rw [seqIndex_neg (by (first | lia | omega)) h3] at h1
      rw [List.size_toArray, ← hl]
      exact Option.some.inj h1
    exact PySem.W.ki_setBack ho (by (first | lia | omega)) (by rw [List.size_toArray, ← hl]; exact h3) (by (first | lia | omega)) (by rw [hk]; exact ⟨_, I', q⟩)

theorem slice_bounds (lo hi : Option Int) (n : Nat) : (sliceBounds lo hi none n).1 = ((HT.sIx n 0 lo : Nat) : Int) ∧ (sliceBounds lo hi none n).2.1 = ((HT.sIx n n hi : Nat) : Int) ∧ (sliceBounds lo hi none n).2.2 = 1 := by
  refine ⟨?_, ?_, rfl⟩
  · cases lo with
    | none => simp [sliceBounds, HT.sIx]
    | some i =>
      simp only [sliceBounds, HT.sIx, Option.getD_none, show (1 : Int) > 0 by decide, if_true]
      by_cases h : i < 0
      · simp only [h, if_true] <;> (first | lia | omega)
      · simp only [h, if_false] <;> (first | lia | omega)
  · cases hi with
    | none => simp [sliceBounds, HT.sIx]
    | some i =>
      simp only [sliceBounds, HT.sIx, Option.getD_none, show (1 : Int) > 0 by decide, if_true]
      by_cases h : i < 0
      · simp only [h, if_true] <;> (first | lia | omega)
      · simp only [h, if_false] <;> (first | lia | omega)
theorem slicePick_cut (its : List Value) (lo hi : Option Int) : slicePick its.toArray lo hi none = ((its.drop (HT.sIx its.length 0 lo)).take (HT.sIx its.length its.length hi - HT.sIx its.length 0 lo)).toArray := by
  obtain ⟨h1, h2, h3⟩ := slice_bounds lo hi its.toArray.size
  unfold slicePick
  rw [h1, h2, h3]
  simp only [sliceRange_one, pick_run, List.size_toArray] <;> rfl
noncomputable def rSlL (K : PySem.W.Frag) : V → Option Int → Option Int → Hp → VK → Prop := fun x lo hi H Q => ∃ a xs, x = .ref a ∧ SqL K H a xs ∧ ∀ p, H p = none → Q (.ref p) (upd H p (.lst (cutV xs lo hi)))
theorem sl_list : SlR X (rSlL X.K) := by
  intro pins s σ H x v vl vu lo hi sl Q I rx hs pl pu h
  obtain ⟨a, xs, rfl, hx, q⟩ := h
  cases rx
  obtain ⟨its, r, ht, hz⟩ := I.list hx
  have hlen := r.length
  refine ⟨"list", _, slot_list_getitem.lookup, ht.isList.typeIs, ?_⟩
  refine wpAny_getItem_list_slice ht.isList hs pl pu .none (by simp) ?_ (by rw [List.size_toArray] <;> (first | lia | omega))
  rw [slicePick_cut, ← hlen]
  refine ⟨.ref s.heap.objs.size, _, I.laid (t' := s.toks) (o := .lst (cutV xs lo hi)) (fun b ob q => Heap.get?_push_of_some _ q) (Nat.le_refl _) ?_, rfl, q _ (I.hok.fresh (Nat.le_refl _))⟩
  exact ⟨Nat.le_trans (cutV_length xs lo hi) hz, _, 0, (r.drop (HT.sIx xs.length 0 lo)).take (HT.sIx xs.length xs.length hi - HT.sIx xs.length 0 lo), Heap.get?_push_size _ rfl⟩

noncomputable def flatV : V → Bool
  | .non => true
  | .bl _ => true
  | .int _ => true
  | .str _ => true
  | _ => false
noncomputable def eqV : V → V → Bool
  | .non, .non => true
  | .bl a, .bl b => a == b
  | .bl a, .int b => (if a then 1 else 0) == b
  | .int a, .bl b => a == (if b then 1 else 0)
  | .int a, .int b => a == b
  | .str a, .str b => a == b
  | _, _ => false
theorem eqAt_V {A : Around} {s : Shared} {y x : V} {u v : Value} (ry : RelV y u) (rx : RelV x v) (fy : flatV y = true) (fx : flatV x = true) : SeqAt.EqAt A s u v (eqV y x) := by
  cases y with
  | non =>
    cases ry
    cases x with
    | non => cases rx; exact SeqAt.EqAt.same _
    | bl b => cases rx; exact SeqAt.EqAt.none_bool b
    | int b => obtain ⟨t, rfl⟩ := rx; exact SeqAt.EqAt.none_int b t
    | str b => obtain ⟨t, rfl⟩ := rx; exact SeqAt.EqAt.none_str b t
    | _ => exact absurd (show false = true from fx) Bool.false_ne_true
  | bl a =>
    cases ry
    cases x with
    | non => cases rx; exact SeqAt.EqAt.bool_none a
    | bl b => cases rx; exact SeqAt.EqAt.bool_bool a b
    | int b => obtain ⟨t, rfl⟩ := rx; exact SeqAt.EqAt.bool_int a b t
    | str b => obtain ⟨t, rfl⟩ := rx; exact SeqAt.EqAt.bool_str a b t
    | _ => exact absurd (show false = true from fx) Bool.false_ne_true
  | int a =>
    obtain ⟨t', rfl⟩ := ry
    cases x with
    | non => cases rx; exact SeqAt.EqAt.int_none a t'
    | bl b => cases rx; exact SeqAt.EqAt.int_bool a t' b
    | int b => obtain ⟨t, rfl⟩ := rx; exact SeqAt.EqAt.int_int a t' b t
    | str b => obtain ⟨t, rfl⟩ := rx; exact SeqAt.EqAt.int_str a t' b t
    | _ => exact absurd (show false = true from fx) Bool.false_ne_true
  | str a =>
    obtain ⟨t', rfl⟩ := ry
    cases x with
    | non => cases rx; exact SeqAt.EqAt.str_none a t'
    | bl b => cases rx; exact SeqAt.EqAt.str_bool a t' b
    | int b => obtain ⟨t, rfl⟩ := rx; exact SeqAt.EqAt.str_int a t' b t
    | str b => obtain ⟨t, rfl⟩ := rx; exact SeqAt.EqAt.str_str a t' b t
    | _ => exact absurd (show false = true from fx) Bool.false_ne_true
  | _ => exact absurd (show false = true from fy) Bool.false_ne_true
noncomputable def eqU (x : V) (u : Value) : Bool := match u with
  | .none => eqV .non x
  | .bool b => eqV (.bl b) x
  | .int i _ => eqV (.int i) x
  | .str z _ => eqV (.str z) x
  | _ => false
theorem eqU_of {x y : V} {u : Value} (r : RelV y u) (f : flatV y = true) : eqU x u = eqV y x := by
  cases y with
  | non => cases r; rfl
  | bl b => cases r; rfl
  | int i => obtain ⟨t, rfl⟩ := r; rfl
  | str z => obtain ⟨t, rfl⟩ := r; rfl
  | _ => exact absurd (show false = true from f) Bool.false_ne_true
theorem any_eqU {x : V} : ∀ {xs : List V} {us : List Value}, Vals xs us → xs.all flatV = true → us.any (eqU x) = xs.any fun y => eqV y x
  | _, _, .nil, _ => rfl
  | y :: xs, u :: us, .cons r t, f => by
    rw [List.all_cons, Bool.and_eq_true] at f
    rw [List.any_cons, List.any_cons, eqU_of r f.1, any_eqU t f.2]
theorem mem_eqAt {A : Around} {s : Shared} {x : V} {v : Value} (rx : RelV x v) (fx : flatV x = true) : ∀ {xs : List V} {us : List Value}, Vals xs us → xs.all flatV = true → ∀ u ∈ us, SeqAt.EqAt A s u v (eqU x u)
  | _, _, .nil, _ => fun u hu => by cases hu
  | y :: xs, u :: us, .cons r t, f => fun u' hu => by
    rw [List.all_cons, Bool.and_eq_true] at f
    rcases List.mem_cons.mp hu with rfl | hu
    · rw [eqU_of r f.1]; exact eqAt_V r rx f.1 fx
    · exact mem_eqAt rx fx t f.2 u' hu
noncomputable def inV (x : V) (xs : List V) : Bool := xs.any fun y => eqV y x
noncomputable def rIn (K : PySem.W.Frag) (neg : Bool) : R2 := fun x y H Q => ∃ p xs, y = .ref p ∧ (SqL K H p xs ∨ SqT K H p xs) ∧ flatV x = true ∧ xs.all flatV = true ∧ Q (.bl (if neg then !inV x xs else inV x xs)) H
theorem op_in_seq : OpR X (compareOp .In) (rIn X.K false) := by
  intro pins s σ H x y v u Q I rx ry h
  obtain ⟨p, xs, rfl, hq, fx, fs, q⟩ := h
  cases ry
  rcases hq with hq | hq
  · obtain ⟨its, r, pl, hz⟩ := I.list hq
    refine SeqAt.in_listAt (eqU x) pl.isList (fun w hw => mem_eqAt rx fx r fs w (by simpa using hw)) ⟨.bl _, H, I, rfl, ?_⟩
    rw [show its.toArray.any (eqU x) = its.any (eqU x) by simp, any_eqU r fs]
    exact q
  · obtain ⟨its, r, pl, hz⟩ := I.tuple hq
    refine SeqAt.in_tupleAt (eqU x) pl (fun w hw => mem_eqAt rx fx r fs w (by simpa using hw)) ⟨.bl _, H, I, rfl, ?_⟩
    rw [show its.toArray.any (eqU x) = its.any (eqU x) by simp, any_eqU r fs]
    exact q
theorem call_len_seq : CallR X (.builtin "len") (fun xs H Q => ∃ p ys, xs = [.ref p] ∧ (SqL X.K H p ys ∨ SqT X.K H p ys) ∧ Q (.int ys.length) H) := by
  intro pins s σ H xs us Q I r h
  obtain ⟨p, ys, rfl, hq, q⟩ := h
  obtain ⟨u, rfl, rx⟩ := vals1 r
  cases rx
  have hn := line63
  rcases hq with hq | hq
  · obtain ⟨its, r', pl, hz⟩ := I.list hq
    have hlen := r'.length
    exact Calls.call_len_list pl.isList (by simp only [List.size_toArray] <;> (first | lia | omega)) ⟨.int ys.length, H, I.tok _, ⟨s.toks + 1, by rw [List.size_toArray, hlen]⟩, q⟩
  · obtain ⟨its, r', pl, hz⟩ := I.tuple hq
    have hlen := r'.length
    exact len_tuple pl (by simp only [List.size_toArray] <;> (first | lia | omega)) ⟨.int ys.length, H, I.tok _, ⟨s.toks + 1, by rw [List.size_toArray, hlen]⟩, q⟩
theorem call_list_of : CallR X (.type "list") (fun xs H Q => ∃ p ys, xs = [.ref p] ∧ (SqL X.K H p ys ∨ SqT X.K H p ys) ∧ ∀ l, H l = none → Q (.ref l) (upd H l (.lst ys))) := by
  intro pins s σ H xs us Q I r h
  obtain ⟨p, ys, rfl, hq, q⟩ := h
  obtain ⟨u, rfl, rx⟩ := vals1 r
  cases rx
  have fin : ∀ (its : List Value), Vals ys its → ys.length ≤ sizeLine → ∀ (h' : Heap) (c' : Nat), (∀ b o', s.heap.get? b = some o' → h'.get? b = some o') →
      h'.get? s.heap.objs.size = some { cls := .type "list", dict := none, data := .seq its.toArray c', slots := #[] } → EP X pins σ Q (.ref s.heap.objs.size) { s with heap := h' } := fun its r' hz h' c' kp e =>
    ⟨.ref s.heap.objs.size, _, I.laid (t' := s.toks) kp (Nat.le_refl _) (show ObjOk X.prog X.w _ h' _ (.lst ys) from ⟨hz, its, c', r', e⟩), rfl, q _ (I.hok.fresh (Nat.le_refl _))⟩
  rcases hq with hq | hq
  · obtain ⟨its, r', pl, hz⟩ := I.list hq
    have hlen := r'.length
    obtain ⟨o, ho, hc, n, hd⟩ := pl.isList
    exact call_list_seq p (.inl rfl) ho hc hd (fun h' c' kp e => fin its r' hz h' c' kp e) (by simp only [List.size_toArray] <;> (first | lia | omega))
  · obtain ⟨its, r', pl, hz⟩ := I.tuple hq
    have hlen := r'.length
    obtain ⟨o, ho, hc, n, hd⟩ := pl
    exact call_list_seq p (.inr rfl) ho hc hd (fun h' c' kp e => fin its r' hz h' c' kp e) (by simp only [List.size_toArray] <;> (first | lia | omega))
theorem call_tuple_of : CallR X (.type "tuple") (fun xs H Q => ∃ p ys, xs = [.ref p] ∧ ((SqL X.K H p ys ∧ ∀ l, H l = none → Q (.ref l) (upd H l (.tup ys))) ∨ (SqT X.K H p ys ∧ Q (.ref p) H))) := by
  intro pins s σ H xs us Q I r h
  obtain ⟨p, ys, rfl, h⟩ := h
  obtain ⟨u, rfl, rx⟩ := vals1 r
  cases rx
  rcases h with ⟨hq, q⟩ | ⟨hq, q⟩
  · obtain ⟨its, r', pl, hz⟩ := I.list hq
    have hlen := r'.length
    refine call_tuple_list pl.isList (fun h' kp => ?_) (by simp only [List.size_toArray] <;> (first | lia | omega))
    have I1 : Inv X pins σ H { s with heap := h' } := I.kept (t' := s.toks) kp
    have I2 : Inv X pins σ (upd H h'.objs.size (.tup ys)) { s with heap := h'.push { cls := .type "tuple", data := .seq its.toArray } } :=
      I1.laid (t' := s.toks) (fun b o e => Heap.get?_push_of_some _ e) (Nat.le_refl _) (show ObjOk X.prog X.w _ _ _ (.tup ys) from ⟨hz, its, r', IsTup.new _ _, _, Heap.get?_push_size _ rfl, rfl⟩)
    exact ⟨.ref h'.objs.size, _, I2, rfl, q _ (I1.hok.fresh (Nat.le_refl _))⟩
  · obtain ⟨its, r', pl, hz⟩ := I.tuple hq
    exact call_tuple_same pl ⟨.ref p, H, I, rfl, q⟩

noncomputable def tyV (K : PySem.W.Frag) (T : String) (x : V) (H : Hp) : Prop := match x with
  | .str _ => T = "str"
  | .int _ => T = "int"
  | .ref p => (T = "list" ∧ ∃ xs, SqL K H p xs) ∨ (T = "tuple" ∧ ∃ o, K.lookup p = some o ∧ o.cls = .type "tuple" ∧ o.dict = none) ∨
      (T = "dict" ∧ ((∃ kvs, H p = some (.dK kvs)) ∨ ∃ kvs, H p = some (.dT kvs))) ∨ (T = "set" ∧ ∃ S n, H p = some (.set S n))
  | _ => False
theorem tyV_is {pins : List (Addr × Obj)} {σ : St} {H : Hp} {s : Shared} {T : String} {x : V} {v : Value} (I : Inv X pins σ H s) (r : RelV x v) (ty : tyV X.K T x H) :
    s.TypeIs v T ∧ ∀ a, v = .ref a → ∃ ob, s.heap.get? a = some ob ∧ ob.dict = none := by
  cases x with
  | str z =>
    obtain ⟨t, rfl⟩ := r
    cases (show T = "str" from ty)
    exact ⟨typeIs_str s z t, fun _ e => nomatch e⟩
  | int i =>
    obtain ⟨t, rfl⟩ := r
    cases (show T = "int" from ty)
    exact ⟨typeIs_int s i t, fun _ e => nomatch e⟩
  | ref p =>
    cases r
    rcases ty with ⟨rfl, xs, hq⟩ | ⟨rfl, o, hk, hc, hd⟩ | ⟨rfl, hk⟩ | ⟨rfl, S, n, hk⟩
    · obtain ⟨its, _, pl, _⟩ := I.list hq
      refine ⟨pl.isList.typeIs, fun a e => ?_⟩
      cases e
      obtain ⟨o, n, e, c, hd, _⟩ := pl
      exact ⟨o, e, hd⟩
    · refine ⟨⟨o, I.kIn p o hk, hc⟩, fun a e => ?_⟩
      cases e
      exact ⟨o, I.kIn _ o hk, hd⟩
    · have z : ∃ o, s.heap.get? p = some o ∧ o.ExactDict := by
        rcases hk with ⟨kvs, hk⟩ | ⟨kvs, hk⟩
        · obtain ⟨_, _, _, _, o, _, _, e, ex, _⟩ := I.hok p _ hk
          exact ⟨o, e, ex⟩
        · obtain ⟨_, _, _, _, o, _, _, e, ex, _⟩ := I.hok p _ hk
          exact ⟨o, e, ex⟩
      obtain ⟨o, e, ex⟩ := z
      refine ⟨⟨o, e, ex.1⟩, fun a e2 => ?_⟩
      cases e2
      exact ⟨o, e, ex.2.1⟩
    · obtain ⟨o, _, _, _, e, ex, _⟩ := I.hok p _ hk
      refine ⟨⟨o, e, ex.1⟩, fun a e2 => ?_⟩
      cases e2
      exact ⟨o, e, ex.2.1⟩
  | _ => exact False.elim ty
noncomputable def tBM (K : PySem.W.Frag) (T : String) (r : V → List V → Hp → VK → Prop) (to : TE) (t : TA) : TE := fun σ H Q => to σ H fun x H1 => tyV K T x H1 ∧ t σ H1 fun xs H2 => r x xs H2 Q
variable {o e : Expr} {es : List Expr} {to : TE} {t : TA} {name : Str} {apos cpos : Pos} {T id : String} {r : V → List V → Hp → VK → Prop}
theorem pe_bm (pa : PlainAttrs T) (slot : Slot T name id) (hty : typeOf (.builtin id) = pure (.type "method_descriptor")) (hm : MtR X id r) (ho : PE X o to) (ha : PA X (e :: es) t)
    (hbase : attributeBase o name X.env (eval o X.env) = eval o X.env := by rfl)
    (hfew : ((backTo cpos (starEach (e :: es) X.env)).all (fun x => !x.1) && (backToKw cpos (keywordEach [] X.env)).all (fun x => x.1.isSome)
      && decide ((e :: es).length + ([] : List Keyword).length + (if ([] : List Keyword).isEmpty then 0 else 1) < 30)) = true := by rfl)
    (hline : (apos.endLine == cpos.line) = true := by rfl) (hs : starEach (e :: es) X.env = (false, eval e X.env) :: starEach es X.env := by rfl) (hplain : (backTo cpos (starEach es X.env)).any (·.1) = false := by rfl) :
    PE X (.Call (.Attribute o name apos) (e :: es) [] cpos) (tBM X.K T r to t) := by
  intro pins s σ H Q I h
  refine wpAny_Call_method_late hbase hfew hline rfl (thn (ho pins s σ H _ I h) fun v s1 ⟨x, H1, I1, r1, ty, q1⟩ => ?_)
  obtain ⟨h1, h2⟩ := tyV_is I1 r1 ty
  refine ⟨T, id, pa, slot, hty, h1, h2, ?_⟩
  have hA := ha cpos pins s1 σ H1 _ I1 q1
  rw [hs] at hA ⊢
  refine Calls.callWith_builtin (by show (false || (backTo cpos (starEach es X.env)).any (·.1)) = false; rw [hplain] <;> rfl) (Calls.evalArgs_plain ?_)
  exact thn hA fun us s2 ⟨vs, H2, I2, r2, q2⟩ => hm pins s2 σ H2 x vs v us Q I2 r1 r2 q2
/- xs.append(e), list.index on a module's tuple .. are MtR facts of 06m -/
end
end L2

namespace L2
open PySem PySem.Spec PyProof.Rows

noncomputable def MtM (X : Cx) (id : String) (r : V → List V → Hp → VK → Prop) : Prop :=
  ∀ (pins : List (Addr × Obj)) (s : Shared) (σ : St) (H : Hp) (x : V) (xs : List V) (v : Value) (us : List Value) (Q : VK), Inv X pins σ H s → RelV x v → Vals xs us → r x xs H Q →
    wpAny (model X.prog X.w) X.A (call (.builtin id) (v :: us)) (EP X pins σ Q) X.xe s

theorem Vals.one : ∀ {x : V} {us : List Value}, Vals [x] us → ∃ u, us = [u] ∧ RelV x u
  | _, _, .cons r .nil => ⟨_, rfl, r⟩
theorem Vals.rep {xs : List V} {us : List Value} (h : Vals xs us) : ∀ k : Nat, Vals (List.replicate k xs).flatten (List.replicate k us).flatten
  | 0 => .nil
  | k + 1 => by
    rw [List.replicate_succ, List.replicate_succ, List.flatten_cons, List.flatten_cons]
    exact Vals.append h (Vals.rep h k)
theorem foldl_rep (its : List Value) : ∀ (k : Nat) (acc : List Value),
    List.foldl (fun x1 x2 => x1 ++ x2) acc.toArray (List.replicate k its.toArray) = (acc ++ (List.replicate k its).flatten).toArray
  | 0, acc => by simp
  | k + 1, acc => by
    have e : acc.toArray ++ its.toArray = (acc ++ its).toArray := by simp
    have e2 : (acc ++ its) ++ (List.replicate k its).flatten = acc ++ (List.replicate (k + 1) its).flatten := by
      rw [List.replicate_succ, List.flatten_cons, List.append_assoc]
    rw [← e2, ← foldl_rep its k (acc ++ its), ← e, List.replicate_succ, List.foldl_cons]

section
variable {X : Cx} {pins : List (Addr × Obj)} {σ : St} {H : Hp} {s : Shared} {l b : Addr} {xs ys zs : List V}

theorem Inv.lset {its its' : List Value} {n : Nat} {f : Array Value → Array Value} {t' : Nat} (I : Inv X pins σ H s) (hH : H l = some (.lst xs))
    (e : s.heap.get? l = some { cls := .type "list", data := .seq its.toArray n }) (hf : f its.toArray = its'.toArray) (hv : Vals ys its') (hz : ys.length ≤ sizeLine) :
    Inv X pins σ (upd H l (.lst ys)) { s with heap := s.heap.update l (Obj.mapSeq f), toks := t' } := by
  have q := PySem.IsL.update e f
  rw [hf] at q
  refine I.write (x := l) (e := l) (by rw [hH]; exact trivial) (.inl rfl) (fun b' u hb hu => (Heap.get?_update_other s.heap (Obj.mapSeq f) (Ne.symm hb)).trans hu) ⟨_, q⟩ ?_
  exact ⟨hz, its', _, hv, q⟩
theorem Inv.lnew {its : List Value} {t' : Nat} (I : Inv X pins σ H s) (hv : Vals ys its) (hz : ys.length ≤ sizeLine) :
    Inv X pins σ (upd H s.heap.objs.size (.lst ys)) { s with heap := s.heap.push { cls := .type "list", data := .seq its.toArray }, toks := t' } :=
  I.laid (fun _ _ q => Heap.get?_push_of_some _ q) (Nat.le_refl _) ⟨hz, its, 0, hv, Heap.get?_push_size _ rfl⟩
theorem Inv.fresh (I : Inv X pins σ H s) : H s.heap.objs.size = none := I.hok.fresh (Nat.le_refl _)
theorem Inv.lstM (I : Inv X pins σ H s) (hH : H l = some (.lst xs)) : xs.length ≤ sizeLine ∧ ∃ (its : List Value) (n : Nat), Vals xs its ∧ xs.length = its.length ∧ s.heap.get? l = some { cls := .type "list", data := .seq its.toArray n } := by
  obtain ⟨z, its, n, r, e⟩ := I.hok l _ hH
  exact ⟨z, its, n, r, r.length, e⟩

theorem notLongL {n : Nat} (h : n ≤ sizeLine) : Builtin.List.listTooLong n = false := by
  unfold Builtin.List.listTooLong
  exact decide_eq_false (by (first | lia | omega))
end

section
variable {X : Cx}

noncomputable def rAppend : V → List V → Hp → VK → Prop := fun x vs H Q => ∃ l xs y, x = .ref l ∧ vs = [y] ∧ H l = some (.lst xs) ∧ xs.length < sizeLine ∧ Q .non (upd H l (.lst (xs ++ [y])))
theorem mt_append : MtM X "list.append" rAppend := by
  intro pins s σ H x vs v us Q I rx rv h
  obtain ⟨l, xs, y, rfl, rfl, hH, hz, q⟩ := h
  cases rx
  obtain ⟨u, rfl, ru⟩ := rv.one
  obtain ⟨z, its, n, r, hl, e⟩ := I.lstM hH
  refine call_meets F.slot_list_append ⟨_, e, rfl⟩ F.entry_list_append (F.args_list_append_2 _ _) (PySem.list_append l its.toArray n u (by rw [List.size_toArray]; (first | lia | omega))) ⟨e, ?_⟩
  refine ⟨.non, _, I.lset (its' := its ++ [u]) hH e (by simp) (r.append (.cons ru .nil)) ?_, rfl, q⟩
  rw [List.length_append, List.length_singleton]
  (first | lia | omega)

noncomputable def rCat : R2 := fun x y H Q => ∃ l b xs zs, x = .ref l ∧ y = .ref b ∧ H l = some (.lst xs) ∧ H b = some (.lst zs) ∧ xs.length + zs.length ≤ sizeLine ∧ ∀ p, H p = none → Q (.ref p) (upd H p (.lst (xs ++ zs)))
theorem op_cat : OpR X (binaryOp .Add) rCat := by
  intro pins s σ H x y v u Q I rx ry h
  obtain ⟨l, b, xs, zs, rfl, rfl, hH, hB, hz, q⟩ := h
  cases rx
  cases ry
  obtain ⟨z, its, n, r, hl, e⟩ := I.lstM hH
  obtain ⟨z2, its2, n2, r2, hl2, e2⟩ := I.lstM hB
  refine PySem.P.add_list e e2 ?_ (by rw [List.size_toArray, List.size_toArray]; (first | lia | omega))
  have ea : its.toArray ++ its2.toArray = (its ++ its2).toArray := by simp
  rw [ea]
  exact ⟨.ref _, _, I.lnew (t' := s.toks) (r.append r2) (by rw [List.length_append]; (first | lia | omega)), rfl, q _ I.fresh⟩
noncomputable def rRep : R2 := fun x y H Q => ∃ l k xs, x = .ref l ∧ y = .int k ∧ H l = some (.lst xs) ∧ -(2 ^ 63) ≤ k ∧ k < 2 ^ 63 ∧ xs.length * k.toNat ≤ sizeLine ∧
  ∀ p, H p = none → Q (.ref p) (upd H p (.lst (List.replicate k.toNat xs).flatten))
theorem len_rep {α : Type} (xs : List α) (k : Nat) : (List.replicate k xs).flatten.length = k * xs.length := by
  induction k with
  | zero => simp
  | succ k ih => rw [List.replicate_succ, List.flatten_cons, List.length_append, ih, Nat.succ_mul, Nat.add_comm]
theorem op_rep : OpR X (binaryOp .Mult) rRep := by
  intro pins s σ H x y v u Q I rx ry h
  obtain ⟨l, k, xs, rfl, rfl, hH, h1, h2, hz, q⟩ := h
  cases rx
  obtain ⟨t, rfl⟩ := ry
  obtain ⟨z, its, n, r, hl, e⟩ := I.lstM hH
  have hlen : its.toArray.size * k.toNat ≤ sizeLine := by rw [List.size_toArray, ← hl]; exact hz
  have hcap : ¬ its.toArray.size * k.toNat > (2 ^ 63 - 1) / 8 := by
    have : (sizeLine : Nat) ≤ (2 ^ 63 - 1) / 8 := by decide
    (first | lia | omega)
  have hfit : ¬ (!Builtin.List.listFitsIndex k) = true := by
    rw [fitsIndex_both h1 h2]
    exact Bool.false_ne_true
  have hlong : ¬ Builtin.List.listTooLong (its.toArray.size * k.toNat) = true := by
    rw [notLongL hlen]
    exact Bool.false_ne_true
  have hnew : List.foldl (fun x1 x2 => x1 ++ x2) #[] (List.replicate (if its.toArray.isEmpty = true then 0 else k.toNat) its.toArray) = (List.replicate k.toNat its).flatten.toArray := by
    have f0 : ∀ m : Nat, List.foldl (fun x1 x2 => x1 ++ x2) #[] (List.replicate m its.toArray) = (List.replicate m its).flatten.toArray := fun m => by
      have := foldl_rep its m []
      rw [List.nil_append] at this
      exact this
    rw [f0]
    cases its with
    | nil => simp
    | cons a r' => rw [if_neg (by simp)]
  refine wpAny_binaryOp_repeat_ref (T := "list") (U := "int") (by decide) ⟨_, e, rfl⟩ (fun s' => typeIs_int s' k t) noFill_list_mul F.fills_int_mul F.slot_int_rmul repeat_list F.slot_int_index.lookup
    (call_meets F.slot_int_rmul (typeIs_int s k t) F.entry_int_rmul (F.args_int_rmul_2 _ _) (int___rmul___int_list k t l its.toArray n)
      ⟨e, rfl, ⟨_, e, rfl⟩, call_meets F.slot_list_mul ⟨_, e, rfl⟩ F.entry_list_mul (F.args_list_mul_2 _ _) (AutoListH.list___mul___list_int_3 l its.toArray n k t hfit hcap hlong) ⟨e, ?_⟩⟩)
  rw [hnew]
  exact ⟨.ref _, _, I.lnew (t' := s.toks) (r.rep k.toNat) (by rw [len_rep, Nat.mul_comm]; exact hz), rfl, q _ I.fresh⟩

end

section
variable {prog : Program} {w : World} {A : Around} {E : Value → Shared → Prop} {s : Shared}
end

section
variable {X : Cx}
end
end L2

namespace L2
open PySem PySem.Spec PyProof.Rows

section
variable {κ : Type} [DecidableEq κ]
end


section
variable {P : Program} {w : World} {H : Hp} {h : Heap} {a : Addr}
end

section
variable {X : Cx} {pins : List (Addr × Obj)} {σ : St} {H : Hp} {s : Shared} {a : Addr} {y v : V} {u r : Value} {o : Option V} {A : Around} {E : Value → Shared → Prop}

end

section
variable {X : Cx} {pins : List (Addr × Obj)} {σ : St} {H : Hp} {s : Shared} {a : Addr} {kvs : List (Key × V)} {k : Key} {u : Value} {A : Around} {E : Value → Shared → Prop}
end


section
variable {X : Cx} {o i e value : Expr} {pos pos' tpos : Pos} {td ty tv : TE}
end


section
variable {X : Cx} {pos : Pos}
end

section
variable {X : Cx} {pins : List (Addr × Obj)} {σ : St} {H : Hp} {s : Shared} {a : Addr} {y d : V} {u r : Value} {o : Option V} {A : Around} {E : Value → Shared → Prop}
end

section
variable {X : Cx} {o e f : Expr} {apos cpos : Pos} {td ty tx : TE}
end

section
variable {X : Cx} {pins : List (Addr × Obj)} {σ : St} {H : Hp} {s : Shared} {a : Addr} {kvs : List (Key × V)} {A : Around} {E : Value → Shared → Prop}
end


section
variable {X : Cx} {pins : List (Addr × Obj)} {σ : St} {H : Hp} {s : Shared} {a : Addr} {y : V} {u : Value} {A : Around} {E : Value → Shared → Prop}
end
end L2


namespace Att
open PySem PySem.W PySem.Calls PyProof.Rows

theorem ints_of_wellAll {P : Params} {h : Heap} : ∀ (ns : List Int) (vs : List Value), WellAll P h vs (ns.map WData.int) → IntsAre vs ns := by
  intro ns
  induction ns with
  | nil =>
    intro vs w
    rw [List.map_nil] at w
    cases w
    exact .nil
  | cons n ns ih =>
    intro vs w
    rw [List.map_cons] at w
    cases w with
    | cons a b =>
      cases a
      exact .cons _ _ (ih _ b)

theorem script_of {l : OpenLaw} {n : Nat} (hn : l.most = some n) {P : Params} {h : Heap} {args : List WData} {vals : List Value}
    (hpre : l.row.toRowW.claim.pre args = true) (hwl : WellAll P h vals args) :
    ∃ a vs ns, vals = [Value.ref a] ∧ args = [WData.list (ns.map WData.int)] ∧ h.get? a = some { cls := .type "list", data := .seq vs.toArray } ∧ IntsAre vs ns ∧ ns.length ≤ n := by
  have hsh : WShape.hasAll [] args [.list .int] = true := (pre_splitW hpre).1
  have hc : l.pre.holds [] { args := args } = true := (pre_splitW hpre).2
  obtain ⟨d, r, rfl, h1, h2⟩ := hasAllW_cons hsh
  obtain rfl := hasAllW_nil h2
  obtain ⟨xs, rfl, h3⟩ := hasW_list h1
  obtain ⟨ns, rfl⟩ := items_int h3
  have hlen : ns.length ≤ n := by
    unfold OpenLaw.pre at hc
    have h4 : (WTm.not (.lt (.lit (.int (n : Int))) (.len (.arg 0)))).holds [] { args := [.list (ns.map .int)] } = true := by
      have h4 := (holds_andW hc).1
      rw [hn] at h4
      exact h4
    have h5 := condW_of h4 (w_not (w_lt w_lit (w_len_list (w_arg rfl))))
    rw [List.length_map] at h5
    refine Nat.le_of_not_lt fun q => ?_
    have q' : (n : Int) < ((ns.length : Nat) : Int) := by (first | lia | omega)
    first
      | (rw [decide_eq_true q'] at h5; exact absurd h5 (by decide))
      | (simp at h5; (first | lia | omega))
  cases hwl with
  | cons w1 w2 =>
    cases w2
    cases w1 with
    | list ho hall => exact ⟨_, _, ns, rfl, rfl, ho, ints_of_wellAll ns _ hall, hlen⟩

theorem post_true (l : OpenLaw) (args : List WData) : l.row.toRowW.claim.post args (.bool true) args = true :=
  postW_of (r := l.row.toRowW) (X := (true == true))
    (show WShape.has [] (.bool true) .bool = true by first | rfl | decide | simp [WShape.has, WShape.arms, WShape.armsAll])
    (show (WTm.eq .res (.lit (.bool true))).value [] { args := args, res := some (.bool true), after := args } = some (.bool (true == true)) from w_eq_bool (w_res rfl) w_lit) rfl

theorem attach_call {l : OpenLaw} {n : Nat} {q : Program} {loose : List Str} {XP : (Str → Option Value) → Heap → Prop} {YP : World → Heap → Prop} {d : DefRec}
    (hn : l.most = some n) (hdf : d.params.defaults = [])
    (call : ∀ (w : World) (s₀ s₁ : Shared) (mg mb : Str → Option Value) (fa : Addr) (o : Obj) (pm cd doc : Value) (a : Addr) (vs : List Value) (ns : List Int),
      Ground q loose [] XP w s₀ mg mb s₁.heap → YP w s₁.heap →
      s₁.heap.get? fa = some o → o.data = .func (docDef d.name d.params d.body d.scope pm cd doc) → s₁.heap.CodeRec cd d.name → mg d.name = some (.ref fa) →
      s₁.heap.get? a = some { cls := .type "list", data := .seq vs.toArray } → IntsAre vs ns → ns.length ≤ n → s₁.gens = #[] →
      codeAny (model l.prog w) callerA (.call (.ref fa) ⟨[.ref a], []⟩) (fun r s' => r = .ok (.ret (.bool true)) ∧ OldK s₁.heap s'.heap ∧ s'.os = s₁.os ∧ AllBare s'.gens) s₁) :
    WalkO q loose XP YP l.row.toRowW d [] (fun f vs => PySem.call f vs) := by
  intro w s₀ s₁ mg mb G Y fa o pm cd doc dV kV ho hd hcd hD hmg hg args vals as hpre hlay hrd hwl hlo
  obtain rfl : dV = .none := Dflts.none hD hdf
  obtain rfl : kV = .none := Dflts.noKw hD
  obtain ⟨a, vs, ns, rfl, rfl, hobj, hints, hlen⟩ := script_of hn hpre hwl
  refine enter_call (codeAny_mono (call w s₀ s₁ mg mb fa o pm cd doc a vs ns G Y ho (fd_plain hd) hcd hmg hobj hints hlen hg) fun r s' hq => ?_)
  obtain ⟨rfl, h2, h3, h4⟩ := hq
  exact ⟨.inl ⟨.bool true, .bool true, [], rfl, fun _ => rfl, .bool true, post_true l _, fun _ => ⟨List.Pairwise.nil, fun _ hm => (nomatch hm)⟩⟩, h2, h3, h4⟩

section
variable {prog : Program} {w : World} {A : Around} {E : Value → Shared → Prop} {s : Shared} {K : Frag}

end
end Att

namespace L2
open PySem PySem.Spec PyProof.Rows

theorem vals_ints : ∀ {vs : List Value} {ns : List Int}, IntsAre vs ns → Vals (ns.map V.int) vs
  | _, _, .nil => .nil
  | _, _, .cons n t h => .cons ⟨t, rfl⟩ (vals_ints h)

noncomputable def Only (H : Hp) : Prop := ∀ b, H b = none ∨ ∃ o xs, H b = some (.frz o (.lst xs))

theorem law_call {P : Program} {w : World} {K : PySem.W.Frag} {mg mb : Str → Option Value} {CX : CXT} {k : Nat} {fa a : Addr} {fd : FuncData} {x : Str} {sp : Sp} {s₁ : Shared} {vs : List Value} {ns : List Int}
    (KX : K.In s₁.heap) (hns : s₁.heap.Ns mainGlobals mg) (hb : s₁.heap.Ns builtinsNs mb) (hbb : ∀ x : Str, x ≠ "__name__" → mb x = bootBuiltins x) (hlim : s₁.heap.NoLimit) (hg : s₁.gens = #[])
    (ha : s₁.heap.get? a = some { cls := .type "list", data := .seq vs.toArray }) (hi : IntsAre vs ns) (hl : ns.length ≤ sizeLine) (hr : Room k callerA)
    (F : ∀ base : Heap, K.In base → base.Ns mainGlobals mg → FnOk P w K mg base CX k fa fd [x] sp) (hbind : ∀ (s : Shared) (u : Value), BindsTo s fd ⟨[u], []⟩ [(x, u)])
    (hsp : ∀ H : Hp, Only H → SqL K H a (ns.map V.int) → sp [.ref a] H (fun v _ => v = .bl true) fun _ _ _ => False)
    (hCX : ∀ H e s', CX [] H s₁ (fun _ _ _ => False) e s' → False) :
    codeAny (model P w) callerA (.call (.ref fa) ⟨[.ref a], []⟩) (fun r s' => r = .ok (.ret (.bool true)) ∧ OldK s₁.heap s'.heap ∧ s'.os = s₁.os ∧ AllBare s'.gens) s₁ := by
  have rv := vals_ints hi
  have lenV := hi.length
  -- from an abstract heap in which nothing but the script may be tracked
  have core : ∀ H : Hp, Only H → SqL K H a (ns.map V.int) → HOk P w H s₁.heap → (∀ b, H b ≠ none → b = a) → (H a ≠ none → K.lookup a = none) →
      codeAny (model P w) callerA (.call (.ref fa) ⟨[.ref a], []⟩) (fun r s' => r = .ok (.ret (.bool true)) ∧ OldK s₁.heap s'.heap ∧ s'.os = s₁.os ∧ AllBare s'.gens) s₁ := by
    intro H hO hS hok hA hK
    have base_of : ∀ {b : Addr} {o : Obj}, s₁.heap.get? b = some o → H b = none → (hidT s₁.heap H).get? b = some o := fun e n => hidT_get e n
    have noA : ∀ {b : Addr} {o : Obj} {es : Array DictEntry} {ep : Nat}, s₁.heap.get? b = some o → o.data = .dict es ep → H b = none := fun {b o es ep} e d => by
      cases q : H b with
      | none => rfl
      | some u =>
        have e' : b = a := hA b (by rw [q]; simp)
        subst e'
        rw [ha] at e; cases e
        have d' : Data.seq vs.toArray _ = Data.dict es ep := d
        cases d'
    have nsK : ∀ {b : Addr} {m : Str → Option Value}, s₁.heap.Ns b m → (hidT s₁.heap H).Ns b m := fun {b m} ⟨o, es, ep, e, d, r⟩ => ⟨o, es, ep, base_of e (noA e d), d, r⟩
    have hKb : K.In (hidT s₁.heap H) := fun b o e => base_of (KX b o e) (by
      cases q : H b with
      | none => rfl
      | some u =>
        have e' : b = a := hA b (by rw [q]; simp)
        subst e'
        rw [hK (by rw [q]; simp)] at e; cases e)
    have hM : Mod K mg (hidT s₁.heap H) := ⟨hKb, nsK hns, ⟨mb, nsK hb, hbb⟩, let ⟨mc, h1, h2⟩ := hlim; ⟨mc, nsK h1, h2⟩⟩
    have e0 : Env0 P w K mg (hidT s₁.heap H) callerA [] s₁ H := ⟨rfl, hM, fun b o e => of_hidT e, Nat.le_of_eq (hidT_size _ _), trivial, fun b hb => absurd (show b ∈ ([] : List Addr) from hb) (by simp), hok, .of_eq hg⟩
    refine codeAny_mono ((F _ hKb (nsK hns)).run callerA [] s₁ H ⟨[.ref a], []⟩ [.ref a] [.ref a] _ _ hr e0 (hbind s₁ (.ref a)) (.cons rfl .nil) (hsp H hO hS)) fun r s' h => ?_
    cases r with
    | error e => exact (hCX H e s' h).elim
    | ok fl =>
      cases fl with
      | next => exact False.elim h
      | brk => exact False.elim h
      | cont => exact False.elim h
      | ret u =>
        obtain ⟨v, H', os, bare, un, hok', r', q⟩ := h
        have q' : v = .bl true := q
        subst q'
        obtain rfl : u = Value.bool true := r'
        refine ⟨rfl, OldK.of_keep fun b o e => ?_, os, bare⟩
        cases q : H b with
        | none => exact un.keep b o e q (by intro z; exact absurd (show b ∈ ([] : List Addr) from z) (by simp)) (by simp)
        | some u =>
          rcases hO b with z | ⟨ob, xs, z⟩
          · rw [q] at z; cases z
          · have z2 := un.frzs b ob _ z
            obtain ⟨e1, _⟩ := hok b _ z
            obtain ⟨e2, _⟩ := hok' b _ z2
            rw [e] at e1; cases e1
            exact e2
  cases hk : K.lookup a with
  | some o =>
    -- the script is one of the module's own objects
    have e := KX a o hk
    rw [ha] at e
    cases e
    refine core (fun _ => none) (fun _ => .inl rfl) (.inr ⟨_, vs.toArray, _, hk, rfl, rfl, rfl, by rw [List.size_toArray, lenV]; exact hl, by simpa using rv⟩) (fun b u z => by have z' : (none : Option HO) = some u := z; cases z') (fun b z => absurd rfl z) fun z => absurd rfl z
  | none =>
    refine core (fun b => if b = a then some (.frz { cls := .type "list", data := .seq vs.toArray } (.lst (ns.map V.int))) else none) (fun b => ?_) (.inl (.inr ⟨{ cls := .type "list", data := .seq vs.toArray }, if_pos rfl⟩)) (fun b u z => ?_) (fun b z => ?_) fun _ => hk
    · by_cases hb : b = a
      · exact .inr ⟨_, _, if_pos hb⟩
      · exact .inl (if_neg hb)
    · by_cases hb : b = a
      · have z' := (if_pos hb).symm.trans z
        cases z'
        subst hb
        exact ⟨ha, by rw [List.length_map]; exact hl, vs, _, rv, ha⟩
      · have z' := (if_neg hb).symm.trans z
        cases z'
    · by_cases hb : b = a
      · exact hb
      · exact absurd (if_neg hb) z
end L2

namespace L2
open PySem PySem.Spec PyProof.Rows

theorem walk_of {l : PySem.W.OpenLaw} {n k : Nat} {q : Program} {loose : List Str} {XP : (Str → Option Value) → Heap → Prop} {YP : World → Heap → Prop} {d : DefRec} {K : Params → PySem.W.Frag} {CX : World → CXT} {sp : World → Sp} {x : Str}
    (hn : l.most = some n) (hn2 : n ≤ sizeLine) (hdf : d.params.defaults = []) (hr : Room k callerA)
    (hY : ∀ (w : World) (h : Heap), YP w h → (K w.params).In h)
    (F : ∀ (w : World) (mg : Str → Option Value) (fa : Addr) (h : Heap), (K w.params).In h → h.Ns mainGlobals mg → mg d.name = some (.ref fa) →
      ∃ fd : FuncData, (∀ (s : Shared) (u : Value), BindsTo s fd ⟨[u], []⟩ [(x, u)]) ∧
        ∀ base : Heap, (K w.params).In base → base.Ns mainGlobals mg → FnOk l.prog w (K w.params) mg base (CX w) k fa fd [x] (sp w))
    (hsp : ∀ (w : World) (H : Hp) (a : Addr) (ns : List Int), ns.length ≤ n → Only H → SqL (K w.params) H a (ns.map V.int) → sp w [.ref a] H (fun v _ => v = .bl true) fun _ _ _ => False)
    (hCX : ∀ (w : World) (H : Hp) (s : Shared) (e : Value) (s' : Shared), CX w [] H s (fun _ _ _ => False) e s' → False) :
    PySem.W.WalkO q loose XP YP l.row.toRowW d [] (fun f vs => PySem.call f vs) := by
  refine Att.attach_call hn hdf fun w s₀ s₁ mg mb fa o pm cd doc a vs ns G Y ho hd hcd hmg hobj hints hlen hg => ?_
  have KX := hY w _ Y
  obtain ⟨fd, hb, hF⟩ := F w mg fa _ KX G.T.g hmg
  exact law_call KX G.T.g G.T.b G.T.builtins G.T.nolimit hg hobj hints (Nat.le_trans hlen hn2) hr hF hb (fun H hO hS => hsp w H a ns hlen hO hS) fun H e s' => hCX w H s₁ e s'
end L2

/- THE LAST THEOREM (shape; LID, My.* are yours):
   My.Adr: a structure of the addresses that your layer names (classes, functions); My.Txt K t: a structure (Prop) of the equations over K;
   My.txt_mk : {K} {implicit addresses ..} (e1 : nsIn K mainGlobals "law" = some (some (.ref f))) (e2 : K.lookup f = some ⟨oc, od, .func (fnOf "law" "law" params body scope dV kV doc pm an cdv ct), sl⟩) (e3 : codeIn K cdv "law" = true) .. : ∃ t, My.Txt K t

set_option maxRecDepth 100000 in
set_option maxHeartbeats 0 in
theorem PySem.Challenge.cw_LID_holds : PySem.Challenge.rw_LID.Holds := by
  w_on; o_law; k_head; (case hw => w_witness2)
  k_fill
  refine L2.walk_of (l := PySem.Challenge.rw_LID) (n := 63) (k := 40) (x := "script") (CX := fun w => ..) (sp := fun _ => My.sp_law) rfl (by decide) rfl ⟨rfl, by decide, by decide⟩ (fun w h Y => PySem.W.kIn_of Y) ?F ?S ?C
  case F =>
    intro w mg fa h KX G hmg
    have T : ∃ t, My.Txt (L2.KOf KX) t := by
      dsimp only [L2.KOf]                          -- K must stand as «<heap const> w.params» for k_is
      refine' My.txt_mk ?e1 ?e2 ?e3 ..
      (case e1 => PySem.W.k_is)                    -- in the order: a name -> its address -> its object -> its parts
      (case e2 => PySem.W.k_is)
      ..
    obtain ⟨t, T⟩ := T
    have e0 := hmg.symm.trans (PySem.W.mg_of KX G T.law)
    cases e0                                       -- fa is the law's own address
    exact ⟨_, fun s u => .of_eq rfl, fun base kb nb => My.law_fn T kb nb⟩     -- if «.of_eq rfl» comes too early: refine' ⟨_, ?b, fun base kb nb => My.law_fn T kb nb⟩; exact fun s u => .of_eq rfl
  case S => exact fun w H a ns hl hO hS => ..
  case C => exact ..
(the tactic k_is has no namespace: write k_is) -/

namespace L2
open PySem PySem.Spec PyProof.Rows

noncomputable def defArgs (s : Stmt) : Arguments := match s with
  | .FunctionDef _ a _ _ _ _ _ _ _ _ => a
  | _ => { posonlyargs := [], args := [], vararg := none, kwonlyargs := [], kw_defaults := [], kwarg := none, defaults := [] }
noncomputable def defBody (s : Stmt) : List Stmt := match s with
  | .FunctionDef _ _ b _ _ _ _ _ _ _ => b
  | _ => []
noncomputable def defScope (s : Stmt) : Scope := match s with
  | .FunctionDef _ _ _ _ _ _ sc _ _ _ => sc
  | _ => { kind := .function, names := [], isGenerator := false, isCoroutine := false }

noncomputable abbrev CX0 : CXT := fun _ _ _ _ _ _ => False
noncomputable abbrev E0 : XK := fun _ _ _ => False
theorem pass0 {X : Cx} : Passes CX0 X E0 := fun _ _ _ _ _ _ _ h => h.elim

structure Fun (K : PySem.W.Frag) (x qual : Str) (st : Stmt) (f : Addr) (fd : FuncData) : Prop where
  ex : ∃ (oc : Value) (od : Option Addr) (kV doc pm : Value) (an : Option Addr) (cdv ct : Value) (osl : Array (Option Value)),
    fd = PySem.W.fnOf x qual (defArgs st) (defBody st) (defScope st) .none kV doc pm an cdv ct ∧ K.lookup f = some ⟨oc, od, .func fd, osl⟩ ∧ PySem.W.codeIn K cdv qual = true
  kp : PySem.W.keepIn K (.ref f) = true
section
variable {P : Program} {w : World} {K : PySem.W.Frag} {mg : Str → Option Value} {base : Heap}
theorem Fun.ok {x qual : Str} {st : Stmt} {f : Addr} {fd : FuncData} {N ps : List Str} {k : Nat} {sp : Sp} (F : Fun K x qual st f fd) (S : FnScope N ps (defScope st)) (len : ∀ vs H Q E, sp vs H Q E → vs.length = ps.length)
    (hbody : ∀ (cdv : Value) (A : Around) (outer : List Env) (s : Shared) (H : Hp) (vs : List V) (Q : VK) (E : XK), Room k (A.deeper (envOfC qual (defScope st) s.heap.objs.size f cdv)) → sp vs H Q E →
      ∃ t, PSs (cxOf CX0 P w K mg base N qual (defScope st) f cdv A outer s H E).nox (defBody st) t ∧ t { nx := fun _ H' => Q .non H', rt := Q } (start N vs) H) : FnOk P w K mg base CX0 (k + 1) f fd ps sp := by
  obtain ⟨oc, od, kV, doc, pm, an, cdv, ct, osl, rfl, lk, hcd⟩ := F.ex
  refine fn_of lk hcd S len fun A outer s H vs Q E hr hsp => ?_
  obtain ⟨t, h, q⟩ := hbody cdv A outer s H vs Q E hr hsp
  exact ⟨t, h.nox, q⟩
theorem Fun.binds {x qual : Str} {st : Stmt} {f : Addr} {fd : FuncData} {ps : List Str} (F : Fun K x qual st f fd)
    (h : ∀ (kV doc pm : Value) (an : Option Addr) (cdv ct : Value) (us : List Value), us.length = ps.length → bindArgs (PySem.W.fnOf x qual (defArgs st) (defBody st) (defScope st) .none kV doc pm an cdv ct) ⟨us, []⟩ = pure (ps.zip us)) : Binds K fd ps [] := by
  obtain ⟨oc, od, kV, doc, pm, an, cdv, ct, osl, rfl, lk, hcd⟩ := F.ex
  exact .all (h kV doc pm an cdv ct)
theorem fun_mk {x qual : Str} {st : Stmt} {f : Addr} {oc : Value} {od an : Option Addr} {osl : Array (Option Value)} {kV doc pm cdv ct : Value} (l : K.lookup f = some ⟨oc, od, .func (PySem.W.fnOf x qual (defArgs st) (defBody st) (defScope st) .none kV doc pm an cdv ct), osl⟩)
    (c : PySem.W.codeIn K cdv qual = true) (k : PySem.W.keepIn K (.ref f) = true) : Fun K x qual st f (PySem.W.fnOf x qual (defArgs st) (defBody st) (defScope st) .none kV doc pm an cdv ct) := ⟨⟨oc, od, kV, doc, pm, an, cdv, ct, osl, rfl, l, c⟩, k⟩
end
section
variable {X : Cx}
theorem pv (i : Nat) {x : Str} {pos : Pos} (hN : X.N[i]? = some x := by rfl) (hv : Vis X.env.scope x := by first | exact Or.inl rfl | exact Or.inr (Or.inl rfl) | exact Or.inr (Or.inr rfl)) (hd : (x == ("__debug__" : Str)) = false := by decide)
    (hcd : (x == ("__classdict__" : Str)) = false := by decide) : PE X (.Name x pos) (tVar i) := pe_var hN hv hd hcd
end

theorem iteF {A B : Prop} (h : B) : if false = true then A else B := by
  rw [if_neg Bool.false_ne_true]
  exact h
theorem iteT {A B : Prop} (h : A) : if true = true then A else B := by
  rw [if_pos rfl]
  exact h
theorem ite2 {c A B : Prop} [Decidable c] (h1 : c → A) (h2 : ¬ c → B) : if c then A else B := by
  by_cases h : c
  · rw [if_pos h]
    exact h1 h
  · rw [if_neg h]
    exact h2 h
theorem iteNS {c A B : Prop} [Decidable c] (hc : c) (h : B) : if (!decide c) = true then A else B := by
  rw [decide_eq_true hc]
  exact iteF h

noncomputable def Same (H H' : Hp) : Prop := ∀ b o, H b = some o → H' b = some o
theorem Same.refl (H : Hp) : Same H H := fun _ _ h => h
theorem Same.trans {H H1 H2 : Hp} (a : Same H H1) (b : Same H1 H2) : Same H H2 := fun c o h => b c o (a c o h)
theorem Same.free {H H' : Hp} (e : Same H H') {l : Addr} (h : H' l = Option.none) : H l = Option.none := by
  cases q : H l with
  | none => rfl
  | some o =>
    rw [e l o q] at h
    cases h
theorem Same.seq {K : PySem.W.Frag} {H H' : Hp} {a : Addr} {xs : List V} (e : Same H H') (h : SqL K H a xs) : SqL K H' a xs := by
  rcases h with (h | ⟨o, h⟩) | h
  · exact .inl (.inl (e _ _ h))
  · exact .inl (.inr ⟨o, e _ _ h⟩)
  · exact .inr h

end L2


namespace L2
open PySem PySem.Spec PyProof.Rows
section
variable {X : Cx}
end
section
variable {κ : Type} [DecidableEq κ]
end
end L2
namespace L2
open PySem PySem.Spec PyProof.Rows

theorem objOk_get {P : Program} {w : World} {H : Hp} {h : Heap} {a : Addr} {o : HO} (x : ObjOk P w H h a o) : ∃ u, h.get? a = some u := by
  cases o with
  | lst xs => obtain ⟨_, _, _, _, e⟩ := x; exact ⟨_, e⟩
  | tup xs => obtain ⟨_, _, _, _, u, e, _⟩ := x; exact ⟨u, e⟩
  | dK kvs => obtain ⟨_, _, _, _, u, _, _, e, _⟩ := x; exact ⟨u, e⟩
  | dT kvs => obtain ⟨_, _, _, _, u, _, _, e, _⟩ := x; exact ⟨u, e⟩
  | set S n => obtain ⟨u, _, _, _, e, _⟩ := x; exact ⟨u, e⟩
  | ins C dx fs => obtain ⟨_, _, _, e, _⟩ := x; exact ⟨_, e⟩
  | own y => exact x
  | xd fs => obtain ⟨_, ⟨u, _, _, e, _⟩, _⟩ := x; exact ⟨u, e⟩
  | rng lo hi => obtain ⟨_, _, _, e⟩ := x; exact ⟨_, e⟩
  | frz ob u => obtain ⟨e, _⟩ := x; exact ⟨_, e⟩
  | tbl ps => exact ⟨_, x⟩
  | met f y => exact ⟨_, x⟩
  | ext φ => obtain ⟨_, e, _⟩ := x; exact e

theorem free_of_none {P : Program} {w : World} {H : Hp} {h : Heap} {a : Addr} (x : HOk P w H h) (e : h.get? a = none) : H a = none := by
  cases q : H a with
  | none => rfl
  | some o =>
    obtain ⟨u, z⟩ := objOk_get (x a o q)
    rw [e] at z
    cases z

noncomputable def CXr (P : Program) (w : World) : CXT := fun outer H s E e s' =>
  ∃ (a t : Addr) (cls : Value) (B : Heap) (H' : Hp), e = .ref a ∧ s'.os = s.os ∧ AllBare s'.gens ∧ Un (frs outer) [] H H' s.heap s'.heap ∧
    (∀ b o, s.heap.get? b = some o → H b = none → b ∉ frs outer → B.get? b = some o) ∧ (∀ b o, s.heap.get? b = some o → b ∉ frs outer → ∃ o', B.get? b = some o') ∧
    HOk P w H' B ∧ Heap.FlyingW B outer a cls (.ref t) s'.heap ∧ s.heap.get? a = none ∧ H' a = none ∧ E cls none H'

theorem passR0 {P : Program} {w : World} {X : Cx} : Passes (CXr P w) X E0 := fun _ _ _ _ _ _ _ h => by
  obtain ⟨_, _, _, _, _, _, _, _, _, _, _, _, _, _, _, z⟩ := h
  exact False.elim z

section
variable {X : Cx} {pins : List (Addr × Obj)} {σ : St} {H : Hp} {s s' : Shared} {E : XK} {e : Value}
end

section
variable {P : Program} {w : World} {K : PySem.W.Frag} {mg : Str → Option Value} {base : Heap} {N : List Str} {qual : Str} {scope : Scope} {f : Addr} {cd : Value} {A : Around} {outer : List Env} {s₀ : Shared} {H₀ : Hp} {E : XK}
noncomputable def RaiseOut (X : Cx) (E : XK) : Prop := ∀ (pins : List (Addr × Obj)) (σ : St) (H : Hp) (s : Shared) (h' : Heap) (a : Addr) (cls : Value) (vs : List Value),
  Inv X pins σ H s → Heap.MadeExcOf s.heap h' a cls vs → E cls none H → X.xe (.ref a) { s with heap := h' }
theorem raise_out : RaiseOut (cxOf (CXr P w) P w K mg base N qual scope f cd A outer s₀ H₀ E) E := by
  intro pins σ H s h' a cls vs I hx hE
  have nex : ∀ b : Addr, b ∉ ([] : List Addr) := fun b z => by simp at z
  have nfr : ∀ b o, H b = some o → b ∉ frs (envOfC qual scope s₀.heap.objs.size f cd :: outer) := fun b o q z => by
    have := I.stkFree b z
    rw [q] at this
    cases this
  have noL : ∀ b o, s₀.heap.get? b = some o → b ∉ frs outer → b ∉ frs (envOfC qual scope s₀.heap.objs.size f cd :: outer) := fun b o q hb z => by
    rcases List.mem_cons.mp (I.stkSub b z) with z | z
    · exact absurd (Heap.lt_size q) (by rw [z]; exact Nat.lt_irrefl _)
    · exact hb z
  have hokB : HOk P w H (PySem.W.hideAll s.heap (frs (envOfC qual scope s₀.heap.objs.size f cd :: outer))) := fun b o q =>
    (I.hok b o q).stay (fun c v hc z => PySem.W.hideAll_get _ z (by
      rcases hc with hc | hc
      · rw [hc]; exact nfr b o q
      · exact nfr c _ hc)) (fun _ z => z) fun _ _ z => z
  have kB : ∀ b o, s₀.heap.get? b = some o → H₀ b = none → b ∉ frs outer → (PySem.W.hideAll s.heap (frs (envOfC qual scope s₀.heap.objs.size f cd :: outer))).get? b = some o := fun b o q n hb =>
    PySem.W.hideAll_get _ (I.base.keep b o q n hb (nex b)) (noL b o q hb)
  have tB : ∀ b o, s₀.heap.get? b = some o → b ∉ frs outer → ∃ o', (PySem.W.hideAll s.heap (frs (envOfC qual scope s₀.heap.objs.size f cd :: outer))).get? b = some o' := fun b o q hb => by
    obtain ⟨o1, q1⟩ := I.base.there b o q (nex b)
    exact ⟨o1, PySem.W.hideAll_get _ q1 (noL b o q hb)⟩
  have na : s₀.heap.get? a = none := by
    cases q : s₀.heap.get? a with
    | none => rfl
    | some o =>
      obtain ⟨o1, q1⟩ := I.base.there a o q (nex a)
      rw [hx.new] at q1
      cases q1
  refine wpAny_leaves_madeW (s := { s with heap := h' }) I.ok.frames rfl (fun b o q => PySem.W.of_hideAll _ q) (PySem.W.funFrames_hide I.stack fun env he b hb => List.mem_filterMap.mpr ⟨env, he, hb⟩) hx fun h'' t fl _ _ up =>
    ⟨a, t, cls, _, H, rfl, I.os, I.bare, ?_, kB, tB, hokB, fl, na, free_of_none I.hok hx.new, hE⟩
  have slot' : ∀ b o, s₀.heap.get? b = some o → H₀ b = none → b ∈ frs outer → ∃ sl, h''.get? b = some { o with slots := sl } := fun b o q n hb => by
    obtain ⟨sl, q1⟩ := I.base.slot b o q n hb (nex b)
    obtain ⟨_, o2, q3, nf⟩ := I.funs.mem hb
    rw [q1] at q3
    cases q3
    obtain ⟨sl2, q4⟩ := up b _ (hx.keeps b _ q1) nf
    exact ⟨sl2, q4⟩
  refine ⟨fun b o q n hb _ => fl.1 b o (kB b o q n hb), fun b o q n hb _ => slot' b o q n hb, fun b o q n _ => I.base.free b o q n (nex b), fun b o q _ => ?_, I.base.tups, I.base.frzs, I.base.tbls⟩
  by_cases hb : b ∈ frs outer
  · obtain ⟨sl, q1⟩ := slot' b o q (I.ok.frf b hb) hb
    exact ⟨_, q1⟩
  · obtain ⟨o1, q1⟩ := tB b o q hb
    exact ⟨o1, fl.1 b o1 q1⟩
end

theorem okX {P : Program} {w : World} {K : PySem.W.Frag} {mg : Str → Option Value} {base : Heap} {x qual : Str} {st : Stmt} {f : Addr} {fd : FuncData} {N ps : List Str} {k : Nat} {sp : Sp} (F : Fun K x qual st f fd) (S : FnScope N ps (defScope st))
    (len : ∀ vs H Q E, sp vs H Q E → vs.length = ps.length)
    (hbody : ∀ (cdv : Value) (A : Around) (outer : List Env) (s : Shared) (H : Hp) (vs : List V) (Q : VK) (E : XK), Room k (A.deeper (envOfC qual (defScope st) s.heap.objs.size f cdv)) → sp vs H Q E →
      ∃ t, PSs (cxOf (CXr P w) P w K mg base N qual (defScope st) f cdv A outer s H E) (defBody st) t ∧ t { nx := fun _ H' => Q .non H', rt := Q } (start N vs) H) : FnOk P w K mg base (CXr P w) (k + 1) f fd ps sp := by
  obtain ⟨oc, od, kV, doc, pm, an, cdv, ct, osl, rfl, lk, hcd⟩ := F.ex
  exact fn_of lk hcd S len fun A outer s H vs Q E hr hsp => hbody cdv A outer s H vs Q E hr hsp

theorem exc_cls {K : PySem.W.Frag} {h : Heap} {C : Addr} {bm : List Value} {newId : String} (X : K.In h) (q : PySem.W.excIn K C bm newId = true) :
    ∃ tl N nm qn bs hdct sn sub ab col dd k0 k1 k2 k3 k5 mN, h.get? C = some (excClassObj nm qn C N bs tl hdct sn sub ab col dd k0 k1 k2 k3 k5 newId) ∧ h.Ns N mN ∧ mN "__init__" = none ∧ OwnTail h bm tl := by
  unfold PySem.W.excIn at q
  split at q
  case h_2 => cases q
  case h_1 dd cd sl ho =>
    split at q
    case h_2 => cases q
    case h_1 C' tl k0 k1 k2 k3 n k5 hm hs =>
      simp only [Bool.and_eq_true, beq_iff_eq, Bool.not_eq_true'] at q
      obtain ⟨⟨⟨⟨⟨e1, e2⟩, hdel⟩, ht⟩, hok⟩, hni⟩ := q
      subst e1
      subst e2
      obtain ⟨nm, bs, mro, ns, qn, hd, sn, sub, ab, col, del⟩ := cd
      obtain ⟨sl⟩ := sl
      dsimp only at hm hdel hok hni hs
      subst hm
      subst hdel
      subst hs
      exact ⟨tl, ns, nm, qn, bs, hd, sn, sub, ab, col, dd, k0, k1, k2, k3, k5, _, X _ _ ho, .of_isNs (PySem.W.isNs_of_in X hok), PySem.W.nsMap_none_of_in X hok hni, PySem.W.tail_of_in X ht⟩

noncomputable def tRaise (C : Addr) (E : XK) (ta : TA) : TS := fun _ σ H => ta σ H fun vs H1 => vs.length ≤ sizeLine ∧ E (.ref C) none H1
theorem ps_raise {X : Cx} {x : Str} {C : Addr} {e0 : PySem.Expr} {rest : List PySem.Expr} {ta : TA} {B newId initId : String} {bm : List Value} {E : XK} {np cpos pos : Pos} (hg : Gl X x) (hm : X.mg x = some (.ref C)) (q : PySem.W.excIn X.K C bm newId = true)
    (FB : ExcBaseFacts B newId initId bm) (hc : X.calm = true) (ho : RaiseOut X E) (ha : PA X (e0 :: rest) ta) (hdb : (x == ("__debug__" : Str)) = false := by decide)
    (he : starEach (e0 :: rest) X.env = (false, eval e0 X.env) :: starEach rest X.env := by rfl) (hpl : (backTo cpos (starEach rest X.env)).any (·.1) = false := by rfl) :
    PS X (.Raise (some (.Call (.Name x np) (e0 :: rest) [] cpos)) none pos) (tRaise C E ta) := by
  intro pins s σ H D I h
  obtain ⟨tl, N, nm, qn, bs, hdct, sn, sub, ab, col, dd, k0, k1, k2, k3, k5, mN, hC, hN, hni, TL⟩ := exc_cls I.ok.mod.kin q
  refine wpAny_Raise_call_subT (C := C) (nm := nm) (q := qn) (N := N) (bs := bs) (bm := tl) (hdct := hdct) (sn := sn) (sub := sub) (ab := ab) (col := col) (dd := dd) (k0 := k0) (k1 := k1) (k2 := k2) (k3 := k3) (k5 := k5)
    FB (mN := mN) (TL.hasType FB.hasBase) (I.ok.hd hc) ?_ hni (ld_glob I hg hm ⟨rfl, ?_⟩ hdb)
  · rw [he]
    show (false || (backTo cpos (starEach rest X.env)).any (·.1)) = false
    rw [hpl]
    rfl
  · have hargs := ha cpos pins s σ H _ I h
    rw [he] at hargs ⊢
    refine Calls.evalArgs_plain (thn hargs fun us s1 ⟨vs, H1, I1, r, z, q1⟩ => ⟨rfl, ?_, I1.bk _ _ hC, hN.keeps I1.bk, TL.keeps I1.bk, fun h' e hx => ho pins σ H1 s1 h' e _ us I1 hx q1⟩)
    rw [← r.length]
    exact z

end L2
namespace L2
open PySem PySem.Spec PyProof.Rows

noncomputable def cxComp (X : Cx) (scope : Scope) (cl : List (Str × Addr)) (C : Addr) (Nc : List Str) (ex : List Addr) (pins : List (Addr × Obj)) (s₀ : Shared) (H₀ : Hp) : Cx where
  prog := X.prog
  w := X.w
  K := X.K
  mg := X.mg
  base := X.base
  A := X.A
  N := Nc
  s₀ := s₀
  H₀ := H₀
  env := compEnvC scope cl C X.env
  outer := X.stack
  stack := X.stack
  ex := ex
  fn := fun y => scope.names.lookup y == some .local
  calm := true
  pn := X.pn ++ pins
  xe := fun _ _ => False

structure CompScope (X : Cx) (scope : Scope) (cl : List (Str × Addr)) (Nc : List Str) (cap : List (Nat × Nat)) : Prop where
  clos : closureFor scope X.env = pure cl
  kind : scope.kind = .function
  names : ∀ y ∈ scope.names, y.2 = .local → scope.names.lookup y.1 = some .local
  nocell : ∀ y ∈ scope.names, y.2 ≠ .cell
  sub : ∀ x c, cl.lookup x = some c → X.env.cells.lookup x = some c ∧ scope.names.lookup x ≠ some .local
  has : ∀ x, ((relabel scope X.env).names.lookup x = some .cell ∨ (relabel scope X.env).names.lookup x = some .free) → ∃ c, cl.lookup x = some c
  caps : ∀ j i, (j, i) ∈ cap → ∃ x c, Nc[j]? = some x ∧ X.N[i]? = some x ∧ cl.lookup x = some c ∧ X.env.scope.names.lookup x = some .cell ∧ (relabel scope X.env).names.lookup x = some .cell

theorem comp_mk {X : Cx} {scope : Scope} {cl : List (Str × Addr)} {Nc : List Str} {cap : List (Nat × Nat)} (clos : closureFor scope X.env = pure cl) (kind : scope.kind = .function) (names : ∀ y ∈ scope.names, y.2 = .local → scope.names.lookup y.1 = some .local) (nocell : ∀ y ∈ scope.names, y.2 ≠ .cell)
    (subs : ∀ p ∈ cl, X.env.cells.lookup p.1 = some p.2 ∧ scope.names.lookup p.1 = some .free) (hass : ((relabel scope X.env).names.all fun p => (p.2 != .cell && p.2 != .free) || (cl.lookup p.1).isSome) = true)
    (caps : ∀ p ∈ cap, ∃ x c, Nc[p.1]? = some x ∧ X.N[p.2]? = some x ∧ cl.lookup x = some c ∧ X.env.scope.names.lookup x = some .cell ∧ (relabel scope X.env).names.lookup x = some .cell) : CompScope X scope cl Nc cap :=
  ⟨clos, kind, names, nocell, fun x c e => ⟨(subs (x, c) (PySem.mem_of_lookup e)).1, fun z => by
    have := (subs (x, c) (PySem.mem_of_lookup e)).2
    rw [z] at this
    cases this⟩, fun x e => by
    have key : ∀ k, (relabel scope X.env).names.lookup x = some k → (k = .cell ∨ k = .free) → ∃ c, cl.lookup x = some c := fun k e hk => by
      have := List.all_eq_true.mp hass (x, k) (PySem.mem_of_lookup e)
      rcases hk with rfl | rfl
      · exact Option.isSome_iff_exists.mp (by simpa using this)
      · exact Option.isSome_iff_exists.mp (by simpa using this)
    rcases e with e | e
    · exact key _ e (.inl rfl)
    · exact key _ e (.inr rfl), fun j i m => caps (j, i) m⟩
noncomputable def capSt (n : Nat) (cap : List (Nat × Nat)) (σ : St) : St := (List.range n).map fun j => ((cap.find? fun p => p.1 == j).bind fun p => σ[p.2]?).bind id

theorem capSt_get {n : Nat} {cap : List (Nat × Nat)} {σ : St} {j : Nat} {v : V} (h : (capSt n cap σ)[j]? = some (some v)) : ∃ i, (j, i) ∈ cap ∧ σ[i]? = some (some v) := by
  unfold capSt at h
  rw [List.getElem?_map] at h
  cases e : (List.range n)[j]? with
  | none => rw [e] at h; cases h
  | some k =>
    rw [e] at h
    have hk : k = j := by
      obtain ⟨hl, q⟩ := List.getElem?_eq_some_iff.mp e
      rw [List.getElem_range] at q
      exact q.symm
    subst hk
    simp only [Option.map_some, Option.some.injEq] at h
    cases f : cap.find? fun p => p.1 == k with
    | none => rw [f] at h; cases h
    | some p =>
      rw [f] at h
      have h1 := List.mem_of_find?_eq_some f
      have h2 : p.1 = k := by
        have := List.find?_some f
        exact eq_of_beq this
      refine ⟨p.2, ?_, ?_⟩
      · rw [← h2]; exact h1
      · simp only [Option.bind_some] at h
        cases g : σ[p.2]? with
        | none => rw [g] at h; cases h
        | some o => rw [g] at h; simpa using h

section
variable {X : Cx} {pins : List (Addr × Obj)} {σ : St} {H : Hp} {s : Shared} {scope : Scope} {cl : List (Str × Addr)} {Nc : List Str} {cap : List (Nat × Nat)} {fp : List Addr}
theorem inv_comp (I : Inv X pins σ H s) (hcalm : X.calm = true) (S : CompScope X scope cl Nc cap) (hfp : ∀ b ∈ fp, FpOk X pins H b) (hob : ∀ b ∈ fp, ∃ o, s.heap.get? b = some o) {C : Addr} {h1 : Heap} {m : Str → Option Value} {tk : Nat} (hC : s.heap.objs.size ≤ C)
    (hn : h1.Ns C m) (keep : ∀ b o, s.heap.get? b = some o → h1.get? b = some o) : Inv (cxComp X scope cl C Nc fp pins s H) [] (capSt Nc.length cap σ) H { s with heap := h1, toks := tk } := by
  have neC : ∀ b o, s.heap.get? b = some o → b ≠ C := fun b o e => Nat.ne_of_lt (Nat.lt_of_lt_of_le (Heap.lt_size e) hC)
  refine ⟨⟨I.ok.mod, S.kind, I.ok.glob, I.ok.blt, hC, fun x y c e1 e2 => ?_, fun x hx => S.has x hx, fun x c e1 e2 => ?_, fun _ => I.ok.hd hcalm, I.ok.frames, .inl rfl, fun b hb => ⟨?_, fun x c e => ?_⟩, I.bs, Nat.le_trans I.ok.bsz I.sz, fun b o e hb => ?_, fun b hb z => ?_, I.stack, I.stkFree⟩,
    rfl, I.bare, Un.kept keep, ⟨m, hn, fun j x v e1 e2 e3 => ?_⟩, fun x c e => ?_, I.hok.fresh hC, fun x c e => ?_, fun p hp => ?_, I.hok.kept keep, ?_⟩
  · exact I.ok.inj x y c (S.sub x c e1).1 (S.sub y c e2).1
  · exact absurd (beq_iff_eq.mp e1) (S.sub x c e2).2
  · obtain ⟨o, e⟩ := hob b hb
    exact neC b o e
  · exact (hfp b hb).2.2.2.2.1 x c (S.sub x c e).1
  · rcases (hfp b hb).2.2.2.1 with z | z
    · exact I.ok.noex b o e z
    · exact absurd (Nat.lt_of_lt_of_le (Heap.lt_size e) (Nat.le_trans I.ok.bsz z)) (Nat.lt_irrefl _)
  · rcases List.mem_cons.mp (I.stkSub b z) with z | z
    · exact (hfp b hb).2.1 z
    · exact (hfp b hb).2.2.1 z
  · obtain ⟨i, hm, hv⟩ := capSt_get e2
    obtain ⟨x', c, q1, q2, q3, q4, q5⟩ := S.caps j i hm
    have e1' : Nc[j]? = some x := e1
    rw [q1] at e1'
    cases e1'
    obtain ⟨mo, _, hl⟩ := I.loc
    obtain ⟨u, r, l⟩ := hl i x v q2 hv (.inr (.inl q4))
    refine ⟨u, r, ?_⟩
    rcases l with ⟨k, _⟩ | ⟨_, c', e', z⟩
    · have k' : X.env.scope.names.lookup x = some .local := k
      rw [q4] at k'
      cases k'
    · have : c' = c := Option.some.inj (e'.symm.trans (S.sub x c q3).1)
      subst this
      obtain ⟨o, ho, hd⟩ := z
      exact .inr ⟨.inl q5, c', q3, ⟨o, keep _ _ ho, hd⟩⟩
  · obtain ⟨v, o, ho, hd⟩ := I.cell x c (S.sub x c e).1
    exact ⟨v, o, keep _ _ ho, hd⟩
  · exact I.freeC x c (S.sub x c e).1
  · have hp' : p ∈ X.pn ++ pins := by
      have z : p ∈ (X.pn ++ pins) ++ [] := hp
      rw [List.append_nil] at z
      exact z
    obtain ⟨e, n, ne, nf, d⟩ := I.pin p hp'
    refine ⟨keep _ _ e, n, neC _ _ e, fun z => ?_, d⟩
    rcases List.mem_cons.mp (I.stkSub p.1 z) with z | z
    · exact ne z
    · exact nf z
  · show (capSt Nc.length cap σ).length = Nc.length
    unfold capSt
    rw [List.length_map, List.length_range]

theorem comp_back (I : Inv X pins σ H s) (hfp : ∀ b ∈ fp, FpOk X pins H b) {C : Addr} {σc : St} {H' : Hp} {s' : Shared} {h' : Heap} (J : Inv (cxComp X scope cl C Nc fp pins s H) [] σc H' s') (hs : Heap.SameBut C s'.heap h') : Inv X pins σ H' { s' with heap := h' } := by
  have hC : s.heap.objs.size ≤ C := J.ok.above
  have neC : ∀ b o, s.heap.get? b = some o → b ≠ C := fun b o e => Nat.ne_of_lt (Nat.lt_of_lt_of_le (Heap.lt_size e) hC)
  have u := J.base
  refine I.call' (s' := { s' with heap := h' }) (ch := fp) J.os ⟨fun b o e n hb hx => ?_, fun b o e n hb hx => ?_, u.free, fun b o e hx => ?_, u.tups, u.frzs, u.tbls⟩ (fun b o e => ?_) J.bare fun b hb => ⟨(hfp b hb).2.2.2.1, (hfp b hb).2.1, (hfp b hb).2.2.2.2.1, (hfp b hb).2.2.2.2.2⟩
  · exact (hs.2 b (neC b o e)).trans (u.keep b o e n hb hx)
  · obtain ⟨sl, q⟩ := u.slot b o e n hb hx
    exact ⟨sl, (hs.2 b (neC b o e)).trans q⟩
  · obtain ⟨o', q⟩ := u.there b o e hx
    exact ⟨o', (hs.2 b (neC b o e)).trans q⟩
  · refine (J.hok b o e).stay (fun c v hc q => (hs.2 c ?_).trans q) (fun _ q => q) fun _ _ q => q
    intro z
    subst z
    have fr : H' c = none := J.free
    rcases hc with hc | hc
    · rw [hc] at fr; rw [fr] at e; cases e
    · rw [fr] at hc; cases hc
end

noncomputable def tComp (n : Nat) (cap : List (Nat × Nat)) (wi : TI) (g : TG) (te : TE) : TE := fun σ H Q => wi σ H fun J H1 => ∀ acc, H1 acc = none →
  ∃ W : Nat → Nat → List V → St → Hp → Prop, (∃ m, W 0 m [] (capSt n cap σ) (upd H1 acc (.lst []))) ∧ ∀ i m ys σc H2, W i m ys σc H2 →
    (J.stop i H2 ∧ Q (.ref acc) H2) ∨ (J.go i H2 ∧ ∀ x H3, J.yld i H2 x H3 → g x σc H3 fun σ4 H4 => te σ4 H4 fun v H5 => H5 acc = some (.lst ys) ∧ ys.length < sizeLine ∧ ∃ m', m' < m ∧ W (i + 1) m' (ys ++ [v]) σ4 (upd H5 acc (.lst (ys ++ [v]))))

theorem pe_comp {X : Cx} {elt iter : PySem.Expr} {x : Str} {px pos : Pos} {scope : Scope} {cl : List (Str × Addr)} {Nc : List Str} {cap : List (Nat × Nat)} {wi : TI} {g : TG} {te : TE} (hc : X.calm = true) (hi : PI X (.Name x px) iter wi) (S : CompScope X scope cl Nc cap)
    (hg : ∀ C fp pins s H, PG (cxComp X scope cl C Nc fp pins s H) (.Name x px) g) (he : ∀ C fp pins s H, PE (cxComp X scope cl C Nc fp pins s H) elt te)
    (hs : ∀ y, foldedSetIterable iter X.env y = pure y := by intro _; rfl) : PE X (.ListComp elt [⟨.Name x px, iter, [], 0⟩] scope pos) (tComp Nc.length cap wi g te) := by
  intro pins s σ H Q I h
  rw [eval_ListComp]
  refine wpAny_comprehension_free (use := none) (cl := cl) rfl hs S.clos S.kind S.names ?_
  show wpAny _ _ (eval iter X.env) _ _ _
  refine thn (hi pins s σ H _ I h) fun v s1 h1 => thn h1 fun itv s2 h2 => ?_
  obtain ⟨it, fp, tn, J, H2, e, I2, T, st2, f2, rd⟩ := h2
  subst e
  refine wpAny_newObj_type ?_
  have hacc : H2 s2.heap.objs.size = none := I2.hok.fresh (Nat.le_refl _)
  obtain ⟨W, ⟨m0, w0⟩, turn⟩ := rd s2.heap.objs.size hacc
  -- the list is tracked
  have I3 : Inv X pins σ (upd H2 s2.heap.objs.size (.lst [])) { s2 with heap := s2.heap.push { cls := .type "list", dict := none, data := .seq ([] : List Value).toArray } } :=
    I2.laid (t' := s2.toks) (fun b u e => Heap.get?_push_of_some _ e) (Nat.le_refl _) ⟨Nat.zero_le _, [], 0, .nil, Heap.get?_push_size _ rfl⟩
  have st3 : tn 0 (s2.heap.push { cls := .type "list", dict := none, data := .seq ([] : List Value).toArray }) := T.keep _ _ _ st2 fun b _ o e => Heap.get?_push_of_some _ e
  have f3 : ∀ b ∈ fp, FpOk X pins (upd H2 s2.heap.objs.size (.lst [])) b := fun b hb => by
    obtain ⟨o, e, _⟩ := T.obj _ _ st2 b hb
    refine ⟨?_, (f2 b hb).2⟩
    rw [upd_ne (Nat.ne_of_lt (Heap.lt_size e))]
    exact (f2 b hb).1
  generalize hh3 : s2.heap.push { cls := .type "list", dict := none, data := .seq ([] : List Value).toArray } = h3 at I3 st3 ⊢
  generalize hH3 : upd H2 s2.heap.objs.size (.lst []) = H3 at I3 f3 w0
  generalize s2.heap.objs.size = acc at *
  refine wpAny_newFunctionEnv S.nocell (by intro y hy; simp at hy) (fun h4 hns hsb => ?_) S.kind
  dsimp only at hns hsb ⊢
  have keep : ∀ b o, h3.get? b = some o → h4.get? b = some o := fun b o e => hsb.extBut b o (Nat.ne_of_lt (Heap.lt_size e)) (Heap.get?_push_of_some _ e)
  have f0 : ∀ b ∈ fp, ∃ o, h3.get? b = some o := fun b hb => by
    obtain ⟨o, e, _⟩ := T.obj _ _ st3 b hb
    exact ⟨o, e⟩
  have I4 := inv_comp (tk := s2.toks + ([] : List (Str × Value)).length) I3 hc S f3 f0 (C := h3.objs.size) (Nat.le_refl _) hns keep
  have st4 : tn 0 h4 := T.keep _ _ _ st3 fun b _ o e => keep b o e
  have stat : ∀ {H' : Hp}, (∀ b ∈ fp, H' b = none) → ∀ b ∈ fp, FpOk (cxComp X scope cl h3.objs.size Nc fp pins { s2 with heap := h3 } H3) [] H' b := fun hn b hb => by
    obtain ⟨o, e⟩ := f0 b hb
    refine ⟨hn b hb, Nat.ne_of_lt (Heap.lt_size e), I4.ok.exfs b hb, .inl hb, fun x c q => (f3 b hb).2.2.2.2.1 x c (S.sub x c q).1, fun p hp => ?_⟩
    have z : p ∈ (X.pn ++ pins) ++ [] := hp
    rw [List.append_nil] at z
    exact (f3 b hb).2.2.2.2.2 p z
  have loop : codeAny (model X.prog X.w) X.A (.compLoop (.ListComp elt [⟨.Name x px, iter, [], 0⟩] scope pos) 0 (.ref it) (.ref acc) (compEnvC scope cl h3.objs.size X.env)) (compPost (model X.prog X.w) X.A X.xe none (EP X pins σ Q) (.ref acc) h3.objs.size)
      { s2 with heap := h4, toks := s2.toks + ([] : List (Str × Value)).length } := by
    refine codeAny_compLoop_list (fun n s' => ∃ i ys σ' H', Inv (cxComp X scope cl h3.objs.size Nc fp pins { s2 with heap := h3 } H3) [] σ' H' s' ∧ tn i s'.heap ∧ (∀ b ∈ fp, H' b = none) ∧ W i n ys σ' H') ?_ m0 ⟨0, [], _, H3, I4, st4, fun b hb => (f3 b hb).1, w0⟩
    rintro n s5 ⟨i, ys, σ5, H5, I5, st5, fr5, w5⟩
    rcases turn i n ys σ5 H5 w5 with ⟨stop, qn⟩ | ⟨go, step⟩
    · refine thn (T.done (cxComp X scope cl h3.objs.size Nc fp pins { s2 with heap := h3 } H3) rfl rfl rfl rfl i [] s5 σ5 H5 _ I5 (stat fr5) st5 stop) fun r s6 ⟨hr, I6⟩ => ?_
      subst hr
      obtain ⟨m6, hn6, _⟩ := I6.loc
      exact ⟨m6, hn6, fun h7 hs7 => ⟨.ref acc, H5, comp_back I3 f3 I6 hs7, rfl, qn⟩⟩
    · refine wpAny_mono (T.item (cxComp X scope cl h3.objs.size Nc fp pins { s2 with heap := h3 } H3) rfl rfl rfl rfl i [] s5 σ5 H5 (fun _ _ => False) I5 (stat fr5) st5 go) (fun r s6 ⟨u, hr, h6⟩ => ?_) fun _ _ z => False.elim z
      subst hr
      have ht : letOwnedTupleGo (.Name x px) (.ref it) u = pure () := rfl
      show wpAny (model X.prog X.w) X.A (assign (.Name x px) (compEnvC scope cl h3.objs.size X.env) u) _ _ s6
      have goal : wpAny (model X.prog X.w) X.A (letOwnedTupleGo (.Name x px) (.ref it) u >>= fun _ => assign (.Name x px) (compEnvC scope cl h3.objs.size X.env) u) (fun _ s₂ => wpAny (model X.prog X.w) X.A (eval elt (compEnvC scope cl h3.objs.size X.env)) (fun y s₃ =>
          wpAny (model X.prog X.w) X.A (call (.builtin "list.append") [.ref acc, y]) (fun _ s₄ => ∃ m, m < n ∧ ∃ i ys σ' H', Inv (cxComp X scope cl h3.objs.size Nc fp pins { s2 with heap := h3 } H3) [] σ' H' s₄ ∧ tn i s₄.heap ∧ (∀ b ∈ fp, H' b = none) ∧ W i m ys σ' H') (fun _ _ => False) s₃) (fun _ _ => False) s₂) (fun _ _ => False) s6 := by
        refine wpAny_bind (thn h6 fun _ s7 ⟨y, H7, I7, r7, y7, st7, fr7⟩ => ?_)
        have I7' := I7.pinned (stat fr7) (T.obj _ _ st7)
        have kp : ∀ {σ8 : St} {H8 : Hp} {s8 : Shared}, Inv (cxComp X scope cl h3.objs.size Nc fp pins { s2 with heap := h3 } H3) ([] ++ pinsAt fp s7.heap) σ8 H8 s8 → tn (i + 1) s8.heap ∧ ∀ b ∈ fp, H8 b = none := fun {σ8 H8 s8} I8 =>
          ⟨T.keep _ _ _ st7 fun b hb o e => (I8.pin (b, o) (List.mem_append_right _ (List.mem_append_right _ (mem_pinsAt hb e)))).1, fun b hb => by
            obtain ⟨o, e, d⟩ := T.obj _ _ st7 b hb
            exact (I8.pin (b, o) (List.mem_append_right _ (List.mem_append_right _ (mem_pinsAt hb e)))).2.1⟩
        refine thn (hg _ _ _ _ _ _ s7 σ5 H7 y u _ I7' r7 (step y H7 y7)) fun _ s8 ⟨σ8, H8, I8, q8⟩ => ?_
        refine thn (he _ _ _ _ _ _ s8 σ8 H8 _ I8 q8) fun w9 s9 ⟨v9, H9, I9, r9, e9, l9, m', hm, q9⟩ => ?_
        refine thn (mt_append _ s9 σ8 H9 (.ref acc) [v9] (.ref acc) [w9] (fun _ H10 => W (i + 1) m' (ys ++ [v9]) σ8 H10) I9 rfl (.cons r9 .nil) ⟨acc, ys, v9, rfl, rfl, e9, l9, q9⟩) fun _ s10 ⟨_, H10, I10, _, q10⟩ => ?_
        obtain ⟨st10, fr10⟩ := kp I10
        exact ⟨m', hm, i + 1, ys ++ [v9], σ8, H10, I10.unpinned, st10, fr10, q10⟩
      rw [ht] at goal
      refine wpAny_mono (show wpAny (model X.prog X.w) X.A (assign (.Name x px) (compEnvC scope cl h3.objs.size X.env) u) _ _ s6 from goal) (fun _ s7 h7 => ?_) fun _ _ z => False.elim z
      refine wpAny_mono h7 (fun y s8 h8 => ?_) fun _ _ z => False.elim z
      exact wpAny_mono h8 (fun _ _ z => z) fun _ _ z => False.elim z
  exact codeAny_compStart_list loop (T.self _ 0 _ _ _ st4 loop)
end L2
namespace L2
open PySem PySem.Spec PyProof.Rows
noncomputable def tCompF (n : Nat) (cap : List (Nat × Nat)) (wi : TI) (g : TG) (tt : TT) (te : TE) : TE := fun σ H Q => wi σ H fun J H1 => ∀ acc, H1 acc = none →
  ∃ W : Nat → Nat → List V → St → Hp → Prop, (∃ m, W 0 m [] (capSt n cap σ) (upd H1 acc (.lst []))) ∧ ∀ i m ys σc H2, W i m ys σc H2 →
    (J.stop i H2 ∧ Q (.ref acc) H2) ∨ (J.go i H2 ∧ ∀ x H3, J.yld i H2 x H3 → g x σc H3 fun σ4 H4 => tt σ4 H4 fun ok H5 => if ok = true then (te σ4 H5 fun v H6 => H6 acc = some (.lst ys) ∧ ys.length < sizeLine ∧ ∃ m', m' < m ∧ W (i + 1) m' (ys ++ [v]) σ4 (upd H6 acc (.lst (ys ++ [v])))) else ∃ m', m' < m ∧ W (i + 1) m' ys σ4 H5)
theorem pe_compF {X : Cx} {elt ct iter : PySem.Expr} {x : Str} {px pos : Pos} {scope : Scope} {cl : List (Str × Addr)} {Nc : List Str} {cap : List (Nat × Nat)} {wi : TI} {g : TG} {tt : TT} {te : TE} (hc : X.calm = true) (hi : PI X (.Name x px) iter wi) (S : CompScope X scope cl Nc cap)
    (hg : ∀ C fp pins s H, PG (cxComp X scope cl C Nc fp pins s H) (.Name x px) g) (ht : ∀ C fp pins s H, PT (cxComp X scope cl C Nc fp pins s H) ct tt) (he : ∀ C fp pins s H, PE (cxComp X scope cl C Nc fp pins s H) elt te)
    (hs : ∀ y, foldedSetIterable iter X.env y = pure y := by intro _; rfl) : PE X (.ListComp elt [⟨.Name x px, iter, [ct], 0⟩] scope pos) (tCompF Nc.length cap wi g tt te) := by
  intro pins s σ H Q I h
  rw [eval_ListComp]
  refine wpAny_comprehension_free (use := none) (cl := cl) rfl hs S.clos S.kind S.names ?_
  show wpAny _ _ (eval iter X.env) _ _ _
  refine thn (hi pins s σ H _ I h) fun v s1 h1 => thn h1 fun itv s2 h2 => ?_
  obtain ⟨it, fp, tn, J, H2, e, I2, T, st2, f2, rd⟩ := h2
  subst e
  refine wpAny_newObj_type ?_
  have hacc : H2 s2.heap.objs.size = none := I2.hok.fresh (Nat.le_refl _)
  obtain ⟨W, ⟨m0, w0⟩, turn⟩ := rd s2.heap.objs.size hacc
  -- the list is tracked
  have I3 : Inv X pins σ (upd H2 s2.heap.objs.size (.lst [])) { s2 with heap := s2.heap.push { cls := .type "list", dict := none, data := .seq ([] : List Value).toArray } } :=
    I2.laid (t' := s2.toks) (fun b u e => Heap.get?_push_of_some _ e) (Nat.le_refl _) ⟨Nat.zero_le _, [], 0, .nil, Heap.get?_push_size _ rfl⟩
  have st3 : tn 0 (s2.heap.push { cls := .type "list", dict := none, data := .seq ([] : List Value).toArray }) := T.keep _ _ _ st2 fun b _ o e => Heap.get?_push_of_some _ e
  have f3 : ∀ b ∈ fp, FpOk X pins (upd H2 s2.heap.objs.size (.lst [])) b := fun b hb => by
    obtain ⟨o, e, _⟩ := T.obj _ _ st2 b hb
    refine ⟨?_, (f2 b hb).2⟩
    rw [upd_ne (Nat.ne_of_lt (Heap.lt_size e))]
    exact (f2 b hb).1
  generalize hh3 : s2.heap.push { cls := .type "list", dict := none, data := .seq ([] : List Value).toArray } = h3 at I3 st3 ⊢
  generalize hH3 : upd H2 s2.heap.objs.size (.lst []) = H3 at I3 f3 w0
  generalize s2.heap.objs.size = acc at *
  refine wpAny_newFunctionEnv S.nocell (by intro y hy; simp at hy) (fun h4 hns hsb => ?_) S.kind
  dsimp only at hns hsb ⊢
  have keep : ∀ b o, h3.get? b = some o → h4.get? b = some o := fun b o e => hsb.extBut b o (Nat.ne_of_lt (Heap.lt_size e)) (Heap.get?_push_of_some _ e)
  have f0 : ∀ b ∈ fp, ∃ o, h3.get? b = some o := fun b hb => by
    obtain ⟨o, e, _⟩ := T.obj _ _ st3 b hb
    exact ⟨o, e⟩
  have I4 := inv_comp (tk := s2.toks + ([] : List (Str × Value)).length) I3 hc S f3 f0 (C := h3.objs.size) (Nat.le_refl _) hns keep
  have st4 : tn 0 h4 := T.keep _ _ _ st3 fun b _ o e => keep b o e
  have stat : ∀ {H' : Hp}, (∀ b ∈ fp, H' b = none) → ∀ b ∈ fp, FpOk (cxComp X scope cl h3.objs.size Nc fp pins { s2 with heap := h3 } H3) [] H' b := fun hn b hb => by
    obtain ⟨o, e⟩ := f0 b hb
    refine ⟨hn b hb, Nat.ne_of_lt (Heap.lt_size e), I4.ok.exfs b hb, .inl hb, fun x c q => (f3 b hb).2.2.2.2.1 x c (S.sub x c q).1, fun p hp => ?_⟩
    have z : p ∈ (X.pn ++ pins) ++ [] := hp
    rw [List.append_nil] at z
    exact (f3 b hb).2.2.2.2.2 p z
  have loop : codeAny (model X.prog X.w) X.A (.compLoop (.ListComp elt [⟨.Name x px, iter, [ct], 0⟩] scope pos) 0 (.ref it) (.ref acc) (compEnvC scope cl h3.objs.size X.env)) (compPost (model X.prog X.w) X.A X.xe none (EP X pins σ Q) (.ref acc) h3.objs.size)
      { s2 with heap := h4, toks := s2.toks + ([] : List (Str × Value)).length } := by
    refine codeAny_compLoop_tests (fun n s' => ∃ i ys σ' H', Inv (cxComp X scope cl h3.objs.size Nc fp pins { s2 with heap := h3 } H3) [] σ' H' s' ∧ tn i s'.heap ∧ (∀ b ∈ fp, H' b = none) ∧ W i n ys σ' H') ?_ m0 ⟨0, [], _, H3, I4, st4, fun b hb => (f3 b hb).1, w0⟩
    rintro n s5 ⟨i, ys, σ5, H5, I5, st5, fr5, w5⟩
    rcases turn i n ys σ5 H5 w5 with ⟨stop, qn⟩ | ⟨go, step⟩
    · refine thn (T.done (cxComp X scope cl h3.objs.size Nc fp pins { s2 with heap := h3 } H3) rfl rfl rfl rfl i [] s5 σ5 H5 _ I5 (stat fr5) st5 stop) fun r s6 ⟨hr, I6⟩ => ?_
      subst hr
      obtain ⟨m6, hn6, _⟩ := I6.loc
      exact ⟨m6, hn6, fun h7 hs7 => ⟨.ref acc, H5, comp_back I3 f3 I6 hs7, rfl, qn⟩⟩
    · refine wpAny_mono (T.item (cxComp X scope cl h3.objs.size Nc fp pins { s2 with heap := h3 } H3) rfl rfl rfl rfl i [] s5 σ5 H5 (fun _ _ => False) I5 (stat fr5) st5 go) (fun r s6 ⟨u, hr, h6⟩ => ?_) fun _ _ z => False.elim z
      subst hr
      have hto : letOwnedTupleGo (.Name x px) (.ref it) u = pure () := rfl
      show wpAny (model X.prog X.w) X.A (assign (.Name x px) (compEnvC scope cl h3.objs.size X.env) u) _ _ s6
      have goal : wpAny (model X.prog X.w) X.A (letOwnedTupleGo (.Name x px) (.ref it) u >>= fun _ => assign (.Name x px) (compEnvC scope cl h3.objs.size X.env) u) (fun _ s₂ => wpAny (model X.prog X.w) X.A (isTrue ct (compEnvC scope cl h3.objs.size X.env) (eval ct (compEnvC scope cl h3.objs.size X.env))) (fun ok s₃ => if ok = true then
          wpAny (model X.prog X.w) X.A (eval elt (compEnvC scope cl h3.objs.size X.env)) (fun y s₄ => wpAny (model X.prog X.w) X.A (call (.builtin "list.append") [.ref acc, y]) (fun _ s₅ => ∃ m, m < n ∧ ∃ i ys σ' H', Inv (cxComp X scope cl h3.objs.size Nc fp pins { s2 with heap := h3 } H3) [] σ' H' s₅ ∧ tn i s₅.heap ∧ (∀ b ∈ fp, H' b = none) ∧ W i m ys σ' H') (fun _ _ => False) s₄) (fun _ _ => False) s₃
          else ∃ m, m < n ∧ ∃ i ys σ' H', Inv (cxComp X scope cl h3.objs.size Nc fp pins { s2 with heap := h3 } H3) [] σ' H' s₃ ∧ tn i s₃.heap ∧ (∀ b ∈ fp, H' b = none) ∧ W i m ys σ' H') (fun _ _ => False) s₂) (fun _ _ => False) s6 := by
        refine wpAny_bind (thn h6 fun _ s7 ⟨y, H7, I7, r7, y7, st7, fr7⟩ => ?_)
        have I7' := I7.pinned (stat fr7) (T.obj _ _ st7)
        have kp : ∀ {σ8 : St} {H8 : Hp} {s8 : Shared}, Inv (cxComp X scope cl h3.objs.size Nc fp pins { s2 with heap := h3 } H3) ([] ++ pinsAt fp s7.heap) σ8 H8 s8 → tn (i + 1) s8.heap ∧ ∀ b ∈ fp, H8 b = none := fun {σ8 H8 s8} I8 =>
          ⟨T.keep _ _ _ st7 fun b hb o e => (I8.pin (b, o) (List.mem_append_right _ (List.mem_append_right _ (mem_pinsAt hb e)))).1, fun b hb => by
            obtain ⟨o, e, d⟩ := T.obj _ _ st7 b hb
            exact (I8.pin (b, o) (List.mem_append_right _ (List.mem_append_right _ (mem_pinsAt hb e)))).2.1⟩
        refine thn (hg _ _ _ _ _ _ s7 σ5 H7 y u _ I7' r7 (step y H7 y7)) fun _ s8 ⟨σ8, H8, I8, q8⟩ => ?_
        refine thn (ht _ _ _ _ _ _ s8 σ8 H8 _ I8 q8) fun ok s9 ⟨H9, I9, q9⟩ => ?_
        cases ok with
        | false =>
          rw [if_neg Bool.false_ne_true] at q9 ⊢
          obtain ⟨m', hm, w'⟩ := q9
          obtain ⟨st9, fr9⟩ := kp I9
          exact ⟨m', hm, i + 1, ys, σ8, H9, I9.unpinned, st9, fr9, w'⟩
        | true =>
          rw [if_pos rfl] at q9 ⊢
          refine thn (he _ _ _ _ _ _ s9 σ8 H9 _ I9 q9) fun w10 s10 ⟨v10, H10, I10, r10, e10, l10, m', hm, q10⟩ => ?_
          refine thn (mt_append _ s10 σ8 H10 (.ref acc) [v10] (.ref acc) [w10] (fun _ H11 => W (i + 1) m' (ys ++ [v10]) σ8 H11) I10 rfl (.cons r10 .nil) ⟨acc, ys, v10, rfl, rfl, e10, l10, q10⟩) fun _ s11 ⟨_, H11, I11, _, q11⟩ => ?_
          obtain ⟨st11, fr11⟩ := kp I11
          exact ⟨m', hm, i + 1, ys ++ [v10], σ8, H11, I11.unpinned, st11, fr11, q11⟩
      rw [hto] at goal
      refine wpAny_mono (show wpAny (model X.prog X.w) X.A (assign (.Name x px) (compEnvC scope cl h3.objs.size X.env) u) _ _ s6 from goal) (fun _ s7 h7 => ?_) fun _ _ z => False.elim z
      refine wpAny_tests_one (wpAny_mono h7 (fun ok s8 h8 => ?_) fun _ _ z => False.elim z)
      cases ok with
      | false => exact h8
      | true => exact wpAny_mono h8 (fun y s9 h9 => wpAny_mono h9 (fun _ _ z => z) fun _ _ z => False.elim z) fun _ _ z => False.elim z
  exact codeAny_compStart_list loop (T.self _ 0 _ _ _ st4 loop)
end L2
namespace L2
open PySem PySem.Spec PyProof.Rows
section
variable {X : Cx}
noncomputable def Big (i : Int) : Prop := i.natAbs < 2 ^ 8000
theorem big_log {i : Int} (h : Big i) : i.natAbs.log2 < 8000 := by
  by_cases z : i.natAbs = 0
  · rw [z]; decide
  · exact (Nat.log2_lt z).mpr h
theorem big_bits {i : Int} (h : Big i) : Builtin.Int.intBits i ≤ 8001 := by
  have := big_log h
  unfold Builtin.Int.intBits
  split <;> (first | lia | omega)
noncomputable def CMulB (i j : Int) : Prop := Big i ∧ Big j
theorem op_mulB : OpR X (binaryOp .Mult) (rI CMulB fun i j => .int (i * j)) := opI fun _ _ _ _ _ _ _ hc q => mul_int q (IntMulOk.of_bits (Nat.le_trans (big_bits hc.1) (by decide)) (Nat.le_trans (big_bits hc.2) (by decide)))
noncomputable def CDivB (_ j : Int) : Prop := j ≠ 0 ∧ Big j
theorem op_fdivB : OpR X (binaryOp .FloorDiv) (rI CDivB fun i j => .int (i.fdiv j)) := opI fun _ _ _ _ _ _ _ hc q => floordiv_int hc.1 q (.inl (PyProof.noPylong_of_log2 (by have := big_log hc.2; (first | lia | omega))))
noncomputable def rIsi (K : PySem.W.Frag) (c : V) (cv : Value) : List V → Hp → VK → Prop := fun xs H Q => ∃ x t b, xs = [x, c] ∧ TyOf K H x t ∧ PySem.W.kitOne K t cv = some b ∧ Q (.bl b) H
theorem call_isi {c : V} {cv : Value} (hc : ∀ u, RelV c u → u = cv) : CallR X (.builtin "isinstance") (rIsi X.K c cv) := by
  intro pins s σ H xs us Q I r h
  obtain ⟨x, t, b, rfl, ty, e, q⟩ := h
  obtain ⟨u, w', rfl, r1, r2⟩ := vals2 r
  cases hc w' r2
  exact isinst_ok I r1 ty e fun tk => ⟨.bl b, H, I.tok _, rfl, q⟩
end
end L2
namespace L2
open PySem PySem.Spec PyProof.Rows
theorem bt_isinstance : bootBuiltins "isinstance" = some (.builtin "isinstance") := by decide +kernel
theorem bt_int : bootBuiltins "int" = some (.type "int") := by decide +kernel
theorem bt_bool : bootBuiltins "bool" = some (.type "bool") := by decide +kernel
theorem bt_tuple : bootBuiltins "tuple" = some (.type "tuple") := by decide +kernel
theorem bt_all : bootBuiltins "all" = some (.builtin "all") := by decide +kernel
theorem bt_len : bootBuiltins "len" = some (.builtin "len") := by decide +kernel
theorem bt_abs : bootBuiltins "abs" = some (.builtin "abs") := by decide +kernel
theorem bt_min : bootBuiltins "min" = some (.builtin "min") := by decide +kernel
theorem kit_self (K : PySem.W.Frag) (t : Value) : PySem.W.kitOne K t t = some true := by
  unfold PySem.W.kitOne
  rw [if_pos (beq_self_eq_true t)]
theorem kit_int_bool (K : PySem.W.Frag) : PySem.W.kitOne K (.type "int") (.type "bool") = some false := by first | rfl | decide +kernel | kernel_rfl
section
variable {X : Cx}
end
end L2
namespace L2
open PySem PySem.Spec PyProof.Rows
section
variable {X : Cx}
theorem vals_bl : ∀ {bs : List Bool} {us : List Value}, Vals (bs.map V.bl) us → us = bs.map Value.bool
  | [], _, .nil => rfl
  | b :: r, _, .cons (b := u) h t => by
    have h' : u = Value.bool b := h
    rw [h', vals_bl t]
    rfl
noncomputable def rAll (K : PySem.W.Frag) : List V → Hp → VK → Prop := fun xs H Q => ∃ (p : Addr) (bs : List Bool), xs = [.ref p] ∧ SqL K H p (bs.map V.bl) ∧ Q (.bl (bs.all id)) H
theorem all_range (bs : List Bool) : ((List.range bs.length).all fun i => (bs[i]?).getD true) = bs.all id := by
  rw [Bool.eq_iff_iff, List.all_eq_true, List.all_eq_true]
  constructor
  · intro h b hb
    obtain ⟨i, hi, rfl⟩ := List.mem_iff_getElem.mp hb
    have := h i (List.mem_range.mpr hi)
    rw [List.getElem?_eq_getElem hi] at this
    exact this
  · intro h i hi
    have hl := List.mem_range.mp hi
    rw [List.getElem?_eq_getElem hl]
    exact h _ (List.getElem_mem hl)
theorem call_allB (hc : X.calm = true) : CallR X (.builtin "all") (rAll X.K) := by
  intro pins s σ H xs us Q I r h
  obtain ⟨p, bs, rfl, hq, q⟩ := h
  obtain ⟨u, rfl, r1⟩ := vals1 r
  cases r1
  obtain ⟨its, rv, pl, hz⟩ := I.list hq
  have e := vals_bl rv
  subst e
  have hlt : p < s.heap.objs.size := by
    obtain ⟨o, _, ho, _⟩ := pl
    exact Heap.lt_size ho
  refine call_all_walk (wpAny_pyIter_list pl.isList ?_)
  refine ⟨s.heap.objs.size, _, _, _, _, _, fun i => (bs[i]?).getD true, rfl, Walks.list (show X.A.in1.handled = none from I.ok.hd hc) _ p (Nat.ne_of_lt hlt) (bs.map Value.bool).toArray, ⟨⟨_, Heap.get?_push_size _ rfl, rfl, rfl⟩, pl.isList.push _⟩, fun i v s' Q' E' hP hQ' => ?_, fun h' tk k => ?_⟩
  · have hP : (bs.map Value.bool).toArray[i]? = some v := hP
    have hQ' : Q' ((bs[i]?).getD true) s' := hQ'
    rw [List.getElem?_toArray, List.getElem?_map] at hP
    cases e : bs[i]? with
    | none => rw [e] at hP; cases hP
    | some b =>
      rw [e] at hP
      obtain rfl : Value.bool b = v := Option.some.inj hP
      have hQ2 : Q' b s' := by
        rw [e] at hQ'
        exact hQ'
      exact wpAny_pure hQ2
  · refine ⟨.bl (bs.all id), H, I.kept fun b o eb => ?_, ?_, q⟩
    · exact k b o (fun z => by
        have : b = s.heap.objs.size := by simpa using z
        exact absurd (Heap.lt_size eb) (by rw [this]; exact Nat.lt_irrefl _)) (Heap.get?_push_of_some _ eb)
    · show Value.bool _ = Value.bool _
      rw [List.size_toArray, List.length_map, all_range]

end
end L2
namespace L2
open PySem PySem.Spec PyProof.Rows
section
variable {prog : Program} {w : World} {A : Around} {E : Value → Shared → Prop} {s : Shared}
theorem nextT_item {c t : Addr} {k : Nat} {vs : Array Value} {y : Value} {Q : Value → Shared → Prop} (hc : s.heap.IsTupleIter c t k) (ht : s.heap.IsTuple t vs) (hy : vs[k]? = some y)
    (hQ : ∀ h', h'.IsTupleIter c t (k + 1) → Heap.SameBut c s.heap h' → Q y { s with heap := h' }) : wpAny (model prog w) A (Builtin.SmallTypes.nextOf (.ref c)) Q E s := by
  obtain ⟨ob, e1, e2, e3⟩ := id hc
  obtain ⟨ot, f1, _, nt, f2⟩ := ht
  unfold Builtin.SmallTypes.nextOf
  refine wpAny_bind (wpAny_callSpecial?_slot (name := Str.ofString "__next__") hc.typeIs PySem.F.slot_tuple_iterator_next (wpAny_call_entry PySem.F.slot_tuple_iterator_next hc.typeIs PySem.F.entry_tuple_iterator_next ?_ (PySem.F.args_tuple_iterator_next_1 _)))
  show wpAny _ _ (field (.ref c) 0 >>= _) _ _ s
  refine wpAny_bind (wpAny_field e1 e3 (x := .ref t) rfl ?_)
  show wpAny _ _ (if (Value.ref t == Value.none) = true then _ else _) _ _ _
  rw [if_neg (show ¬ ((Value.ref t == Value.none) = true) by exact Bool.false_ne_true)]
  show wpAny _ _ (field (.ref c) 1 >>= _) _ _ s
  refine wpAny_bind (wpAny_field e1 e3 (x := .int k 0) rfl ?_)
  show wpAny _ _ (seqItems? (.ref t) >>= _) _ _ _
  refine wpAny_bind (wpAny_seqItems f1 f2 ?_)
  simp only [Int.toNat_natCast, hy]
  refine wpAny_bind (wpAny_setField e1 e3 (by simp) (wpAny_pure ⟨y, rfl, wpAny_pure (hQ _ ?_ (Heap.SameBut.update ..))⟩))
  exact ⟨_, Heap.get?_update_self _ e1 (Obj.isFreed_of_fields (Obj.data_mapFields e3 _)), (Obj.cls_mapFields ..).trans e2, by rw [Obj.data_mapFields e3]; simp [rawInt]⟩
theorem nextT_end {c t : Addr} {k : Nat} {vs : Array Value} {Q : Value → Shared → Prop} (hh : A.handled = none) (hc : s.heap.IsTupleIter c t k) (ht : s.heap.IsTuple t vs) (hy : vs[k]? = none)
    (hE : ∀ h' x, Heap.ExtBut c s.heap h' → (∃ o, h'.get? x = some o ∧ o.cls = .type "StopIteration") → E (.ref x) { s with heap := h' }) : wpAny (model prog w) A (Builtin.SmallTypes.nextOf (.ref c)) Q E s := by
  obtain ⟨ob, e1, e2, e3⟩ := id hc
  obtain ⟨ot, f1, _, nt, f2⟩ := ht
  unfold Builtin.SmallTypes.nextOf
  refine wpAny_bind (wpAny_callSpecial?_slot (name := Str.ofString "__next__") hc.typeIs PySem.F.slot_tuple_iterator_next (wpAny_call_entry PySem.F.slot_tuple_iterator_next hc.typeIs PySem.F.entry_tuple_iterator_next ?_ (PySem.F.args_tuple_iterator_next_1 _)))
  show wpAny _ _ (field (.ref c) 0 >>= _) _ _ s
  refine wpAny_bind (wpAny_field e1 e3 (x := .ref t) rfl ?_)
  show wpAny _ _ (if (Value.ref t == Value.none) = true then _ else _) _ _ _
  rw [if_neg (show ¬ ((Value.ref t == Value.none) = true) by exact Bool.false_ne_true)]
  show wpAny _ _ (field (.ref c) 1 >>= _) _ _ s
  refine wpAny_bind (wpAny_field e1 e3 (x := .int k 0) rfl ?_)
  show wpAny _ _ (seqItems? (.ref t) >>= _) _ _ _
  refine wpAny_bind (wpAny_seqItems f1 f2 ?_)
  simp only [Int.toNat_natCast, hy]
  refine wpAny_bind (wpAny_rule (wpAny_bind (wpAny_setField e1 e3 (by simp) ?_)))
  show wpAny _ _ (newExc (.type "StopIteration") [] >>= _) _ _ (_ : Shared)
  refine wpAny_bind ?_
  simp only [newExc, newTuple]
  refine wpAny_bind (wpAny_newObj_type ?_ (by size_fits)); refine wpAny_bind (m := firstArgMember _ _) (wpAny_of_eq (a := Value.none) (by first | rfl | (simp only [firstArgMember]; rfl)) ?_)
  refine wpAny_newObj_type ?_ (by size_fits); simp only [raiseNew]
  refine wpAny_bind (wpAny_handled ?_); first | rw [show A.in1.handled = none from hh] | rw [hh]
  refine wpAny_bind (wpAny_pure (wpAny_throw (hE _ _ (((Heap.SameBut.update ..).extBut.push _).push _) ⟨_, Heap.get?_push_size _ rfl, rfl⟩)))
end
section
variable {X : Cx}
noncomputable def rInsert : V → List V → Hp → VK → Prop := fun x vs H Q => ∃ l xs k y, x = .ref l ∧ vs = [.int k, y] ∧ H l = some (.lst xs) ∧ 0 ≤ k ∧ k ≤ xs.length ∧ xs.length < 1000000 ∧ Q .non (upd H l (.lst (xs.take k.toNat ++ y :: xs.drop k.toNat)))
theorem mt_insert : MtM X "list.insert" rInsert := by
  intro pins s σ H x vs v us Q I rx rv h
  obtain ⟨l, xs, k, y, rfl, rfl, hH, k0, k1, hz, q⟩ := h
  cases rx
  obtain ⟨u1, u2, rfl, r1, r2⟩ := vals2 rv
  obtain ⟨t, rfl⟩ := r1
  obtain ⟨z, its, n, r, hl, e⟩ := I.lstM hH
  have hzs : its.length ≤ sizeLine := by rw [← hl]; exact z
  have hfit : ¬ (!Builtin.List.listFitsIndex k) = true := by
    unfold Builtin.List.listFitsIndex
    simp only [Bool.not_eq_true, Bool.not_eq_false', Bool.and_eq_true, decide_eq_true_eq]
    (first | lia | omega)
  refine call_meets PySem.F.slot_list_insert ⟨_, e, rfl⟩ PySem.F.entry_list_insert (PySem.F.args_list_insert_3 _ _ _) (AutoSeq1.list_insert_list_int_val_1 l its.toArray n k t u2 hfit (by rw [List.size_toArray]; exact hzs)) ⟨e, ?_⟩
  refine ⟨.non, _, I.lset (its' := its.take k.toNat ++ u2 :: its.drop k.toNat) hH e ?_ ((r.take _).append (.cons r2 (r.drop _))) ?_, rfl, q⟩
  · have hk : ¬ k < 0 := by (first | lia | omega)
    have hm : min k.toNat its.toArray.size = k.toNat := by rw [List.size_toArray]; (first | lia | omega)
    simp only [if_neg hk, hm]
    apply Array.toList_inj.mp
    simp
    exact List.take_of_length_le (by simp)
  · rw [List.length_append, List.length_cons, List.length_take, List.length_drop]
    rw [sizeLine_eq] at *
    (first | lia | omega)

end
end L2
namespace L2
open PySem PySem.Spec PyProof.Rows
section
variable {X : Cx}
end
end L2
namespace L2
open PySem PySem.Spec PyProof.Rows
section
variable {X : Cx}
theorem vals_ints' : ∀ {ns : List Int} {us : List Value}, Vals (ns.map V.int) us → IntsAre us ns
  | [], _, .nil => .nil
  | n :: r, _, .cons (b := u) h t => by
    obtain ⟨k, rfl⟩ := h
    exact .cons n k (vals_ints' t)
theorem shaped_tup (ns : List Int) : SeqAt.shaped (.tuple (ns.map PyData.int)) = true := by
  simp [SeqAt.shaped, PyData.canLay0, PyData.depth, PySem.W.ke_canLayAll0, PySem.W.ke_depthAll]
theorem same_tup (ns ms : List Int) : PySem.Spec.same (.tuple (ns.map PyData.int)) (.tuple (ms.map PyData.int)) = decide (ns = ms) := by
  simp only [PySem.Spec.same]
  exact PySem.W.ke_sameAll ns ms
theorem op_ne_tup (hu : X.A.units + 64 < cLine) : OpR X (compareOp .NotEq) (fun x y H Q => ∃ (p q : Addr) (ns ms : List Int), x = .ref p ∧ y = .ref q ∧ H p = some (.tup (ns.map V.int)) ∧ H q = some (.tup (ms.map V.int)) ∧ Q (.bl (!decide (ns = ms))) H) := by
  intro pins s σ H x y v u Q I rx ry h
  obtain ⟨p, q, ns, ms, rfl, rfl, hp, hq, k⟩ := h
  cases rx
  cases ry
  obtain ⟨its, r1, t1, _⟩ := I.tuple (SqT.of (K := X.K) hp)
  obtain ⟨jts, r2, t2, _⟩ := I.tuple (SqT.of (K := X.K) hq)
  refine ne_dataH_same (reads_tuple_ints t1 (vals_ints' r1)) (reads_tuple_ints t2 (vals_ints' r2)) (shaped_tup ns) (shaped_tup ms) hu (SeqAt.noMix_of_shape (.tuples .int) rfl _ _ (tuples_map_has fun _ => rfl) (tuples_map_has fun _ => rfl)) ?_
  rw [same_tup]
  exact ⟨.bl _, H, I, rfl, k⟩
theorem op_eq_tup (hu : X.A.units + 64 < cLine) : OpR X (compareOp .Eq) (fun x y H Q => ∃ (p q : Addr) (ns ms : List Int), x = .ref p ∧ y = .ref q ∧ H p = some (.tup (ns.map V.int)) ∧ H q = some (.tup (ms.map V.int)) ∧ Q (.bl (decide (ns = ms))) H) := by
  intro pins s σ H x y v u Q I rx ry h
  obtain ⟨p, q, ns, ms, rfl, rfl, hp, hq, k⟩ := h
  cases rx
  cases ry
  obtain ⟨its, r1, t1, _⟩ := I.tuple (SqT.of (K := X.K) hp)
  obtain ⟨jts, r2, t2, _⟩ := I.tuple (SqT.of (K := X.K) hq)
  refine eq_dataH_same (reads_tuple_ints t1 (vals_ints' r1)) (reads_tuple_ints t2 (vals_ints' r2)) (shaped_tup ns) (shaped_tup ms) hu (SeqAt.noMix_of_shape (.tuples .int) rfl _ _ (tuples_map_has fun _ => rfl) (tuples_map_has fun _ => rfl)) ?_
  rw [same_tup]
  exact ⟨.bl _, H, I, rfl, k⟩
end
end L2
namespace L2
open PySem PySem.Spec PyProof.Rows
theorem pe_compT {X : Cx} {elt iter : PySem.Expr} {tes : List PySem.Expr} {tn' : Nat} {px pos : Pos} {scope : Scope} {cl : List (Str × Addr)} {Nc : List Str} {cap : List (Nat × Nat)} {wi : TI} {g : TG} {te : TE} (hc : X.calm = true) (hi : PI X (.Tuple tes tn' px) iter wi) (S : CompScope X scope cl Nc cap)
    (hg : ∀ C fp pins s H, PG (cxComp X scope cl C Nc fp pins s H) (.Tuple tes tn' px) g) (he : ∀ C fp pins s H, PE (cxComp X scope cl C Nc fp pins s H) elt te)
    (hs : ∀ y, foldedSetIterable iter X.env y = pure y := by intro _; rfl) : PE X (.ListComp elt [⟨.Tuple tes tn' px, iter, [], 0⟩] scope pos) (tComp Nc.length cap wi g te) := by
  intro pins s σ H Q I h
  rw [eval_ListComp]
  refine wpAny_comprehension_free (use := none) (cl := cl) rfl hs S.clos S.kind S.names ?_
  show wpAny _ _ (eval iter X.env) _ _ _
  refine thn (hi pins s σ H _ I h) fun v s1 h1 => thn h1 fun itv s2 h2 => ?_
  obtain ⟨it, fp, tn, J, H2, e, I2, T, st2, f2, rd⟩ := h2
  subst e
  refine wpAny_newObj_type ?_
  have hacc : H2 s2.heap.objs.size = none := I2.hok.fresh (Nat.le_refl _)
  obtain ⟨W, ⟨m0, w0⟩, turn⟩ := rd s2.heap.objs.size hacc
  -- the list is tracked
  have I3 : Inv X pins σ (upd H2 s2.heap.objs.size (.lst [])) { s2 with heap := s2.heap.push { cls := .type "list", dict := none, data := .seq ([] : List Value).toArray } } :=
    I2.laid (t' := s2.toks) (fun b u e => Heap.get?_push_of_some _ e) (Nat.le_refl _) ⟨Nat.zero_le _, [], 0, .nil, Heap.get?_push_size _ rfl⟩
  have st3 : tn 0 (s2.heap.push { cls := .type "list", dict := none, data := .seq ([] : List Value).toArray }) := T.keep _ _ _ st2 fun b _ o e => Heap.get?_push_of_some _ e
  have f3 : ∀ b ∈ fp, FpOk X pins (upd H2 s2.heap.objs.size (.lst [])) b := fun b hb => by
    obtain ⟨o, e, _⟩ := T.obj _ _ st2 b hb
    refine ⟨?_, (f2 b hb).2⟩
    rw [upd_ne (Nat.ne_of_lt (Heap.lt_size e))]
    exact (f2 b hb).1
  generalize hh3 : s2.heap.push { cls := .type "list", dict := none, data := .seq ([] : List Value).toArray } = h3 at I3 st3 ⊢
  generalize hH3 : upd H2 s2.heap.objs.size (.lst []) = H3 at I3 f3 w0
  generalize s2.heap.objs.size = acc at *
  refine wpAny_newFunctionEnv S.nocell (by intro y hy; simp at hy) (fun h4 hns hsb => ?_) S.kind
  dsimp only at hns hsb ⊢
  have keep : ∀ b o, h3.get? b = some o → h4.get? b = some o := fun b o e => hsb.extBut b o (Nat.ne_of_lt (Heap.lt_size e)) (Heap.get?_push_of_some _ e)
  have f0 : ∀ b ∈ fp, ∃ o, h3.get? b = some o := fun b hb => by
    obtain ⟨o, e, _⟩ := T.obj _ _ st3 b hb
    exact ⟨o, e⟩
  have I4 := inv_comp (tk := s2.toks + ([] : List (Str × Value)).length) I3 hc S f3 f0 (C := h3.objs.size) (Nat.le_refl _) hns keep
  have st4 : tn 0 h4 := T.keep _ _ _ st3 fun b _ o e => keep b o e
  have stat : ∀ {H' : Hp}, (∀ b ∈ fp, H' b = none) → ∀ b ∈ fp, FpOk (cxComp X scope cl h3.objs.size Nc fp pins { s2 with heap := h3 } H3) [] H' b := fun hn b hb => by
    obtain ⟨o, e⟩ := f0 b hb
    refine ⟨hn b hb, Nat.ne_of_lt (Heap.lt_size e), I4.ok.exfs b hb, .inl hb, fun x c q => (f3 b hb).2.2.2.2.1 x c (S.sub x c q).1, fun p hp => ?_⟩
    have z : p ∈ (X.pn ++ pins) ++ [] := hp
    rw [List.append_nil] at z
    exact (f3 b hb).2.2.2.2.2 p z
  have loop : codeAny (model X.prog X.w) X.A (.compLoop (.ListComp elt [⟨.Tuple tes tn' px, iter, [], 0⟩] scope pos) 0 (.ref it) (.ref acc) (compEnvC scope cl h3.objs.size X.env)) (compPost (model X.prog X.w) X.A X.xe none (EP X pins σ Q) (.ref acc) h3.objs.size)
      { s2 with heap := h4, toks := s2.toks + ([] : List (Str × Value)).length } := by
    refine PyProof.Rows.LCp.codeAny_compLoop_pair (fun n s' => ∃ i ys σ' H', Inv (cxComp X scope cl h3.objs.size Nc fp pins { s2 with heap := h3 } H3) [] σ' H' s' ∧ tn i s'.heap ∧ (∀ b ∈ fp, H' b = none) ∧ W i n ys σ' H') ?_ m0 ⟨0, [], _, H3, I4, st4, fun b hb => (f3 b hb).1, w0⟩
    rintro n s5 ⟨i, ys, σ5, H5, I5, st5, fr5, w5⟩
    rcases turn i n ys σ5 H5 w5 with ⟨stop, qn⟩ | ⟨go, step⟩
    · refine thn (T.done (cxComp X scope cl h3.objs.size Nc fp pins { s2 with heap := h3 } H3) rfl rfl rfl rfl i [] s5 σ5 H5 _ I5 (stat fr5) st5 stop) fun r s6 ⟨hr, I6⟩ => ?_
      subst hr
      obtain ⟨m6, hn6, _⟩ := I6.loc
      exact ⟨m6, hn6, fun h7 hs7 => ⟨.ref acc, H5, comp_back I3 f3 I6 hs7, rfl, qn⟩⟩
    · refine wpAny_mono (T.item (cxComp X scope cl h3.objs.size Nc fp pins { s2 with heap := h3 } H3) rfl rfl rfl rfl i [] s5 σ5 H5 (fun _ _ => False) I5 (stat fr5) st5 go) (fun r s6 ⟨u, hr, h6⟩ => ?_) fun _ _ z => False.elim z
      subst hr
      refine wpAny_mono h6 (fun _ s7 ⟨y, H7, I7, r7, y7, st7, fr7⟩ => ?_) fun _ _ z => False.elim z
      have I7' := I7.pinned (stat fr7) (T.obj _ _ st7)
      have kp : ∀ {σ8 : St} {H8 : Hp} {s8 : Shared}, Inv (cxComp X scope cl h3.objs.size Nc fp pins { s2 with heap := h3 } H3) ([] ++ pinsAt fp s7.heap) σ8 H8 s8 → tn (i + 1) s8.heap ∧ ∀ b ∈ fp, H8 b = none := fun {σ8 H8 s8} I8 =>
        ⟨T.keep _ _ _ st7 fun b hb o e => (I8.pin (b, o) (List.mem_append_right _ (List.mem_append_right _ (mem_pinsAt hb e)))).1, fun b hb => by
          obtain ⟨o, e, d⟩ := T.obj _ _ st7 b hb
          exact (I8.pin (b, o) (List.mem_append_right _ (List.mem_append_right _ (mem_pinsAt hb e)))).2.1⟩
      refine wpAny_mono (hg _ _ _ _ _ _ s7 σ5 H7 y u _ I7' r7 (step y H7 y7)) (fun _ s8 ⟨σ8, H8, I8, q8⟩ => ?_) fun _ _ z => False.elim z
      refine wpAny_mono (he _ _ _ _ _ _ s8 σ8 H8 _ I8 q8) (fun w9 s9 ⟨v9, H9, I9, r9, e9, l9, m', hm, q9⟩ => ?_) fun _ _ z => False.elim z
      refine wpAny_mono (mt_append (X := cxComp X scope cl h3.objs.size Nc fp pins { s2 with heap := h3 } H3) _ s9 σ8 H9 (.ref acc) [v9] (.ref acc) [w9] (fun _ H10 => W (i + 1) m' (ys ++ [v9]) σ8 H10) I9 rfl (.cons r9 .nil) ⟨acc, ys, v9, rfl, rfl, e9, l9, q9⟩) (fun _ s10 ⟨_, H10, I10, _, q10⟩ => ?_) fun _ _ z => False.elim z
      obtain ⟨st10, fr10⟩ := kp I10
      exact ⟨m', hm, i + 1, ys ++ [v9], σ8, H10, I10.unpinned, st10, fr10, q10⟩
  exact codeAny_compStart_list loop (T.self _ 0 _ _ _ st4 loop)
end L2
namespace L2
open PySem PySem.Spec PyProof.Rows
theorem ps_setComp {X : Cx} {i : Nat} {y : Str} {py spos : Pos} {elt iter : PySem.Expr} {x : Str} {px pos : Pos} {scope : Scope} {cl : List (Str × Addr)} {Nc : List Str} {cap : List (Nat × Nat)} {wi : TI} {g : TG} {te : TE} (hN : X.N.Nodup) (hiN : X.N[i]? = some y) (hy : Loc X.env.scope y)
    (hc : X.calm = true) (hi : PI X (.Name x px) iter wi) (S : CompScope X scope cl Nc cap)
    (hg : ∀ C fp pins s H, PG (cxComp X scope cl C Nc fp pins s H) (.Name x px) g) (he : ∀ C fp pins s H, PE (cxComp X scope cl C Nc fp pins s H) elt te)
    (hsw : swapsWith (.ListComp elt [⟨.Name x px, iter, [], 0⟩] scope pos) (some (.Name y py)) spos.line X.env = pure true := by rfl) (hs : ∀ z, foldedSetIterable iter X.env z = pure z := by intro _; rfl)
    (hf : X.fn y = true ∨ X.env.scope.names.lookup y = some .local := by first | exact .inl rfl | exact .inr rfl | assumption) :
    PS X (.Assign [.Name y py] (.ListComp elt [⟨.Name x px, iter, [], 0⟩] scope pos) spos) (tAsg (tComp Nc.length cap wi g te) (gName i)) := by
  intro pins s σ H D I h
  rw [exec_Assign_Name_used _ _ _ _ hsw]
  refine wpAny_bind (wpAny_standAt (wpAny_bind ?_)); show wpAny _ X.A (do let _ ← comprehension (.ListComp elt [⟨.Name x px, iter, [], 0⟩] scope pos) scope X.env _ (newList []) false (eval iter X.env) (some (assign (.Name y py) X.env))) _ _ s
  refine wpAny_bind (wpAny_mono (wpAny_comprehension_free (use := some (assign (.Name y py) X.env)) (cl := cl) (Q := fun _ s' => SP X pins D .next s') rfl hs S.clos S.kind S.names ?_) (fun _ s' hq => wpAny_pure (wpAny_pure hq)) fun _ _ e => e)
  refine thn (hi pins s σ H _ I h) fun v s1 h1 => thn h1 fun itv s2 h2 => ?_
  obtain ⟨it, fp, tn, J, H2, e, I2, T, st2, f2, rd⟩ := h2
  subst e
  refine wpAny_newObj_type ?_
  have hacc : H2 s2.heap.objs.size = none := I2.hok.fresh (Nat.le_refl _)
  obtain ⟨W, ⟨m0, w0⟩, turn⟩ := rd s2.heap.objs.size hacc
  -- the list is tracked
  have I3 : Inv X pins σ (upd H2 s2.heap.objs.size (.lst [])) { s2 with heap := s2.heap.push { cls := .type "list", dict := none, data := .seq ([] : List Value).toArray } } :=
    I2.laid (t' := s2.toks) (fun b u e => Heap.get?_push_of_some _ e) (Nat.le_refl _) ⟨Nat.zero_le _, [], 0, .nil, Heap.get?_push_size _ rfl⟩
  have st3 : tn 0 (s2.heap.push { cls := .type "list", dict := none, data := .seq ([] : List Value).toArray }) := T.keep _ _ _ st2 fun b _ o e => Heap.get?_push_of_some _ e
  have f3 : ∀ b ∈ fp, FpOk X pins (upd H2 s2.heap.objs.size (.lst [])) b := fun b hb => by
    obtain ⟨o, e, _⟩ := T.obj _ _ st2 b hb
    refine ⟨?_, (f2 b hb).2⟩
    rw [upd_ne (Nat.ne_of_lt (Heap.lt_size e))]
    exact (f2 b hb).1
  generalize hh3 : s2.heap.push { cls := .type "list", dict := none, data := .seq ([] : List Value).toArray } = h3 at I3 st3 ⊢
  generalize hH3 : upd H2 s2.heap.objs.size (.lst []) = H3 at I3 f3 w0
  generalize s2.heap.objs.size = acc at *
  refine wpAny_newFunctionEnv S.nocell (by intro y hy; simp at hy) (fun h4 hns hsb => ?_) S.kind
  dsimp only at hns hsb ⊢
  have keep : ∀ b o, h3.get? b = some o → h4.get? b = some o := fun b o e => hsb.extBut b o (Nat.ne_of_lt (Heap.lt_size e)) (Heap.get?_push_of_some _ e)
  have f0 : ∀ b ∈ fp, ∃ o, h3.get? b = some o := fun b hb => by
    obtain ⟨o, e, _⟩ := T.obj _ _ st3 b hb
    exact ⟨o, e⟩
  have I4 := inv_comp (tk := s2.toks + ([] : List (Str × Value)).length) I3 hc S f3 f0 (C := h3.objs.size) (Nat.le_refl _) hns keep
  have st4 : tn 0 h4 := T.keep _ _ _ st3 fun b _ o e => keep b o e
  have stat : ∀ {H' : Hp}, (∀ b ∈ fp, H' b = none) → ∀ b ∈ fp, FpOk (cxComp X scope cl h3.objs.size Nc fp pins { s2 with heap := h3 } H3) [] H' b := fun hn b hb => by
    obtain ⟨o, e⟩ := f0 b hb
    refine ⟨hn b hb, Nat.ne_of_lt (Heap.lt_size e), I4.ok.exfs b hb, .inl hb, fun x c q => (f3 b hb).2.2.2.2.1 x c (S.sub x c q).1, fun p hp => ?_⟩
    have z : p ∈ (X.pn ++ pins) ++ [] := hp
    rw [List.append_nil] at z
    exact (f3 b hb).2.2.2.2.2 p z
  have loop : codeAny (model X.prog X.w) X.A (.compLoop (.ListComp elt [⟨.Name x px, iter, [], 0⟩] scope pos) 0 (.ref it) (.ref acc) (compEnvC scope cl h3.objs.size X.env)) (compPost (model X.prog X.w) X.A X.xe (some (assign (.Name y py) X.env)) (fun _ s' => SP X pins D .next s') (.ref acc) h3.objs.size)
      { s2 with heap := h4, toks := s2.toks + ([] : List (Str × Value)).length } := by
    refine codeAny_compLoop_list (fun n s' => ∃ i ys σ' H', Inv (cxComp X scope cl h3.objs.size Nc fp pins { s2 with heap := h3 } H3) [] σ' H' s' ∧ tn i s'.heap ∧ (∀ b ∈ fp, H' b = none) ∧ W i n ys σ' H') ?_ m0 ⟨0, [], _, H3, I4, st4, fun b hb => (f3 b hb).1, w0⟩
    rintro n s5 ⟨i, ys, σ5, H5, I5, st5, fr5, w5⟩
    rcases turn i n ys σ5 H5 w5 with ⟨stop, qn⟩ | ⟨go, step⟩
    · refine thn (T.done (cxComp X scope cl h3.objs.size Nc fp pins { s2 with heap := h3 } H3) rfl rfl rfl rfl i [] s5 σ5 H5 _ I5 (stat fr5) st5 stop) fun r s6 ⟨hr, I6⟩ => ?_
      subst hr
      obtain ⟨m6, hn6, _⟩ := id I6.loc
      have back : Inv X pins σ H5 s6 := comp_back (h' := s6.heap) I3 f3 I6 ⟨rfl, fun _ _ => rfl⟩
      have fpC : FpOk X pins H5 h3.objs.size := I3.fpOk (Nat.le_refl _) I6.free
      show wpAny (model X.prog X.w) X.A (assign (.Name y py) X.env (.ref acc)) _ X.xe s6
      refine wpAny_assign_Name (store_ok2 (v := .ref acc) back hN hiN hy rfl (fun s7 I7 ⟨a7, sb7, e7⟩ => ?_) hf)
      have nC : h3.objs.size ≠ a7 := by
        rcases e7 with e7 | e7
        · rw [e7]; exact fpC.2.1
        · exact Ne.symm (fpC.2.2.2.2.1 _ _ e7)
      refine ⟨m6, hn6.sameBut sb7 nC, fun h8 hs8 => ⟨_, H5, ?_, qn⟩⟩
      exact I7.turned (t' := s7.toks) (fun b o hb q => (hs8.2 b hb).trans q) fpC.1 fpC.2.1 fpC.2.2.2.1 fpC.2.2.2.2.1 fpC.2.2.2.2.2
    · refine wpAny_mono (T.item (cxComp X scope cl h3.objs.size Nc fp pins { s2 with heap := h3 } H3) rfl rfl rfl rfl i [] s5 σ5 H5 (fun _ _ => False) I5 (stat fr5) st5 go) (fun r s6 ⟨u, hr, h6⟩ => ?_) fun _ _ z => False.elim z
      subst hr
      have ht : letOwnedTupleGo (.Name x px) (.ref it) u = pure () := rfl
      show wpAny (model X.prog X.w) X.A (assign (.Name x px) (compEnvC scope cl h3.objs.size X.env) u) _ _ s6
      have goal : wpAny (model X.prog X.w) X.A (letOwnedTupleGo (.Name x px) (.ref it) u >>= fun _ => assign (.Name x px) (compEnvC scope cl h3.objs.size X.env) u) (fun _ s₂ => wpAny (model X.prog X.w) X.A (eval elt (compEnvC scope cl h3.objs.size X.env)) (fun y s₃ =>
          wpAny (model X.prog X.w) X.A (call (.builtin "list.append") [.ref acc, y]) (fun _ s₄ => ∃ m, m < n ∧ ∃ i ys σ' H', Inv (cxComp X scope cl h3.objs.size Nc fp pins { s2 with heap := h3 } H3) [] σ' H' s₄ ∧ tn i s₄.heap ∧ (∀ b ∈ fp, H' b = none) ∧ W i m ys σ' H') (fun _ _ => False) s₃) (fun _ _ => False) s₂) (fun _ _ => False) s6 := by
        refine wpAny_bind (thn h6 fun _ s7 ⟨y, H7, I7, r7, y7, st7, fr7⟩ => ?_)
        have I7' := I7.pinned (stat fr7) (T.obj _ _ st7)
        have kp : ∀ {σ8 : St} {H8 : Hp} {s8 : Shared}, Inv (cxComp X scope cl h3.objs.size Nc fp pins { s2 with heap := h3 } H3) ([] ++ pinsAt fp s7.heap) σ8 H8 s8 → tn (i + 1) s8.heap ∧ ∀ b ∈ fp, H8 b = none := fun {σ8 H8 s8} I8 =>
          ⟨T.keep _ _ _ st7 fun b hb o e => (I8.pin (b, o) (List.mem_append_right _ (List.mem_append_right _ (mem_pinsAt hb e)))).1, fun b hb => by
            obtain ⟨o, e, d⟩ := T.obj _ _ st7 b hb
            exact (I8.pin (b, o) (List.mem_append_right _ (List.mem_append_right _ (mem_pinsAt hb e)))).2.1⟩
        refine thn (hg _ _ _ _ _ _ s7 σ5 H7 y u _ I7' r7 (step y H7 y7)) fun _ s8 ⟨σ8, H8, I8, q8⟩ => ?_
        refine thn (he _ _ _ _ _ _ s8 σ8 H8 _ I8 q8) fun w9 s9 ⟨v9, H9, I9, r9, e9, l9, m', hm, q9⟩ => ?_
        refine thn (mt_append _ s9 σ8 H9 (.ref acc) [v9] (.ref acc) [w9] (fun _ H10 => W (i + 1) m' (ys ++ [v9]) σ8 H10) I9 rfl (.cons r9 .nil) ⟨acc, ys, v9, rfl, rfl, e9, l9, q9⟩) fun _ s10 ⟨_, H10, I10, _, q10⟩ => ?_
        obtain ⟨st10, fr10⟩ := kp I10
        exact ⟨m', hm, i + 1, ys ++ [v9], σ8, H10, I10.unpinned, st10, fr10, q10⟩
      rw [ht] at goal
      refine wpAny_mono (show wpAny (model X.prog X.w) X.A (assign (.Name x px) (compEnvC scope cl h3.objs.size X.env) u) _ _ s6 from goal) (fun _ s7 h7 => ?_) fun _ _ z => False.elim z
      refine wpAny_mono h7 (fun y s8 h8 => ?_) fun _ _ z => False.elim z
      exact wpAny_mono h8 (fun _ _ z => z) fun _ _ z => False.elim z
  exact codeAny_compStart_list loop (T.self _ 0 _ _ _ st4 loop)
end L2
namespace L2
open PySem PySem.Spec PyProof.Rows
end L2
namespace L2
open PySem PySem.Spec PyProof.Rows
noncomputable def ItK (t : Bool) (h : Heap) (c a : Addr) (k : Nat) : Prop := if t then h.IsTupleIter c a k else h.IsListIter c a k
noncomputable def SqK (t : Bool) (h : Heap) (a : Addr) (vs : Array Value) : Prop := if t then h.IsTuple a vs else h.IsList a vs
theorem ItK.ext {t : Bool} {h h' : Heap} {c b a : Addr} {k : Nat} (x : ItK t h c a k) (hs : Heap.ExtBut b h h') (n : c ≠ b) : ItK t h' c a k := by
  cases t
  · exact Heap.IsListIter.extBut x hs n
  · exact Heap.IsTupleIter.extBut x hs n
theorem ItK.at {t : Bool} {h h' : Heap} {c a : Addr} {k : Nat} (x : ItK t h c a k) (e : ∀ o, h.get? c = some o → h'.get? c = some o) : ItK t h' c a k := by
  cases t
  · exact Heap.IsListIter.at x e
  · exact Heap.IsTupleIter.at x e
theorem ItK.obj {t : Bool} {h : Heap} {c a : Addr} {k : Nat} (x : ItK t h c a k) : ∃ o, h.get? c = some o ∧ ∀ v, o.data ≠ .cell v := by
  cases t
  · obtain ⟨o, e, _, d⟩ := x
    exact ⟨o, e, fun v z => by rw [d] at z; cases z⟩
  · obtain ⟨o, e, _, d⟩ := x
    exact ⟨o, e, fun v z => by rw [d] at z; cases z⟩
theorem SqK.ext {t : Bool} {h h' : Heap} {b a : Addr} {vs : Array Value} (x : SqK t h a vs) (hs : Heap.ExtBut b h h') (n : a ≠ b) : SqK t h' a vs := by
  cases t
  · exact Heap.IsList.extBut x hs n
  · exact Heap.IsTuple.extBut x hs n
section
variable {prog : Program} {w : World} {A : Around} {E : Value → Shared → Prop} {s : Shared}
theorem nextK_item {t : Bool} {c a : Addr} {k : Nat} {vs : Array Value} {y : Value} {Q : Value → Shared → Prop} (hc : ItK t s.heap c a k) (ht : SqK t s.heap a vs) (hy : vs[k]? = some y)
    (hQ : ∀ h', ItK t h' c a (k + 1) → Heap.SameBut c s.heap h' → Q y { s with heap := h' }) : wpAny (model prog w) A (Builtin.SmallTypes.nextOf (.ref c)) Q E s := by
  cases t
  · exact wpAny_nextOf_list_item hc ht hy hQ
  · exact nextT_item hc ht hy hQ
theorem nextK_end {t : Bool} {c a : Addr} {k : Nat} {vs : Array Value} {Q : Value → Shared → Prop} (hh : A.handled = none) (hc : ItK t s.heap c a k) (ht : SqK t s.heap a vs) (hy : vs[k]? = none)
    (hE : ∀ h' x, Heap.ExtBut c s.heap h' → (∃ o, h'.get? x = some o ∧ o.cls = .type "StopIteration") → E (.ref x) { s with heap := h' }) : wpAny (model prog w) A (Builtin.SmallTypes.nextOf (.ref c)) Q E s := by
  cases t
  · exact wpAny_nextOf_list_end hh hc ht hy hE
  · exact nextT_end hh hc ht hy hE
theorem zipK_item {t1 t2 : Bool} {z TI TO i1 i2 l1 l2 : Addr} {k1 k2 : Nat} {xs ys : Array Value} {x y a b : Value} {Q : Value → Shared → Prop} (ap : ZipApart z TI TO i1 i2 l1 l2)
    (qz : IsZip s.heap z TI TO .none) (qI : IsPair s.heap TI (.ref i1) (.ref i2)) (qO : IsPair s.heap TO a b)
    (q1 : ItK t1 s.heap i1 l1 k1) (q2 : ItK t2 s.heap i2 l2 k2) (m1 : SqK t1 s.heap l1 xs) (m2 : SqK t2 s.heap l2 ys) (hx : xs[k1]? = some x) (hy : ys[k2]? = some y)
    (hQ : ∀ g, IsZip g z TI TO (rawInt s.heap.objs.size) → IsPair g TO x y → ItK t1 g i1 l1 (k1 + 1) → ItK t2 g i2 l2 (k2 + 1) → IsPair g s.heap.objs.size x y → g.objs.size = s.heap.objs.size + 1 →
      (∀ c o, c ≠ z → c ≠ TO → c ≠ i1 → c ≠ i2 → s.heap.get? c = some o → g.get? c = some o) → Q (.ref s.heap.objs.size) { s with heap := g }) :
    wpAny (model prog w) A (Builtin.«zip.__next__» ⟨[.ref z], []⟩) (fun fin s' => ∃ v, fin = .done (.ret v) ∧ Q v s') E s := by
  show wpAny _ A (field (.ref z) 2 >>= _) _ _ _
  refine wpAny_bind (wpAny_field qz rfl (x := .bool false) rfl ?_); show wpAny _ A (field (.ref z) 3 >>= _) _ _ _
  refine wpAny_bind (wpAny_field qz rfl (x := .ref TI) rfl (wpAny_bind (wpAny_seqItems qI rfl ?_)))
  show wpAny _ A (Builtin.SmallTypes.ownedTupleIsFree (.ref z) >>= _) _ _ _
  refine wpAny_bind ?_; unfold Builtin.SmallTypes.ownedTupleIsFree
  refine wpAny_bind (wpAny_field qz rfl (x := .none) rfl (wpAny_pure ?_)); simp only [if_true]
  refine wpAny_bind (wpAny_rule (wpAny_bind (wpAny_field qz rfl (x := .ref TO) rfl (wpAny_bind (wpAny_setField_rec qz (by simp) fun g1 z1 s1 => ?_)))))
  replace z1 : IsZip g1 z TI TO .ellipsis := z1
  refine wpAny_bind ?_; simp only [List.zipIdx_cons, List.zipIdx_nil, List.forIn_cons, List.forIn_nil]
  refine wpAny_bind (wpAny_bind (wpAny_onRaise ?_)); show wpAny _ A (Builtin.SmallTypes.nextOf (.ref i1) >>= _) _ _ _
  refine wpAny_bind (nextK_item (q1.ext s1.extBut ap.i1z) (m1.ext s1.extBut ap.l1z) hx fun g2 n1 s2 => wpAny_pure ?_)
  have O2 : IsPair g2 TO a b := s2.extBut _ _ ap.TOi1 (s1.extBut _ _ ap.TOz qO)
  refine wpAny_bind (wpAny_seqItems O2 rfl (wpAny_bind (wpAny_updateSeq_pair O2 fun g3 O3 s3 => ?_)))
  replace O3 : IsPair g3 TO x b := O3
  refine wpAny_bind (wpAny_letGo (wpAny_pure (wpAny_bind (wpAny_bind (wpAny_onRaise ?_))))); show wpAny _ A (Builtin.SmallTypes.nextOf (.ref i2) >>= _) _ _ _
  refine wpAny_bind (nextK_item (((q2.ext s1.extBut ap.i2z).ext s2.extBut ap.i12.symm).ext s3.extBut ap.TOi2.symm) (((m2.ext s1.extBut ap.l2z).ext s2.extBut ap.l2i1).ext s3.extBut ap.l2TO) hy fun g4 n2 s4 => wpAny_pure ?_)
  have O4 : IsPair g4 TO x b := s4.extBut _ _ ap.TOi2 O3
  refine wpAny_bind (wpAny_seqItems O4 rfl (wpAny_bind (wpAny_updateSeq_pair O4 fun g5 O5 s5 => ?_)))
  replace O5 : IsPair g5 TO x y := O5
  refine wpAny_bind (wpAny_letGo (wpAny_pure (wpAny_pure (wpAny_bind (wpAny_seqItems O5 rfl (wpAny_bind (wpAny_newTuple ?_)))))))
  have sz5 : g5.objs.size = s.heap.objs.size := by rw [s5.1, s4.1, s3.1, s2.1, s1.1]
  have z5 : IsZip g5 z TI TO .ellipsis := s5.extBut _ _ ap.TOz.symm (s4.extBut _ _ ap.i2z.symm (s3.extBut _ _ ap.TOz.symm (s2.extBut _ _ ap.i1z.symm z1)))
  have kp : ∀ c o, c ≠ z → c ≠ TO → c ≠ i1 → c ≠ i2 → s.heap.get? c = some o → g5.get? c = some o := fun c o c1 c2 c3 c4 e =>
    s5.extBut _ _ c2 (s4.extBut _ _ c4 (s3.extBut _ _ c2 (s2.extBut _ _ c3 (s1.extBut _ _ c1 e))))
  have N1 : ItK t1 g5 i1 l1 (k1 + 1) := ((n1.ext s3.extBut ap.TOi1.symm).ext s4.extBut ap.i12).ext s5.extBut ap.TOi1.symm
  have N2 : ItK t2 g5 i2 l2 (k2 + 1) := n2.ext s5.extBut ap.TOi2.symm
  have ltz : z < g5.objs.size := Heap.lt_size z5
  show wpAny _ A (Builtin.SmallTypes.ownedTupleHandOut (.ref z) (.ref g5.objs.size) >>= _) _ _ _
  refine wpAny_bind ?_; unfold Builtin.SmallTypes.ownedTupleHandOut
  have z6 : IsZip (g5.push { cls := .type "tuple", data := .seq #[x, y] }) z TI TO .ellipsis := Heap.get?_push_of_some _ z5
  refine wpAny_bind (wpAny_setField_rec z6 (by simp) fun g7 z7 s7 => ?_)
  replace z7 : IsZip g7 z TI TO (rawInt g5.objs.size) := z7
  refine wpAny_setField_rec z7 (by simp) fun g8 z8 s8 => ?_
  replace z8 : IsZip g8 z TI TO (rawInt g5.objs.size) := z8
  have up : ∀ c o, c ≠ z → g5.get? c = some o → g8.get? c = some o := fun c o c1 e => s8.extBut _ _ c1 (s7.extBut _ _ c1 (Heap.get?_push_of_some _ e))
  have T8 : IsPair g8 g5.objs.size x y := s8.extBut _ _ (Nat.ne_of_gt ltz) (s7.extBut _ _ (Nat.ne_of_gt ltz) (Heap.get?_push_size _ rfl))
  have sz8 : g8.objs.size = g5.objs.size + 1 := by rw [s8.1, s7.1, Heap.size_push]
  rw [sz5] at z8 T8 sz8
  refine wpAny_pure ⟨_, rfl, ?_⟩
  show Q (.ref g5.objs.size) _
  rw [sz5]
  exact hQ g8 z8 (up _ _ ap.TOz O5) (N1.at fun o e => up _ o ap.i1z e) (N2.at fun o e => up _ o ap.i2z e) T8 sz8 fun c o c1 c2 c3 c4 e => up c o c1 (kp c o c1 c2 c3 c4 e)
theorem zipK_end {t1 t2 : Bool} {z TI TO i1 i2 l1 l2 : Addr} {k1 k2 : Nat} {xs ys : Array Value} {a b : Value} {Q : Fin → Shared → Prop} (hh : A.handled = none) (ap : ZipApart z TI TO i1 i2 l1 l2)
    (qz : IsZip s.heap z TI TO .none) (qI : IsPair s.heap TI (.ref i1) (.ref i2)) (qO : IsPair s.heap TO a b)
    (q1 : ItK t1 s.heap i1 l1 k1) (q2 : ItK t2 s.heap i2 l2 k2) (m1 : SqK t1 s.heap l1 xs) (m2 : SqK t2 s.heap l2 ys) (hend : xs[k1]? = none ∨ ys[k2]? = none)
    (hE : ∀ g e, (∀ c o, c ≠ z → c ≠ TO → c ≠ i1 → c ≠ i2 → s.heap.get? c = some o → g.get? c = some o) → (∃ o, g.get? e = some o ∧ o.cls = .type "StopIteration") → E (.ref e) { s with heap := g }) :
    wpAny (model prog w) A (Builtin.«zip.__next__» ⟨[.ref z], []⟩) Q E s := by
  show wpAny _ A (field (.ref z) 2 >>= _) _ _ _
  refine wpAny_bind (wpAny_field qz rfl (x := .bool false) rfl ?_); show wpAny _ A (field (.ref z) 3 >>= _) _ _ _
  refine wpAny_bind (wpAny_field qz rfl (x := .ref TI) rfl (wpAny_bind (wpAny_seqItems qI rfl ?_)))
  show wpAny _ A (Builtin.SmallTypes.ownedTupleIsFree (.ref z) >>= _) _ _ _
  refine wpAny_bind ?_; unfold Builtin.SmallTypes.ownedTupleIsFree
  refine wpAny_bind (wpAny_field qz rfl (x := .none) rfl (wpAny_pure ?_)); simp only [if_true]
  refine wpAny_bind (wpAny_rule (wpAny_bind (wpAny_field qz rfl (x := .ref TO) rfl (wpAny_bind (wpAny_setField_rec qz (by simp) fun g1 z1 s1 => ?_)))))
  replace z1 : IsZip g1 z TI TO .ellipsis := z1
  refine wpAny_bind ?_; simp only [List.zipIdx_cons, List.zipIdx_nil, List.forIn_cons, List.forIn_nil]
  refine wpAny_bind (wpAny_bind (wpAny_onRaise ?_)); show wpAny _ A (Builtin.SmallTypes.nextOf (.ref i1) >>= _) _ _ _
  cases hx : xs[k1]? with
  | none =>
    refine wpAny_bind (nextK_end hh (q1.ext s1.extBut ap.i1z) (m1.ext s1.extBut ap.l1z) hx fun g2 e s2 he => ?_)
    obtain ⟨oe, w1, w2⟩ := he
    have z2 : IsZip g2 z TI TO .ellipsis := s2 _ _ ap.i1z.symm z1
    have ez : e ≠ z := fun x => by subst x; rw [z2] at w1; cases w1; simp at w2
    exact wpAny_setField_rec z2 (by simp) fun g3 _ s3 => hE g3 e (fun c o c1 _ c3 _ x => s3.extBut _ _ c1 (s2 _ _ c3 (s1.extBut _ _ c1 x))) ⟨oe, s3.extBut _ _ ez w1, w2⟩
  | some x =>
    have hy : ys[k2]? = none := by rcases hend with h | h; rw [hx] at h; cases h; exact h
    refine wpAny_bind (nextK_item (q1.ext s1.extBut ap.i1z) (m1.ext s1.extBut ap.l1z) hx fun g2 n1 s2 => wpAny_pure ?_)
    have O2 : IsPair g2 TO a b := s2.extBut _ _ ap.TOi1 (s1.extBut _ _ ap.TOz qO)
    refine wpAny_bind (wpAny_seqItems O2 rfl (wpAny_bind (wpAny_updateSeq_pair O2 fun g3 O3 s3 => ?_)))
    refine wpAny_bind (wpAny_letGo (wpAny_pure (wpAny_bind (wpAny_bind (wpAny_onRaise ?_))))); show wpAny _ A (Builtin.SmallTypes.nextOf (.ref i2) >>= _) _ _ _
    refine wpAny_bind (nextK_end hh (((q2.ext s1.extBut ap.i2z).ext s2.extBut ap.i12.symm).ext s3.extBut ap.TOi2.symm) (((m2.ext s1.extBut ap.l2z).ext s2.extBut ap.l2i1).ext s3.extBut ap.l2TO) hy fun g4 e s4 he => ?_)
    obtain ⟨oe, w1, w2⟩ := he
    have z4 : IsZip g4 z TI TO .ellipsis := s4 _ _ ap.i2z.symm (s3.extBut _ _ ap.TOz.symm (s2.extBut _ _ ap.i1z.symm z1))
    have ez : e ≠ z := fun x => by subst x; rw [z4] at w1; cases w1; simp at w2
    exact wpAny_setField_rec z4 (by simp) fun g5 _ s5 => hE g5 e (fun c o c1 c2 c3 c4 x => s5.extBut _ _ c1 (s4 _ _ c4 (s3.extBut _ _ c2 (s2.extBut _ _ c3 (s1.extBut _ _ c1 x))))) ⟨oe, s5.extBut _ _ ez w1, w2⟩
theorem pyNextK_item {t1 t2 : Bool} {z TI TO i1 i2 l1 l2 : Addr} {k1 k2 : Nat} {xs ys : Array Value} {x y a b : Value} {Q : Option Value → Shared → Prop} (ap : ZipApart z TI TO i1 i2 l1 l2)
    (qz : IsZip s.heap z TI TO .none) (qI : IsPair s.heap TI (.ref i1) (.ref i2)) (qO : IsPair s.heap TO a b)
    (q1 : ItK t1 s.heap i1 l1 k1) (q2 : ItK t2 s.heap i2 l2 k2) (m1 : SqK t1 s.heap l1 xs) (m2 : SqK t2 s.heap l2 ys) (hx : xs[k1]? = some x) (hy : ys[k2]? = some y)
    (hQ : ∀ g, IsZip g z TI TO (rawInt s.heap.objs.size) → IsPair g TO x y → ItK t1 g i1 l1 (k1 + 1) → ItK t2 g i2 l2 (k2 + 1) → IsPair g s.heap.objs.size x y → g.objs.size = s.heap.objs.size + 1 →
      (∀ c o, c ≠ z → c ≠ TO → c ≠ i1 → c ≠ i2 → s.heap.get? c = some o → g.get? c = some o) → Q (some (.ref s.heap.objs.size)) { s with heap := g }) :
    wpAny (model prog w) A (pyNext (.ref z)) Q E s := by
  have ty : s.TypeIs (.ref z) "zip" := ⟨_, qz, rfl⟩
  unfold pyNext
  exact wpAny_bind (wpAny_attempt (wpAny_callSpecial?_slot (name := Str.ofString "__next__") ty PySem.F.slot_zip_next (wpAny_call_entry PySem.F.slot_zip_next ty PySem.F.entry_zip_next
      (zipK_item ap qz qI qO q1 q2 m1 m2 hx hy fun g a1 a2 a3 a4 a5 a6 a7 => wpAny_pure (hQ g a1 a2 a3 a4 a5 a6 a7)) (PySem.F.args_zip_next_1 _))))
theorem pyNextK_end {t1 t2 : Bool} {z TI TO i1 i2 l1 l2 : Addr} {k1 k2 : Nat} {xs ys : Array Value} {a b : Value} {Q : Option Value → Shared → Prop} (hh : A.handled = none) (ap : ZipApart z TI TO i1 i2 l1 l2)
    (qz : IsZip s.heap z TI TO .none) (qI : IsPair s.heap TI (.ref i1) (.ref i2)) (qO : IsPair s.heap TO a b)
    (q1 : ItK t1 s.heap i1 l1 k1) (q2 : ItK t2 s.heap i2 l2 k2) (m1 : SqK t1 s.heap l1 xs) (m2 : SqK t2 s.heap l2 ys) (hend : xs[k1]? = none ∨ ys[k2]? = none)
    (hQ : ∀ g, (∀ c o, c ≠ z → c ≠ TO → c ≠ i1 → c ≠ i2 → s.heap.get? c = some o → g.get? c = some o) → Q none { s with heap := g }) : wpAny (model prog w) A (pyNext (.ref z)) Q E s := by
  have ty : s.TypeIs (.ref z) "zip" := ⟨_, qz, rfl⟩
  unfold pyNext
  refine wpAny_bind (wpAny_attempt (wpAny_callSpecial?_slot (name := Str.ofString "__next__") ty PySem.F.slot_zip_next (wpAny_call_entry PySem.F.slot_zip_next ty PySem.F.entry_zip_next (zipK_end hh ap qz qI qO q1 q2 m1 m2 hend fun g e hk he => ?_) (PySem.F.args_zip_next_1 _))))
  obtain ⟨o, w1, w2⟩ := he
  exact wpAny_bind (wpAny_isInstance (T := "StopIteration") (b := true) ⟨o, w1, w2⟩ isSubtype_stop (wpAny_pure (hQ _ hk)))
noncomputable def itO (t : Bool) (l : Addr) : Obj := if t then { cls := .type "tuple_iterator", data := .fields #[.ref l, .int 0 0] } else { cls := .type "list_iterator", data := .fields #[.ref l, .int 0 0] }
noncomputable abbrev zk2 (t1 t2 : Bool) (h : Heap) (l1 l2 : Addr) : Heap := (h.push (itO t1 l1)).push (itO t2 l2)
noncomputable abbrev zk4 (t1 t2 : Bool) (h : Heap) (l1 l2 : Addr) : Heap := ((zk2 t1 t2 h l1 l2).push { cls := .type "tuple", data := .seq #[.ref h.objs.size, .ref (h.push (itO t1 l1)).objs.size] }).push { cls := .type "tuple", data := .seq #[.none, .none] }
noncomputable abbrev zk5 (t1 t2 : Bool) (h : Heap) (l1 l2 : Addr) : Heap := (zk4 t1 t2 h l1 l2).push { cls := .type "zip", data := .fields #[.none, .bool false, .bool false, .ref (zk2 t1 t2 h l1 l2).objs.size, .ref ((zk2 t1 t2 h l1 l2).push { cls := .type "tuple", data := .seq #[.ref h.objs.size, .ref (h.push (itO t1 l1)).objs.size] }).objs.size] }
set_option maxHeartbeats 4000000 in
theorem meets_zipK (t1 t2 : Bool) (l1 l2 : Addr) (xs ys : Array Value) :
    Meets (Builtin.«zip.__new__» ⟨[.type "zip", .ref l1, .ref l2], []⟩) (fun _ R s => SqK t1 s.heap l1 xs ∧ SqK t2 s.heap l2 ys ∧ R (.ok (.ret (.ref (zk4 t1 t2 s.heap l1 l2).objs.size))) { s with heap := zk5 t1 t2 s.heap l1 l2 }) :=
  .of_wp fun prog w A R s h => by
    obtain ⟨hp, g, d, tk, os⟩ := s; obtain ⟨m1, m2, h⟩ := h
    have hsub := sub_zip
    cases t1 <;> cases t2
    · have a1 : Heap.IsList (Shared.heap ⟨hp, g, d, tk, os⟩) l1 xs := m1
      have a2 : Heap.IsList (Shared.heap ⟨hp.push { cls := .type "list_iterator", data := .fields #[.ref l1, .int 0 0] }, g, d, tk, os⟩) l2 ys := Heap.IsList.push m2 _
      wp_walk using wpAny_pyIter_list a1, wpAny_pyIter_list a2
      exact ⟨_, rfl, h⟩
    · have a1 : Heap.IsList (Shared.heap ⟨hp, g, d, tk, os⟩) l1 xs := m1
      have a2 : Heap.IsTuple (Shared.heap ⟨hp.push { cls := .type "list_iterator", data := .fields #[.ref l1, .int 0 0] }, g, d, tk, os⟩) l2 ys := Heap.IsTuple.push m2 _
      wp_walk using wpAny_pyIter_list a1, wpAny_pyIter_tuple a2
      exact ⟨_, rfl, h⟩
    · have a1 : Heap.IsTuple (Shared.heap ⟨hp, g, d, tk, os⟩) l1 xs := m1
      have a2 : Heap.IsList (Shared.heap ⟨hp.push { cls := .type "tuple_iterator", data := .fields #[.ref l1, .int 0 0] }, g, d, tk, os⟩) l2 ys := Heap.IsList.push m2 _
      wp_walk using wpAny_pyIter_tuple a1, wpAny_pyIter_list a2
      exact ⟨_, rfl, h⟩
    · have a1 : Heap.IsTuple (Shared.heap ⟨hp, g, d, tk, os⟩) l1 xs := m1
      have a2 : Heap.IsTuple (Shared.heap ⟨hp.push { cls := .type "tuple_iterator", data := .fields #[.ref l1, .int 0 0] }, g, d, tk, os⟩) l2 ys := Heap.IsTuple.push m2 _
      wp_walk using wpAny_pyIter_tuple a1, wpAny_pyIter_tuple a2
      exact ⟨_, rfl, h⟩
theorem call_zipK {t1 t2 : Bool} {l1 l2 : Addr} {xs ys : Array Value} {Q : Value → Shared → Prop} (m1 : SqK t1 s.heap l1 xs) (m2 : SqK t2 s.heap l2 ys)
    (h : ∀ g, IsZip g (s.heap.objs.size + 4) (s.heap.objs.size + 2) (s.heap.objs.size + 3) .none → IsPair g (s.heap.objs.size + 2) (.ref s.heap.objs.size) (.ref (s.heap.objs.size + 1)) →
      IsPair g (s.heap.objs.size + 3) .none .none → ItK t1 g s.heap.objs.size l1 0 → ItK t2 g (s.heap.objs.size + 1) l2 0 → g.objs.size = s.heap.objs.size + 5 →
      (∀ c o, s.heap.get? c = some o → g.get? c = some o) → Q (.ref (s.heap.objs.size + 4)) { s with heap := g }) :
    wpAny (model prog w) A (call (.type "zip") [.ref l1, .ref l2]) Q E s := by
  refine callType_new PySem.F.called_zip (by decide) (PySem.F.typeCall_zip_2 _ _) (PySem.F.newCall_zip_2 _ _) (fun obj => PySem.F.args_object_init_3 obj _ _) PySem.F.entry_zip_new (meets_zipK t1 t2 l1 l2 xs ys) ⟨m1, m2, ?_⟩
  have y1 : (s.heap.push (itO t1 l1)).objs.size = s.heap.objs.size + 1 := Heap.size_push ..
  have y2 : (zk2 t1 t2 s.heap l1 l2).objs.size = s.heap.objs.size + 2 := by rw [Heap.size_push, y1]
  have y3 : ((zk2 t1 t2 s.heap l1 l2).push { cls := .type "tuple", data := .seq #[.ref s.heap.objs.size, .ref (s.heap.push (itO t1 l1)).objs.size] }).objs.size = s.heap.objs.size + 3 := by rw [Heap.size_push, y2]
  have y4 : (zk4 t1 t2 s.heap l1 l2).objs.size = s.heap.objs.size + 4 := by rw [Heap.size_push, y3]
  have y5 : (zk5 t1 t2 s.heap l1 l2).objs.size = s.heap.objs.size + 5 := by rw [Heap.size_push, y4]
  have f1 : ∀ (t : Bool) (l : Addr), (itO t l).isFreed = false := fun t l => by cases t <;> rfl
  have e5 : (zk5 t1 t2 s.heap l1 l2).get? (zk4 t1 t2 s.heap l1 l2).objs.size = some _ := Heap.get?_push_size _ rfl
  have e4 : (zk5 t1 t2 s.heap l1 l2).get? ((zk2 t1 t2 s.heap l1 l2).push { cls := .type "tuple", data := .seq #[.ref s.heap.objs.size, .ref (s.heap.push (itO t1 l1)).objs.size] }).objs.size = some _ := Heap.get?_push_of_some _ (Heap.get?_push_size _ rfl)
  have e3 : (zk5 t1 t2 s.heap l1 l2).get? (zk2 t1 t2 s.heap l1 l2).objs.size = some _ := Heap.get?_push_of_some _ (Heap.get?_push_of_some _ (Heap.get?_push_size _ rfl))
  have e2 : (zk5 t1 t2 s.heap l1 l2).get? (s.heap.push (itO t1 l1)).objs.size = some (itO t2 l2) := Heap.get?_push_of_some _ (Heap.get?_push_of_some _ (Heap.get?_push_of_some _ (Heap.get?_push_size _ (f1 _ _))))
  have e1 : (zk5 t1 t2 s.heap l1 l2).get? s.heap.objs.size = some (itO t1 l1) := Heap.get?_push_of_some _ (Heap.get?_push_of_some _ (Heap.get?_push_of_some _ (Heap.get?_push_of_some _ (Heap.get?_push_size _ (f1 _ _)))))
  have iK : ∀ (t : Bool) (g : Heap) (c l : Addr), g.get? c = some (itO t l) → ItK t g c l 0 := fun t g c l e => by cases t <;> exact ⟨_, e, rfl, rfl⟩
  show _ ∧ _
  rw [y2, y3, y4] at e5
  rw [y1, y2] at e3
  rw [y3] at e4
  rw [y1] at e2
  rw [y4]
  exact ⟨⟨_, e5, rfl⟩, h _ e5 e3 e4 (iK _ _ _ _ e1) (iK _ _ _ _ e2) y5 fun c o q => Heap.get?_push_of_some _ (Heap.get?_push_of_some _ (Heap.get?_push_of_some _ (Heap.get?_push_of_some _ (Heap.get?_push_of_some _ q))))⟩
end
end L2
namespace L2
open PySem PySem.Spec PyProof.Rows
section
variable {X : Cx}
noncomputable def SqS (t : Bool) (K : PySem.W.Frag) (H : Hp) (a : Addr) (xs : List V) : Prop := if t then SqT K H a xs else SqL K H a xs
theorem SqK.lt {t : Bool} {h : Heap} {a : Addr} {vs : Array Value} (x : SqK t h a vs) : a < h.objs.size := by
  cases t
  · obtain ⟨o, e, _⟩ := x
    exact Heap.lt_size e
  · obtain ⟨o, e, _⟩ := x
    exact Heap.lt_size e
theorem Inv.sqs {pins : List (Addr × Obj)} {σ : St} {H : Hp} {s : Shared} {t : Bool} {a : Addr} {xs : List V} (I : Inv X pins σ H s) (h : SqS t X.K H a xs) : ∃ its : List Value, Vals xs its ∧ SqK t s.heap a its.toArray ∧ xs.length ≤ sizeLine := by
  cases t
  · obtain ⟨its, rv, p, z⟩ := I.list h
    exact ⟨its, rv, p.isList, z⟩
  · obtain ⟨its, rv, p, z⟩ := I.tuple h
    exact ⟨its, rv, p, z⟩
theorem Inv.sqs_inj {pins : List (Addr × Obj)} {σ : St} {H : Hp} {s : Shared} {t : Bool} {a : Addr} {xs ys : List V} (I : Inv X pins σ H s) (h : SqS t X.K H a xs) (g : SqS t X.K H a ys) : xs = ys := by
  cases t
  · exact I.list_inj h g
  · exact I.tuple_inj h g
theorem SqS.l {K : PySem.W.Frag} {H : Hp} {a : Addr} {xs : List V} (h : H a = some (.lst xs)) : SqS false K H a xs := SqL.of h
theorem SqS.t {K : PySem.W.Frag} {H : Hp} {a : Addr} {xs : List V} (h : H a = some (.tup xs)) : SqS true K H a xs := SqT.of h
noncomputable def Itk (K : PySem.W.Frag) (t1 t2 : Bool) (a b : Addr) : It :=
  ⟨fun i H => ∃ xs ys x y, SqS t1 K H a xs ∧ SqS t2 K H b ys ∧ xs[i]? = some x ∧ ys[i]? = some y,
   fun i H v H' => ∃ p x y, v = .ref p ∧ H p = none ∧ H' = upd H p (.tup [x, y]) ∧ (∀ xs, SqS t1 K H a xs → xs[i]? = some x) ∧ ∀ ys, SqS t2 K H b ys → ys[i]? = some y,
   fun i H => ∃ xs ys, SqS t1 K H a xs ∧ SqS t2 K H b ys ∧ (xs.length ≤ i ∨ ys.length ≤ i)⟩
theorem turn_zipK {t1 t2 : Bool} {P : Program} {w : World} {K : PySem.W.Frag} {es : List PySem.Expr} {kk : Nat} {pos : Pos} {a b z TI TO i1 i2 : Addr} (D : ZipApart z TI TO i1 i2 a b) :
    Turn P w K (.Tuple es kk pos) (Itk K t1 t2 a b) [z, TI, TO, i1, i2] z (fun i h => IsZip h z TI TO .none ∧ IsPair h TI (.ref i1) (.ref i2) ∧ (∃ u v, IsPair h TO u v) ∧ ItK t1 h i1 a i ∧ ItK t2 h i2 b i) where
  mem := by simp
  obj := fun i h st c hc => by
    obtain ⟨h1, h2, ⟨u, v, h3⟩, h4, h5⟩ := st
    simp only [List.mem_cons, List.not_mem_nil, or_false] at hc
    rcases hc with rfl | rfl | rfl | rfl | rfl
    · exact ⟨_, h1, fun v z => by have z' : Data.fields _ = Data.cell v := z; cases z'⟩
    · exact ⟨_, h2, fun v z => by have z' : Data.seq _ _ = Data.cell v := z; cases z'⟩
    · exact ⟨_, h3, fun v z => by have z' : Data.seq _ _ = Data.cell v := z; cases z'⟩
    · exact h4.obj
    · exact h5.obj
  keep := fun i h h' st k => by
    obtain ⟨h1, h2, ⟨u, v, h3⟩, h4, h5⟩ := st
    exact ⟨k z (by simp) _ h1, k TI (by simp) _ h2, ⟨u, v, k TO (by simp) _ h3⟩, h4.at fun o e => k i1 (by simp) o e, h5.at fun o e => k i2 (by simp) o e⟩
  item := by
    intro X hP hw hK hc i pins s σ H E I hf st hg
    subst hP hw hK
    obtain ⟨xs, ys, x, y, qa, qb, hx, hy⟩ := hg
    obtain ⟨its, rv, pa, _⟩ := I.sqs qa
    obtain ⟨jts, rw', pb, _⟩ := I.sqs qb
    obtain ⟨ux, hux, rx⟩ := rv.get hx
    obtain ⟨uy, huy, ry⟩ := rw'.get hy
    obtain ⟨h1, h2, ⟨u, v, h3⟩, h4, h5⟩ := st
    refine pyNextK_item D h1 h2 h3 h4 h5 pa pb (x := ux) (y := uy) (by simpa using hux) (by simpa using huy) fun h' a1 a2 a3 a4 a5 a6 k => ?_
    refine ⟨_, rfl, wpAny_letOwnedTupleGo_zip a1 fun h'' b1 sb => ?_⟩
    have hsz : s.heap.objs.size ≠ z := Nat.ne_of_gt (Heap.lt_size h1)
    have nfp : ∀ c ∈ [z, TI, TO, i1, i2], s.heap.objs.size ≠ c := fun c hc => by
      have : ∃ o, s.heap.get? c = some o := by
        obtain ⟨o4, g4, _⟩ := h4.obj
        obtain ⟨o5, g5, _⟩ := h5.obj
        simp only [List.mem_cons, List.not_mem_nil, or_false] at hc
        rcases hc with rfl | rfl | rfl | rfl | rfl
        · exact ⟨_, h1⟩
        · exact ⟨_, h2⟩
        · exact ⟨_, h3⟩
        · exact ⟨_, g4⟩
        · exact ⟨_, g5⟩
      obtain ⟨o, e⟩ := this
      exact Nat.ne_of_gt (Heap.lt_size e)
    have hn : H s.heap.objs.size = none := I.hok.fresh (Nat.le_refl _)
    have kk' : ∀ c o, c ∉ [z, TI, TO, i1, i2] → s.heap.get? c = some o → h''.get? c = some o := fun c o hc e =>
      (sb.2 c fun q => hc (by simp [q])).trans (k c o (fun q => hc (by simp [q])) (fun q => hc (by simp [q])) (fun q => hc (by simp [q])) (fun q => hc (by simp [q])) e)
    have tO : h''.get? s.heap.objs.size = some { cls := .type "tuple", data := .seq #[ux, uy] } := (sb.2 _ hsz).trans a5
    have nt : ∀ c u, H c = some u → c ∉ [z, TI, TO, i1, i2] := fun c u e hc => by
      have := (hf c hc).1
      rw [e] at this
      cases this
    have tupOk : ObjOk X.prog X.w (upd H s.heap.objs.size (.tup [x, y])) h'' s.heap.objs.size (.tup [x, y]) :=
      ⟨by show 2 ≤ sizeLine; decide, [ux, uy], .cons rx (.cons ry .nil), ⟨_, tO, rfl, _, rfl⟩, _, tO, rfl⟩
    have I1 : Inv X pins σ (upd H s.heap.objs.size (.tup [x, y])) { s with heap := h'' } := by
      refine I.step (g' := s.gens) (d' := s.drawn) (t' := s.toks) (ch := [z, TI, TO, i1, i2]) (fun c hc => ⟨(hf c hc).2.2.2.1, (hf c hc).2.1, (hf c hc).2.2.2.2.1, (hf c hc).2.2.2.2.2⟩) (fun c o _ _ hc e _ => kk' c o hc e) (fun c o _ _ hc e _ => ⟨o.slots, kk' c o hc e⟩)
        (fun c o _ e n => by rw [upd_ne (Nat.ne_of_lt (Heap.lt_size e))]; exact n) (fun c o hc e => ⟨o, kk' c o hc e⟩) (fun c vs e => by rw [upd_ne (ne_of_none e hn)]; exact e) (fun c o vs e => by rw [upd_ne (ne_of_none e hn)]; exact e)
        (fun c ps e => ⟨#[], by rw [upd_ne (ne_of_none e hn), e]; simp⟩) (fun m hm => ?_) (fun c o e => ?_) I.bare
      · obtain ⟨o, es', ep, ho, r⟩ := hm
        exact ⟨o, es', ep, kk' _ o (fun q => (hf _ q).2.1 rfl) ho, r⟩
      · by_cases hcs : c = s.heap.objs.size
        · subst hcs
          rw [upd_same] at e
          cases e
          exact tupOk
        · rw [upd_ne hcs] at e
          refine (I.hok c o e).stay (fun d v hd q => kk' d v ?_ q) (fun d q => by rw [upd_ne (ne_of_none q hn)]; exact q) fun d vs q => by rw [upd_ne (ne_of_none q hn)]; exact q
          rcases hd with hd | hd
          · rw [hd]; exact nt c o e
          · exact nt d _ hd
    have g4 : ItK t1 h'' i1 a (i + 1) := a3.at fun o e => (sb.2 _ D.i1z).trans e
    have g5 : ItK t2 h'' i2 b (i + 1) := a4.at fun o e => (sb.2 _ D.i2z).trans e
    have g2 : IsPair h'' TI (.ref i1) (.ref i2) := (sb.2 _ D.TIz).trans (k _ _ D.TIz D.TITO D.TIi1 D.TIi2 h2)
    have g3 : IsPair h'' TO ux uy := (sb.2 _ D.TOz).trans a2
    exact ⟨.ref s.heap.objs.size, _, I1, rfl, ⟨_, x, y, rfl, hn, rfl, fun xs' q => by rw [I.sqs_inj q qa]; exact hx, fun ys' q => by rw [I.sqs_inj q qb]; exact hy⟩, ⟨b1, g2, ⟨_, _, g3⟩, g4, g5⟩, fun c hc => by rw [upd_ne (Ne.symm (nfp c hc))]; exact (hf c hc).1⟩
  done := by
    intro X hP hw hK hc i pins s σ H E I hf st hg
    subst hP hw hK
    obtain ⟨xs, ys, qa, qb, hl⟩ := hg
    obtain ⟨its, rv, pa, _⟩ := I.sqs qa
    obtain ⟨jts, rw', pb, _⟩ := I.sqs qb
    obtain ⟨h1, h2, ⟨u, v, h3⟩, h4, h5⟩ := st
    have l1 := rv.length
    have l2 := rw'.length
    have hend : its.toArray[i]? = none ∨ jts.toArray[i]? = none := by
      rcases hl with hl | hl
      · exact .inl (by simp; (first | lia | omega))
      · exact .inr (by simp; (first | lia | omega))
    refine pyNextK_end (I.ok.hd hc) D h1 h2 h3 h4 h5 pa pb hend fun h' k => ⟨rfl, ?_⟩
    have kk' : ∀ c o, c ∉ [z, TI, TO, i1, i2] → s.heap.get? c = some o → h'.get? c = some o := fun c o hc e =>
      k c o (fun q => hc (by simp [q])) (fun q => hc (by simp [q])) (fun q => hc (by simp [q])) (fun q => hc (by simp [q])) e
    have nt : ∀ c u, H c = some u → c ∉ [z, TI, TO, i1, i2] := fun c u e hc => by
      have := (hf c hc).1
      rw [e] at this
      cases this
    refine I.step (g' := s.gens) (d' := s.drawn) (t' := s.toks) (ch := [z, TI, TO, i1, i2]) (fun c hc => ⟨(hf c hc).2.2.2.1, (hf c hc).2.1, (hf c hc).2.2.2.2.1, (hf c hc).2.2.2.2.2⟩) (fun c o _ _ hc e _ => kk' c o hc e) (fun c o _ _ hc e _ => ⟨o.slots, kk' c o hc e⟩)
      (fun _ _ _ _ n => n) (fun c o hc e => ⟨o, kk' c o hc e⟩) (fun _ _ e => e) (fun _ _ _ e => e) (fun c ps e => ⟨#[], by rw [e]; simp⟩) (fun m hm => ?_) (fun c o e => ?_) I.bare
    · obtain ⟨o, es', ep, ho, r⟩ := hm
      exact ⟨o, es', ep, kk' _ o (fun q => (hf _ q).2.1 rfl) ho, r⟩
    · refine (I.hok c o e).stay (fun d v hd q => kk' d v ?_ q) (fun _ q => q) fun _ _ q => q
      rcases hd with hd | hd
      · rw [hd]; exact nt c o e
      · exact nt d _ hd
  self := fun _ _ _ _ _ st h => wpAny_pyIter_zip st.1 h
noncomputable def iZipK (K : PySem.W.Frag) (t1 t2 : Bool) (ta : TA) : TI := fun σ H R => ta σ H fun vs H1 => ∃ a b, vs = [.ref a, .ref b] ∧ (∃ xs, SqS t1 K H1 a xs) ∧ (∃ ys, SqS t2 K H1 b ys) ∧ R (Itk K t1 t2 a b) H1
theorem pi_zipK {t1 t2 : Bool} {es : List PySem.Expr} {kk : Nat} {tpos : Pos} {a b : PySem.Expr} {ta : TA} {p pos : Pos} (hg : Gl X "zip") (hm : X.mg "zip" = none) (ha : PA X [a, b] ta) (hs : starEach [a, b] X.env = (false, eval a X.env) :: starEach [b] X.env := by rfl) (hs2 : (backTo pos (starEach [b] X.env)).any (·.1) = false := by rfl) :
    PI X (.Tuple es kk tpos) (.Call (.Name "zip" p) [a, b] [] pos) (iZipK X.K t1 t2 ta) := by
  intro pins s σ H R I h
  refine Call_ (ld_blt I hg hm PyProof.Rows.boot_zip (PyProof.Rows.callWith_type1 (thn (ha pos pins s σ H _ I h) fun us s1 ⟨vs, H1, I1, r1, q1⟩ => ?_) hs hs2))
  obtain ⟨la, lb, e, ⟨xs, qa⟩, ⟨ys, qb⟩, q⟩ := q1
  subst e
  obtain ⟨u1, u2, rfl, ra, rb⟩ := vals2 r1
  cases ra
  cases rb
  obtain ⟨its, rv, pa, _⟩ := I1.sqs qa
  obtain ⟨jts, rw', pb, _⟩ := I1.sqs qb
  have lta : la < s1.heap.objs.size := by
    exact pa.lt
  have ltb : lb < s1.heap.objs.size := by
    exact pb.lt
  refine call_zipK pa pb fun h' z1 z2 z3 z4 z5 zs zk => ?_
  refine wpAny_pyIter_zip z1 ?_
  have I2 : Inv X pins σ H1 { s1 with heap := h' } := I1.kept (t' := s1.toks) zk
  have D : ZipApart (s1.heap.objs.size + 4) (s1.heap.objs.size + 2) (s1.heap.objs.size + 3) s1.heap.objs.size (s1.heap.objs.size + 1) la lb := by
    have la' : @LT.lt Nat _ la s1.heap.objs.size := lta
    have lb' : @LT.lt Nat _ lb s1.heap.objs.size := ltb
    constructor <;> (show @Ne Nat _ _; (first | lia | omega))
  refine ⟨s1.heap.objs.size + 4, _, _, _, H1, rfl, I2, turn_zipK D, ⟨z1, z2, ⟨_, _, z3⟩, z4, z5⟩, fun c hc => ?_, q⟩
  have hge : s1.heap.objs.size ≤ c := by
    simp only [List.mem_cons, List.not_mem_nil, or_false] at hc
    rcases hc with rfl | rfl | rfl | rfl | rfl <;> (first | lia | omega)
  have f := I1.fpOk (H' := H1) hge (I1.hok.fresh hge)
  exact f
end
end L2
namespace L2
open PySem PySem.Spec PyProof.Rows
section
variable {X : Cx}
end
end L2
namespace L2
open PySem PySem.Spec PyProof.Rows PySem.W
section
variable {prog : Program} {w : World} {A : Around} {E : Value → Shared → Prop} {K : Frag} {h : Heap} {g : Array GenState} {d : Drawn} {t : Nat} {os : OsState} {a C : Addr} {o : Obj}
end
section
variable {X : Cx}
end
end L2
namespace My
open PySem L2
noncomputable def del (H : Hp) (a : Addr) : Hp := fun b => if b = a then none else H b
theorem del_self (H : Hp) (a : Addr) : del H a a = none := if_pos rfl
theorem del_ne {H : Hp} {a b : Addr} (h : b ≠ a) : del H a b = H b := if_neg h
theorem del_sub (H : Hp) (a : Addr) : Same (del H a) H := fun b o e => by
  by_cases h : b = a
  · subst h; rw [del_self] at e; cases e
  · rw [del_ne h] at e; exact e
theorem del_mono {H H' : Hp} (a : Addr) (s : Same H H') : Same (del H a) (del H' a) := fun b o e => by
  by_cases h : b = a
  · subst h; rw [del_self] at e; cases e
  · rw [del_ne h] at e ⊢; exact s _ _ e
theorem del_up (H : Hp) (a : Addr) (o : HO) : Same (del H a) (upd H a o) := fun b u e => by
  by_cases h : b = a
  · subst h; rw [del_self] at e; cases e
  · rw [del_ne h] at e; rw [upd_ne h]; exact e
theorem del_upd (H : Hp) (a : Addr) (o : HO) : del (upd H a o) a = del H a := by
  funext b
  by_cases h : b = a
  · subst h; rw [del_self, del_self]
  · rw [del_ne h, del_ne h, upd_ne h]
theorem del_new {H : Hp} {a : Addr} (h : H a = none) : del H a = H := by
  funext b
  by_cases z : b = a
  · subst z; rw [del_self, h]
  · exact del_ne z
theorem del_at {H : Hp} {a b : Addr} {o : HO} (e : H b = some o) (h : b ≠ a) : del H a b = some o := by rw [del_ne h]; exact e
section
variable {α : Type} {R : Hp → Addr → α → Prop}
noncomputable def At (R : Hp → Addr → α → Prop) (H : Hp) (bs : List Addr) (xs : List α) : Prop := bs.length = xs.length ∧ ∀ (i : Nat) (b : Addr) (x : α), bs[i]? = some b → xs[i]? = some x → R H b x
noncomputable def Mo (R : Hp → Addr → α → Prop) : Prop := ∀ {H H' : Hp} {b : Addr} {x : α}, Same H H' → R H b x → R H' b x
theorem At.nil {H : Hp} : At R H [] [] := ⟨rfl, fun i b x e => by simp at e⟩
theorem At.keep {H H' : Hp} {bs : List Addr} {xs : List α} (h : At R H bs xs) (m : Mo R) (s : Same H H') : At R H' bs xs := ⟨h.1, fun i b x e1 e2 => m s (h.2 i b x e1 e2)⟩
theorem At.snoc {H : Hp} {bs : List Addr} {xs : List α} {b : Addr} {x : α} (h : At R H bs xs) (r : R H b x) : At R H (bs ++ [b]) (xs ++ [x]) := by
  refine ⟨by simp [h.1], fun i c y e1 e2 => ?_⟩
  have hl := h.1
  rcases Nat.lt_or_ge i bs.length with z | z
  · rw [List.getElem?_append_left z] at e1
    rw [List.getElem?_append_left (by (first | lia | omega))] at e2
    exact h.2 i c y e1 e2
  · rw [List.getElem?_append_right z] at e1
    rw [List.getElem?_append_right (by (first | lia | omega))] at e2
    rw [hl] at e1
    cases hi : i - xs.length with
    | zero => rw [hi] at e1 e2; cases e1; cases e2; exact r
    | succ k => rw [hi] at e1; simp at e1
theorem At.app {H : Hp} {bs cs : List Addr} {xs ys : List α} (h : At R H bs xs) (g : At R H cs ys) : At R H (bs ++ cs) (xs ++ ys) := by
  refine ⟨by simp [h.1, g.1], fun i c y e1 e2 => ?_⟩
  have hl := h.1
  rcases Nat.lt_or_ge i bs.length with z | z
  · rw [List.getElem?_append_left z] at e1
    rw [List.getElem?_append_left (by (first | lia | omega))] at e2
    exact h.2 i c y e1 e2
  · rw [List.getElem?_append_right z] at e1
    rw [List.getElem?_append_right (by (first | lia | omega))] at e2
    rw [hl] at e1
    exact g.2 _ c y e1 e2
theorem At.take {H : Hp} {bs : List Addr} {xs : List α} (h : At R H bs xs) (k : Nat) : At R H (bs.take k) (xs.take k) := by
  refine ⟨by simp [h.1], fun i c y e1 e2 => ?_⟩
  rw [List.getElem?_take] at e1 e2
  split at e1
  · rename_i hk; rw [if_pos hk] at e2; exact h.2 i c y e1 e2
  · cases e1
theorem At.drop {H : Hp} {bs : List Addr} {xs : List α} (h : At R H bs xs) (k : Nat) : At R H (bs.drop k) (xs.drop k) := by
  refine ⟨by simp [h.1], fun i c y e1 e2 => ?_⟩
  rw [List.getElem?_drop] at e1 e2
  exact h.2 _ c y e1 e2
theorem At.set {H : Hp} {bs : List Addr} {xs : List α} {b : Addr} {x : α} (h : At R H bs xs) (k : Nat) (r : R H b x) : At R H (bs.set k b) (xs.set k x) := by
  refine ⟨by simp [h.1], fun i c y e1 e2 => ?_⟩
  rw [List.getElem?_set] at e1 e2
  by_cases hk : k = i
  · subst hk
    have hl := h.1
    by_cases hb : k < bs.length
    · rw [if_pos rfl, if_pos hb] at e1
      rw [if_pos rfl, if_pos (by (first | lia | omega))] at e2
      cases e1; cases e2; exact r
    · rw [if_pos rfl, if_neg hb] at e1; cases e1
  · rw [if_neg hk] at e1 e2
    exact h.2 _ c y e1 e2
theorem At.get {H : Hp} {bs : List Addr} {xs : List α} {i : Nat} {x : α} (h : At R H bs xs) (e : xs[i]? = some x) : ∃ b, bs[i]? = some b ∧ R H b x := by
  have hi : i < bs.length := by rw [h.1]; exact (List.getElem?_eq_some_iff.mp e).1
  exact ⟨bs[i], List.getElem?_eq_getElem hi, h.2 i _ x (List.getElem?_eq_getElem hi) e⟩
theorem At.ref {H : Hp} {bs : List Addr} {xs : List α} {i : Nat} {v : V} (h : At R H bs xs) (e : (bs.map V.ref)[i]? = some v) : ∃ b x, v = .ref b ∧ bs[i]? = some b ∧ xs[i]? = some x ∧ R H b x := by
  rw [List.getElem?_map] at e
  cases q : bs[i]? with
  | none => rw [q] at e; cases e
  | some b =>
    rw [q] at e
    have hi : i < xs.length := by rw [← h.1]; exact (List.getElem?_eq_some_iff.mp q).1
    exact ⟨b, xs[i], (Option.some.inj e).symm, rfl, List.getElem?_eq_getElem hi, h.2 i b _ q (List.getElem?_eq_getElem hi)⟩
theorem ref_at {bs : List Addr} {i : Nat} {b : Addr} (h : bs[i]? = some b) : (bs.map V.ref)[i]? = some (.ref b) := by rw [List.getElem?_map, h]; rfl
noncomputable def TupR (R : Hp → Addr → α → Prop) (H : Hp) (b : Addr) (xs : List α) : Prop := ∃ bs : List Addr, H b = some (.tup (bs.map V.ref)) ∧ At R H bs xs
noncomputable def LstR (R : Hp → Addr → α → Prop) (H : Hp) (b : Addr) (xs : List α) : Prop := ∃ bs : List Addr, H b = some (.lst (bs.map V.ref)) ∧ At R H bs xs
theorem mo_tup (m : Mo R) : Mo (TupR R) := fun s ⟨bs, e, h⟩ => ⟨bs, s _ _ e, h.keep m s⟩
theorem mo_lst (m : Mo R) : Mo (LstR R) := fun s ⟨bs, e, h⟩ => ⟨bs, s _ _ e, h.keep m s⟩
end
noncomputable def FrR (H : Hp) (b : Addr) (q : Rat) : Prop := H b = some (.tup [.int q.num, .int q.den])
noncomputable def IntsL (H : Hp) (b : Addr) (ns : List Int) : Prop := H b = some (.lst (ns.map V.int))
theorem mo_fr : Mo FrR := fun s h => s _ _ h
theorem mo_ints : Mo IntsL := fun s h => s _ _ h
theorem FrR.del {H : Hp} {a b : Addr} {q : Rat} {ys : List V} (h : FrR H b q) (e : H a = some (.lst ys)) : FrR (del H a) b q := del_at h fun z => by rw [z] at h; unfold FrR at h; rw [e] at h; cases h
theorem at_del {H : Hp} {a : Addr} {ys : List V} (e : H a = some (.lst ys)) {bs : List Addr} {qs : List Rat} (h : At FrR H bs qs) : At FrR (del H a) bs qs := ⟨h.1, fun i b x e1 e2 => (h.2 i b x e1 e2).del e⟩
structure Run (J : It) (H1 : Hp) (n : Nat) (f : Nat → Hp → V → Hp → Prop) : Prop where
  go : ∀ i H2, i < n → Same H1 H2 → J.go i H2
  yl : ∀ i H2 x H3, i < n → Same H1 H2 → J.yld i H2 x H3 → f i H2 x H3
  st : ∀ H2, Same H1 H2 → J.stop n H2
section
variable {K : PySem.W.Frag}
theorem run_tup {H : Hp} {a : Addr} {xs : List V} (h : H a = some (.tup xs)) : Run (Itt K a) H xs.length (fun i H2 x H3 => H3 = H2 ∧ xs[i]? = some x) :=
  ⟨fun i H2 hi s => ⟨xs, xs[i], SqT.of (s _ _ h), List.getElem?_eq_getElem hi⟩, fun i H2 x H3 _ s y => ⟨y.1, y.2 _ (SqT.of (s _ _ h))⟩, fun H2 s => ⟨xs, SqT.of (s _ _ h), Nat.le_refl _⟩⟩
theorem run_list {H : Hp} {a : Addr} {xs : List V} (h : H a = some (.lst xs)) : Run (Itl K a) H xs.length (fun i H2 x H3 => H3 = H2 ∧ xs[i]? = some x) :=
  ⟨fun i H2 hi s => ⟨xs, xs[i], SqL.of (s _ _ h), List.getElem?_eq_getElem hi⟩, fun i H2 x H3 _ s y => ⟨y.1, y.2 _ (SqL.of (s _ _ h))⟩, fun H2 s => ⟨xs, SqL.of (s _ _ h), Nat.le_refl _⟩⟩
theorem run_range {H : Hp} {lo : Int} {n : Nat} : Run (Itr lo n) H n (fun i H2 x H3 => H3 = H2 ∧ x = .int (lo + i)) := ⟨fun _ _ hi _ => hi, fun _ _ _ _ _ _ y => y, fun _ _ => Nat.le_refl _⟩
theorem run_zip {H : Hp} {a b : Addr} {t1 t2 : Bool} {xs ys : List V} (h1 : ∀ H2, Same H H2 → SqS t1 K H2 a xs) (h2 : ∀ H2, Same H H2 → SqS t2 K H2 b ys) (hl : xs.length = ys.length) :
    Run (Itk K t1 t2 a b) H xs.length (fun i H2 x H3 => ∃ p u v, x = .ref p ∧ H2 p = none ∧ H3 = upd H2 p (.tup [u, v]) ∧ xs[i]? = some u ∧ ys[i]? = some v) :=
  ⟨fun i H2 hi s => ⟨xs, ys, xs[i], ys[i], h1 _ s, h2 _ s, List.getElem?_eq_getElem hi, List.getElem?_eq_getElem (by (first | lia | omega))⟩, fun i H2 x H3 _ s y => by
    obtain ⟨p, u, v, e1, e2, e3, e4, e5⟩ := y
    exact ⟨p, u, v, e1, e2, e3, e4 _ (h1 _ s), e5 _ (h2 _ s)⟩, fun H2 s => ⟨xs, ys, h1 _ s, h2 _ s, .inl (Nat.le_refl _)⟩⟩
theorem comp_run {J : It} {n : Nat} {H1 : Hp} {f : Nat → Hp → V → Hp → Prop} {acc : Addr} {σ0 : St} {g : TG} {te : TE} {G : Hp → Prop} (r : Run J H1 n f) (hn : n ≤ 1000) (hacc : H1 acc = none) (Iv : Nat → List V → St → Hp → Prop) (h0 : Iv 0 [] σ0 H1)
    (hs : ∀ (i : Nat) (ys : List V) (σ : St) (H2 : Hp) (x : V) (H3 : Hp), i < n → Same H1 H2 → H2 acc = some (.lst ys) → Iv i ys σ (del H2 acc) → f i H2 x H3 → ∀ C : St → VK, (∀ (σ4 : St) (v : V) (H5 : Hp), Same H2 H5 → Iv (i + 1) (ys ++ [v]) σ4 (del H5 acc) → C σ4 v H5) →
      g x σ H3 fun σ4 H4 => te σ4 H4 (C σ4))
    (fin : ∀ (ys : List V) (σ : St) (H2 : Hp), Same H1 H2 → H2 acc = some (.lst ys) → ys.length = n → Iv n ys σ (del H2 acc) → G H2) :
    ∃ W : Nat → Nat → List V → St → Hp → Prop, (∃ m, W 0 m [] σ0 (upd H1 acc (.lst []))) ∧ ∀ i m ys σc H2, W i m ys σc H2 →
      (J.stop i H2 ∧ G H2) ∨ (J.go i H2 ∧ ∀ x H3, J.yld i H2 x H3 → g x σc H3 fun σ4 H4 => te σ4 H4 fun v H5 => H5 acc = some (.lst ys) ∧ ys.length < sizeLine ∧ ∃ m', m' < m ∧ W (i + 1) m' (ys ++ [v]) σ4 (upd H5 acc (.lst (ys ++ [v])))) := by
  refine ⟨fun i m ys σ H2 => m = n - i ∧ i ≤ n ∧ Same H1 H2 ∧ H2 acc = some (.lst ys) ∧ ys.length = i ∧ Iv i ys σ (del H2 acc), ⟨n, rfl, Nat.zero_le _, ?_, upd_same, rfl, ?_⟩, ?_⟩
  · intro b o e; rw [upd_ne (ne_of_none e hacc)]; exact e
  · rw [del_upd, del_new hacc]; exact h0
  · rintro i m ys σc H2 ⟨rfl, hi, sm, ha, hl, iv⟩
    rcases Nat.lt_or_ge i n with hlt | hge
    · refine .inr ⟨r.go i H2 hlt sm, fun x H3 yl => ?_⟩
      refine hs i ys σc H2 x H3 hlt sm ha iv (r.yl i H2 x H3 hlt sm yl) (fun σ4 v H5 => H5 acc = some (.lst ys) ∧ ys.length < sizeLine ∧ ∃ m', m' < n - i ∧ (m' = n - (i + 1) ∧ i + 1 ≤ n ∧ Same H1 (upd H5 acc (.lst (ys ++ [v]))) ∧ (upd H5 acc (.lst (ys ++ [v]))) acc = some (.lst (ys ++ [v])) ∧ (ys ++ [v]).length = i + 1 ∧ Iv (i + 1) (ys ++ [v]) σ4 (del (upd H5 acc (.lst (ys ++ [v]))) acc))) ?_
      intro σ4 v H5 s5 iv5
      refine ⟨s5 _ _ ha, by rw [sizeLine_eq]; (first | lia | omega), n - (i + 1), by (first | lia | omega), rfl, hlt, ?_, upd_same, by simp [hl], ?_⟩
      · intro b o e; rw [upd_ne (ne_of_none e hacc)]; exact s5 _ _ (sm _ _ e)
      · rw [del_upd]; exact iv5
    · obtain rfl : i = n := by (first | lia | omega)
      exact .inl ⟨r.st H2 sm, fin ys σc H2 sm ha hl iv⟩
end
end My
namespace My
open PySem L2 PySem.Spec PyProof.Rows
section
variable {X : Cx} {pins : List (Addr × Obj)} {σ : L2.St} {H : Hp} {s : Shared}
noncomputable def isNo (H : Hp) : Value → Bool
  | .ref b => match H b with
    | some (.tup [.int n, .int d]) => n == 0 && d == 1
    | _ => false
  | _ => false
end
end My
namespace L2
open PySem PySem.Spec PyProof.Rows
section
variable {X : Cx}
noncomputable def rIndex : V → List V → Hp → VK → Prop := fun x vs H Q => ∃ (l : Addr) (ns : List Int) (k : Int), x = .ref l ∧ vs = [.int k] ∧ H l = some (.lst (ns.map V.int)) ∧ k ∈ ns ∧ ns.length ≤ 1000000 ∧ Q (.int ((ns.idxOf k : Nat) : Int)) H
theorem mt_index : MtM X "list.index" rIndex := by
  intro pins s σ H x vs v us Q I rx rv h
  obtain ⟨l, ns, k, rfl, rfl, hH, hk, hz, q⟩ := h
  cases rx
  obtain ⟨u, rfl, ru⟩ := rv.one
  obtain ⟨t, rfl⟩ := ru
  obtain ⟨z, its, n, r, hl, e⟩ := I.lstM hH
  have hi := intsAre_of r
  have hlen := hi.length
  have hj : ns.idxOf k < ns.length := List.idxOf_lt_length_iff.mpr hk
  refine call_meets PySem.F.slot_list_index ⟨_, e, rfl⟩ PySem.F.entry_list_index (PySem.F.args_list_index_2 _ _)
    (MeetsSeq.list_index l its.toArray n (.int k t) (isInt k) (fun y hy => eq_isInt k t hi y (by simpa using hy)) (ns.idxOf k) (by simpa [hlen] using hj) (by (first | lia | omega)) ?_ ?_) ⟨e, ⟨.int ((ns.idxOf k : Nat) : Int), H, I.tok _, ⟨_, rfl⟩, q⟩⟩
  · show isInt k its[ns.idxOf k] = true
    rw [isInt_at k hi _ (by (first | lia | omega)) hj]
    simpa using List.getElem_idxOf hj
  · intro j hjs hlt
    show isInt k its[j] = false
    rw [isInt_at k hi j (by simpa using hjs) (by (first | lia | omega))]
    exact ne_of_lt_idxOf hlt _
theorem flat_ints (ns : List Int) : (ns.map V.int).all flatV = true := by
  induction ns with
  | nil => rfl
  | cons n ns ih => rw [List.map_cons, List.all_cons, ih]; rfl
theorem inV_ints (k : Int) (ns : List Int) : inV (.int k) (ns.map V.int) = decide (k ∈ ns) := by
  unfold inV
  induction ns with
  | nil => rfl
  | cons n ns ih =>
    rw [List.map_cons, List.any_cons, ih]
    have e : eqV (.int n) (.int k) = decide (k = n) := by
      show decide (n = k) = decide (k = n)
      by_cases h : n = k
      · rw [decide_eq_true h, decide_eq_true h.symm]
      · rw [decide_eq_false h, decide_eq_false (fun z => h z.symm)]
    rw [e]
    by_cases h : k = n
    · simp [h]
    · simp [h]
end
end L2
namespace L2
open PySem PySem.Spec PyProof.Rows
section
variable {X : Cx} {K : PySem.W.Frag}
theorem ixT (h : X.K = K := by rfl) : IxR X (rIxT K) := h ▸ ix_tup
theorem ixL (h : X.K = K := by rfl) : IxR X (rIxL K) := h ▸ ix_list
theorem callLen (h : X.K = K := by rfl) : CallR X (.builtin "len") (fun xs H Q => ∃ p ys, xs = [.ref p] ∧ (SqL K H p ys ∨ SqT K H p ys) ∧ Q (.int ys.length) H) := h ▸ call_len_seq
theorem piTup {tg l : PySem.Expr} {tl : TE} (hl : PE X l tl) (h : X.K = K := by rfl) : PI X tg l (iTup K tl) := h ▸ pi_tup hl
theorem piLst {tg l : PySem.Expr} {tl : TE} (hl : PE X l tl) (h : X.K = K := by rfl) : PI X tg l (iList K tl) := h ▸ pi_list hl
end
end L2
namespace L2
open PySem PySem.Spec PyProof.Rows
section
variable {prog : Program} {w : World} {A : Around} {E : Value → Shared → Prop} {s : Shared}
end
section
variable {X : Cx}
end
end L2
namespace L2
open PySem PySem.Spec PyProof.Rows PySem.SeqAt
section
variable {prog : Program} {w : World} {A : Around} {E : Value → Shared → Prop}
end
section
variable {X : Cx}
end
end L2
namespace HT
open PySem PySem.Spec PyProof.Rows L2
section
variable {prog : Program} {w : World} {A : Around} {E : Value → Shared → Prop} {s : Shared}
end
end HT
namespace L2
open PySem PySem.Spec PyProof.Rows
section
variable {X : Cx} {K : PySem.W.Frag}
end
end L2
namespace L2
open PySem PySem.Spec PyProof.Rows
section
variable {X : Cx}
end
end L2
namespace L2
open PySem PySem.Spec PyProof.Rows
section
variable {X : Cx}
variable {o e : Expr} {es : List Expr} {to : TE} {t : TA} {name : Str} {apos cpos : Pos} {id : String} {r : V → List V → Hp → VK → Prop}
end
end L2
namespace L2
open PySem PySem.Spec PyProof.Rows
section
variable {X : Cx} {pins : List (Addr × Obj)} {σ : L2.St} {H : Hp} {s : Shared}
end
end L2
namespace L2
open PySem PySem.Spec PyProof.Rows
section
variable {X : Cx}
end
section
variable {prog : Program} {w : World} {A : Around} {E : Value → Shared → Prop} {s : Shared}
end
section
variable {X : Cx}
end
end L2
namespace L2
open PySem PySem.Spec PyProof.Rows
noncomputable def tLsR (ta : TE) : TE := fun σ H Q => ta σ H fun v H1 => ∃ n : Nat, v = .int (n : Int) ∧ n ≤ 1000 ∧ ∀ l, H1 l = none → Q (.ref l) (upd H1 l (.lst ((List.range n).map fun i : Nat => V.int (i : Int))))
theorem vals_get : ∀ {xs : List V} {us : List Value}, xs.length = us.length → (∀ (i : Nat) (x : V) (u : Value), xs[i]? = some x → us[i]? = some u → RelV x u) → Vals xs us
  | [], [], _, _ => .nil
  | [], _ :: _, h, _ => by simp at h
  | _ :: _, [], h, _ => by simp at h
  | x :: xs, u :: us, h, g => .cons (g 0 x u rfl rfl) (vals_get (by simpa using h) fun i y v e1 e2 => g (i+1) y v (by simpa using e1) (by simpa using e2))
theorem bt_list : bootBuiltins "list" = some (.type "list") := by decide +kernel
section
variable {X : Cx}
theorem pe_listRange {a : PySem.Expr} {ta : TE} {p p' rpos pos : Pos} (hc : X.calm = true) (hg : Gl X "list") (hm : X.mg "list" = none) (hg2 : Gl X "range") (hm2 : X.mg "range" = none) (ha : PE X a ta)
    (hs : starEach [.Call (.Name "range" p') [a] [] rpos] X.env = [(false, eval (.Call (.Name "range" p') [a] [] rpos) X.env)] := by rfl) (hs2 : starEach [a] X.env = [(false, eval a X.env)] := by rfl) :
    PE X (.Call (.Name "list" p) [.Call (.Name "range" p') [a] [] rpos] [] pos) (tLsR ta) := by
  intro pins s σ H Q I h
  refine wpAny_Call_Name_kw (ld_blt I hg hm bt_list ?_ (by decide) (by decide))
  refine PyProof.Rows.callWith_type1 ?_ (by rw [hs]; rfl) (by rfl)
  rw [hs]
  refine Calls.spliced_cons ?_
  refine wpAny_Call_Name_kw (ld_blt I hg2 hm2 boot_range ?_ (by decide) (by decide))
  have PAl : PA X [a] (tCons ta tNil) := pa_cons ha pa_nil (by rw [hs2]; rfl)
  have hq : tCons ta tNil σ H (fun vs H1 => match vs with
      | [v] => ∃ n : Nat, v = .int (n : Int) ∧ n ≤ 1000 ∧ ∀ l, H1 l = none → Q (.ref l) (upd H1 l (.lst ((List.range n).map fun i : Nat => V.int (i : Int))))
      | _ => False) := h
  refine PyProof.Rows.callWith_type1 (thn (PAl rpos pins _ σ H _ I hq) fun us s2 ⟨vs, H2, I2, r2, q2⟩ => ?_) (by rw [hs2]; rfl) (by rfl)
  cases r2 with
  | nil => exact False.elim q2
  | cons r rr =>
    cases rr with
    | cons _ _ => exact False.elim q2
    | nil =>
      obtain ⟨n, rfl, hn, q⟩ := q2
      obtain ⟨t, rfl⟩ := r
      refine call_range_1 (Calls.spliced_nil ?_)
      refine call_list_range (n := n) (I2.ok.hd hc) (IsRange.new ..) (small_one (by (first | lia | omega)) (by (first | lia | omega)) (by (first | lia | omega)) (by (first | lia | omega))) (by rw [rangeSize_one]; split <;> (first | lia | omega)) (by (first | lia | omega)) fun h' tk acc c hk hS hI => ?_
      obtain ⟨hl, hI⟩ := hI
      have hz : ((List.range n).map fun i : Nat => V.int (i : Int)).length ≤ sizeLine := by rw [List.length_map, List.length_range, sizeLine_eq]; (first | lia | omega)
      have rv : Vals ((List.range n).map fun i : Nat => V.int (i : Int)) acc.toList := by
        refine vals_get (by rw [List.length_map, List.length_range, Array.length_toList, hl]) fun i x u e1 e2 => ?_
        have hi : i < n := by
          have := (List.getElem?_eq_some_iff.mp e2).1
          rw [Array.length_toList, hl] at this
          exact this
        rw [List.getElem?_map, List.getElem?_range hi] at e1
        obtain ⟨t', ht⟩ := hI i u (by rw [← Array.getElem?_toList]; exact e2)
        cases e1
        exact ⟨t', by rw [ht]; congr 1; (first | lia | omega)⟩
      have fin : ∀ h1 : Heap, (∀ b o, s2.heap.get? b = some o → h1.get? b = some o) → (∀ b o, h1.get? b = some o → h'.get? b = some o) → h'.get? h1.objs.size = some { cls := .type "list", dict := none, data := .seq acc c, slots := #[] } → EP X pins σ Q (.ref h1.objs.size) { s2 with heap := h', toks := tk } := fun h1 k1 k2 hS => by
        have I3 := I2.kept (h' := h1) (t' := tk) k1
        exact ⟨.ref _, _, I3.laid (t' := tk) k2 (Nat.le_refl _) (show ObjOk X.prog X.w _ h' _ (.lst _) from ⟨hz, acc.toList, c, rv, hS⟩), rfl, q _ (I3.hok.fresh (Nat.le_refl _))⟩
      exact fin _ (fun b o e => Heap.get?_push_of_some _ e) hk hS
end
end L2
namespace L2
open PySem PySem.Spec PyProof.Rows
section
variable {X : Cx}
end
end L2
namespace L2
open PySem PySem.Spec PyProof.Rows
section
variable {X : Cx}
noncomputable def rCatA (K : PySem.W.Frag) : R2 := fun x y H Q => ∃ a b xs ys, x = .ref a ∧ y = .ref b ∧ SqT K H a xs ∧ SqT K H b ys ∧ ys ≠ [] ∧ xs.length + ys.length ≤ sizeLine ∧
  (xs = [] → Q (.ref b) H) ∧ (xs ≠ [] → ∀ p, H p = none → Q (.ref p) (upd H p (.tup (xs ++ ys))))
theorem op_catA : OpR X (binaryOp .Add) (rCatA X.K) := by
  intro pins s σ H x y v u Q I rx ry h
  obtain ⟨a, b, xs, ys, rfl, rfl, ha, hb, hy, hz, q1, q2⟩ := h
  by_cases hx : xs = []
  · cases rx
    cases ry
    obtain ⟨its, r1, p1, _⟩ := I.tuple ha
    obtain ⟨its2, r2, p2, _⟩ := I.tuple hb
    have e0 : its = [] := r1.nil_iff.mpr hx
    obtain ⟨⟨cls, dd, data, sl⟩, ho, hc, n, hd⟩ := id p1
    obtain ⟨⟨cls2, dd2, data2, sl2⟩, ho2, hc2, n2, hd2⟩ := id p2
    simp only at hc hd hc2 hd2
    subst hc hd hc2 hd2
    exact concat_meets ⟨_, ho, rfl⟩ ⟨_, ho2, rfl⟩ noFill_tuple_add seq_tuple_add PySem.F.slot_tuple_add PySem.F.entry_tuple_add (PySem.F.args_tuple_add_2 _ _)
      (tuple_addW0 a b its.toArray its2.toArray n n2 dd dd2 sl sl2 (by simp [e0])) ⟨ho, ho2, ⟨.ref b, H, I, rfl, q1 hx⟩⟩
  · exact op_catT pins s σ H _ _ v u Q I rx ry ⟨a, b, xs, ys, rfl, rfl, ha, hb, hx, hz, fun z => absurd z hy, fun _ => q2 hx⟩
end
end L2
namespace Mth
theorem gcd_fmod (a b : Int) : Int.gcd b (a.fmod b) = Int.gcd a b := by
  rw [Int.fmod_def]
  have e : a - b * a.fdiv b = a + b * (-(a.fdiv b)) := by rw [Int.mul_neg, Int.sub_eq_add_neg]
  rw [e, Int.gcd_add_mul_left_right, Int.gcd_comm]
theorem fmod_lt (a b : Int) (h : b ≠ 0) : (a.fmod b).natAbs < b.natAbs := by
  rw [Int.fmod_eq_emod]
  have h1 := Int.emod_nonneg a h
  have h2 := Int.emod_lt a h
  split
  · (first | lia | omega)
  · rename_i z
    have : ¬ b ∣ a := fun q => z (Or.inr q)
    have hz : a % b ≠ 0 := fun q => this (Int.dvd_of_emod_eq_zero q)
    (first | lia | omega)
noncomputable def part (t b : Int) : Int := if b < 0 then -(Int.gcd t b : Int) else (Int.gcd t b : Int)
noncomputable def frac (t b : Int) : Int × Int := (t.fdiv (part t b), b.fdiv (part t b))
theorem gcd_pos (t b : Int) (h : b ≠ 0) : 0 < Int.gcd t b := Int.gcd_pos_of_ne_zero_right _ h
theorem part_ne (t b : Int) (h : b ≠ 0) : part t b ≠ 0 := by
  have := gcd_pos t b h
  unfold part; split <;> (first | lia | omega)
theorem part_dvd_l (t b : Int) : part t b ∣ t := by
  unfold part; split
  · exact Int.neg_dvd.mpr (Int.gcd_dvd_left t b)
  · exact Int.gcd_dvd_left t b
theorem part_dvd_r (t b : Int) : part t b ∣ b := by
  unfold part; split
  · exact Int.neg_dvd.mpr (Int.gcd_dvd_right t b)
  · exact Int.gcd_dvd_right t b
theorem frac_l (t b : Int) : (frac t b).1 * part t b = t := by
  show t.fdiv (part t b) * part t b = t
  rw [Int.fdiv_eq_ediv_of_dvd (part_dvd_l t b), Int.ediv_mul_cancel (part_dvd_l t b)]
theorem frac_r (t b : Int) : (frac t b).2 * part t b = b := by
  show b.fdiv (part t b) * part t b = b
  rw [Int.fdiv_eq_ediv_of_dvd (part_dvd_r t b), Int.ediv_mul_cancel (part_dvd_r t b)]
theorem frac_pos (t b : Int) (h : b ≠ 0) : 0 < (frac t b).2 := by
  have e := frac_r t b
  have g := gcd_pos t b h
  rcases Int.lt_or_lt_of_ne h with h1 | h1
  · have hp : part t b < 0 := by unfold part; rw [if_pos h1]; (first | lia | omega)
    rcases Int.lt_or_le 0 (frac t b).2 with q | q
    · exact q
    · have : 0 ≤ (frac t b).2 * part t b := Int.mul_nonneg_of_nonpos_of_nonpos q (Int.le_of_lt hp)
      (first | lia | omega)
  · have hp : 0 < part t b := by unfold part; rw [if_neg (by (first | lia | omega))]; (first | lia | omega)
    rcases Int.lt_or_le 0 (frac t b).2 with q | q
    · exact q
    · have : (frac t b).2 * part t b ≤ 0 := Int.mul_nonpos_of_nonpos_of_nonneg q (Int.le_of_lt hp)
      (first | lia | omega)
theorem frac_cross (t b : Int) : (frac t b).1 * b = t * (frac t b).2 := by
  have e1 := frac_l t b
  have e2 := frac_r t b
  generalize (frac t b).1 = n at *
  generalize (frac t b).2 = d at *
  generalize part t b = p at *
  subst e1
  subst e2
  rw [Int.mul_comm d p, Int.mul_assoc]
theorem frac_gcd (t b : Int) (h : b ≠ 0) : Int.gcd (frac t b).1 (frac t b).2 = 1 := by
  have e1 := frac_l t b
  have e2 := frac_r t b
  have g := gcd_pos t b h
  have hp : (part t b).natAbs = Int.gcd t b := by unfold part; split <;> (first | lia | omega)
  have k : Int.gcd ((frac t b).1 * part t b) ((frac t b).2 * part t b) = Int.gcd (frac t b).1 (frac t b).2 * (part t b).natAbs := Int.gcd_mul_right _ _ _
  rw [e1, e2, hp] at k
  have : 1 * Int.gcd t b = Int.gcd (frac t b).1 (frac t b).2 * Int.gcd t b := by rw [Nat.one_mul]; exact k
  exact (Nat.eq_of_mul_eq_mul_right g this).symm
theorem part_le (t b : Int) (h : b ≠ 0) : (part t b).natAbs ≤ b.natAbs := by
  have e : (part t b).natAbs = Int.gcd t b := by unfold part; split <;> (first | lia | omega)
  rw [e]
  exact Nat.le_of_dvd (Int.natAbs_pos.mpr h) (by
    have := Int.gcd_dvd_right t b
    exact Int.ofNat_dvd_left.mp this)
end Mth
namespace Wd
noncomputable abbrev Vec := Nat → Rat
noncomputable abbrev Frm := List Bool → Rat
noncomputable def sh (v : Vec) : Vec := fun j => v (j+1)
noncomputable def at0 (w : Frm) : Frm := fun T => w (false :: T)
noncomputable def at1 (w : Frm) : Frm := fun T => w (true :: T)
noncomputable def wg : Vec → Frm → Frm
  | _, _, [] => 0
  | v, w, false :: S => wg (sh v) (at0 w) S
  | v, w, true :: S => v 0 * w (false :: S) - wg (sh v) (at1 w) S
noncomputable def one : Frm
  | [] => 1
  | false :: S => one S
  | true :: _ => 0
theorem wg_add_v (S : List Bool) : ∀ (u v : Vec) (w : Frm), wg (fun j => u j + v j) w S = wg u w S + wg v w S := by
  induction S with
  | nil => intro u v w; simp only [wg]; grind
  | cons b S ih =>
    intro u v w
    have h := ih (sh u) (sh v)
    have e : sh (fun j => u j + v j) = fun j => sh u j + sh v j := rfl
    cases b
    · simp only [wg, e, h]
    · simp only [wg, e, h]; grind
theorem wg_smul_v (S : List Bool) : ∀ (c : Rat) (v : Vec) (w : Frm), wg (fun j => c * v j) w S = c * wg v w S := by
  induction S with
  | nil => intro c v w; simp [wg]
  | cons b S ih =>
    intro c v w
    have h := ih c (sh v)
    have e : sh (fun j => c * v j) = fun j => c * sh v j := rfl
    cases b
    · simp only [wg, e, h]
    · simp only [wg, e, h]; grind
theorem wg_add (S : List Bool) : ∀ (v : Vec) (w x : Frm), wg v (fun T => w T + x T) S = wg v w S + wg v x S := by
  induction S with
  | nil => intro v w x; simp only [wg]; grind
  | cons b S ih =>
    intro v w x
    have e0 : at0 (fun T => w T + x T) = fun T => at0 w T + at0 x T := rfl
    have e1 : at1 (fun T => w T + x T) = fun T => at1 w T + at1 x T := rfl
    cases b
    · simp only [wg, e0, ih]
    · simp only [wg, e1, ih]; grind
theorem wg_smul (S : List Bool) : ∀ (c : Rat) (v : Vec) (w : Frm), wg v (fun T => c * w T) S = c * wg v w S := by
  induction S with
  | nil => intro c v w; simp [wg]
  | cons b S ih =>
    intro c v w
    have e0 : at0 (fun T => c * w T) = fun T => c * at0 w T := rfl
    have e1 : at1 (fun T => c * w T) = fun T => c * at1 w T := rfl
    cases b
    · simp only [wg, e0, ih]
    · simp only [wg, e1, ih]; grind
theorem wg_sub (S : List Bool) (v : Vec) (w x : Frm) : wg v (fun T => w T - x T) S = wg v w S - wg v x S := by
  have e : (fun T => w T - x T) = fun T => w T + (fun T => (-1) * x T) T := by funext T; grind
  rw [e, wg_add, wg_smul]; grind
theorem wg_wg (S : List Bool) : ∀ (v : Vec) (w : Frm), wg v (wg v w) S = 0 := by
  induction S with
  | nil => intro v w; simp [wg]
  | cons b S ih =>
    intro v w
    cases b
    · have e0 : at0 (wg v w) = wg (sh v) (at0 w) := rfl
      simp only [wg, e0, ih]
    · have e1 : at1 (wg v w) = fun T => v 0 * at0 w T - wg (sh v) (at1 w) T := rfl
      have e2 : (fun T => v 0 * at0 w T) = fun T => v 0 * at0 w T := rfl
      simp only [wg, e1]
      rw [wg_sub (x := wg (sh v) (at1 w)) (w := fun T => v 0 * at0 w T), wg_smul, ih]; grind
theorem wg_comm (u v : Vec) (w : Frm) (S : List Bool) : wg u (wg v w) S = - wg v (wg u w) S := by
  have h := wg_wg S (fun j => u j + v j) w
  have e : wg (fun j => u j + v j) w = fun T => wg u w T + wg v w T := by funext T; exact wg_add_v T u v w
  rw [wg_add_v, e, wg_add, wg_add, wg_wg, wg_wg] at h
  grind
theorem wg_zero (S : List Bool) (v : Vec) : wg v (fun _ => 0) S = 0 := by
  have h := wg_smul S 0 v (fun _ => 0)
  have e : (fun T : List Bool => (0:Rat) * (fun _ => (0:Rat)) T) = fun _ => 0 := by funext T; grind
  rw [e] at h; grind
noncomputable def wgs : List Vec → Frm → Frm
  | [], w => w
  | v :: L, w => wgs L (wg v w)
theorem wgs_app (L M : List Vec) (w : Frm) : wgs (L ++ M) w = wgs M (wgs L w) := by
  induction L generalizing w with
  | nil => rfl
  | cons v L ih => simp [wgs, ih]
theorem wgs_smul (L : List Vec) : ∀ (c : Rat) (w : Frm), wgs L (fun T => c * w T) = fun T => c * wgs L w T := by
  induction L with
  | nil => intro c w; rfl
  | cons v L ih =>
    intro c w
    have e : wg v (fun T => c * w T) = fun T => c * wg v w T := by funext T; exact wg_smul T c v w
    simp only [wgs]; rw [e, ih]
theorem wgs_add (L : List Vec) : ∀ (w x : Frm), wgs L (fun T => w T + x T) = fun T => wgs L w T + wgs L x T := by
  induction L with
  | nil => intro w x; rfl
  | cons v L ih =>
    intro w x
    have e : wg v (fun T => w T + x T) = fun T => wg v w T + wg v x T := by funext T; exact wg_add T v w x
    simp only [wgs]; rw [e, ih]
theorem wgs_zero (L : List Vec) : wgs L (fun _ => 0) = fun _ => 0 := by
  induction L with
  | nil => rfl
  | cons v L ih =>
    have e : wg v (fun _ => 0) = fun _ => 0 := by funext T; exact wg_zero T v
    simp only [wgs]; rw [e, ih]
noncomputable def sg (n : Nat) : Rat := if n % 2 = 0 then 1 else -1
theorem sg_succ (n : Nat) : sg (n+1) = - sg n := by unfold sg; split <;> split <;> first | (first | lia | omega) | grind
theorem sg_sq (n : Nat) : sg n * sg n = 1 := by unfold sg; split <;> grind
theorem wgs_wg (L : List Vec) : ∀ (v : Vec) (w : Frm) (S : List Bool), wgs L (wg v w) S = sg L.length * wg v (wgs L w) S := by
  induction L with
  | nil => intro v w S; simp [wgs, sg]
  | cons u L ih =>
    intro v w S
    simp only [wgs, List.length_cons]
    have e : wg u (wg v w) = fun T => (-1) * wg v (wg u w) T := by funext T; rw [wg_comm]; grind
    rw [e, wgs_smul]
    simp only []
    rw [ih, sg_succ]; grind
theorem wgs_twice (P Q R : List Vec) (v : Vec) (w : Frm) (S : List Bool) : wgs (P ++ v :: Q ++ v :: R) w S = 0 := by
  have e : P ++ v :: Q ++ v :: R = P ++ (v :: (Q ++ (v :: R))) := by simp
  rw [e, wgs_app]
  generalize wgs P w = x
  simp only [wgs]
  rw [wgs_app]
  simp only [wgs]
  have h : wg v (wgs Q (wg v x)) = fun _ => 0 := by
    funext T
    have h2 : wgs Q (wg v x) = fun T => sg Q.length * wg v (wgs Q x) T := by funext T; exact wgs_wg Q v x T
    rw [h2, wg_smul, wg_wg]; grind
  rw [h, wgs_zero]
theorem wgs_addrow (P Q : List Vec) (u v : Vec) (w : Frm) (S : List Bool) :
    wgs (P ++ (fun j => u j + v j) :: Q) w S = wgs (P ++ u :: Q) w S + wgs (P ++ v :: Q) w S := by
  rw [wgs_app, wgs_app, wgs_app]
  simp only [wgs]
  have e : wg (fun j => u j + v j) (wgs P w) = fun T => wg u (wgs P w) T + wg v (wgs P w) T := by funext T; exact wg_add_v T u v _
  rw [e, wgs_add]
theorem wgs_smulrow (P Q : List Vec) (c : Rat) (v : Vec) (w : Frm) (S : List Bool) :
    wgs (P ++ (fun j => c * v j) :: Q) w S = c * wgs (P ++ v :: Q) w S := by
  rw [wgs_app, wgs_app]
  simp only [wgs]
  have e : wg (fun j => c * v j) (wgs P w) = fun T => c * wg v (wgs P w) T := by funext T; exact wg_smul_v T c v _
  rw [e, wgs_smul]
theorem wgs_swap (P Q R : List Vec) (u v : Vec) (w : Frm) (S : List Bool) :
    wgs (P ++ u :: Q ++ v :: R) w S = - wgs (P ++ v :: Q ++ u :: R) w S := by
  have h := wgs_twice P Q R (fun j => u j + v j) w S
  have a1 : ∀ x y : Vec, P ++ x :: Q ++ y :: R = P ++ x :: (Q ++ y :: R) := by intro x y; simp
  have h1 : wgs (P ++ (fun j => u j + v j) :: Q ++ (fun j => u j + v j) :: R) w S
      = wgs (P ++ u :: Q ++ (fun j => u j + v j) :: R) w S + wgs (P ++ v :: Q ++ (fun j => u j + v j) :: R) w S := by
    rw [a1, wgs_addrow, ← a1, ← a1]
  rw [h1, wgs_addrow, wgs_addrow, wgs_twice, wgs_twice] at h
  grind
noncomputable def shn (c : Nat) (v : Vec) : Vec := fun j => v (j + c)
noncomputable def pre (c : Nat) (w : Frm) : Frm := fun T => w (List.replicate c true ++ T)
theorem wg_pre (c : Nat) : ∀ (v : Vec) (w : Frm) (S : List Bool), (∀ j, j < c → v j = 0) →
    wg v w (List.replicate c true ++ S) = sg c * wg (shn c v) (pre c w) S := by
  induction c with
  | zero => intro v w S _; simp [sg]; rfl
  | succ c ih =>
    intro v w S h
    have h0 := h 0 (by (first | lia | omega))
    have := ih (sh v) (at1 w) S (fun j hj => h (j+1) (by (first | lia | omega)))
    simp only [List.replicate_succ, List.cons_append, wg]
    rw [this, h0, sg_succ]
    have e1 : shn c (sh v) = shn (c+1) v := by funext j; simp only [shn, sh]; congr 1
    have e2 : pre c (at1 w) = pre (c+1) w := by funext T; simp [pre, at1, List.replicate_succ]
    rw [e1, e2]; grind
theorem wg_none (S : List Bool) : ∀ (v : Vec) (w : Frm), (∀ b ∈ S, b = false) → wg v w S = 0 := by
  induction S with
  | nil => intro v w _; rfl
  | cons b S ih =>
    intro v w h
    have := h b (by simp)
    subst this
    exact ih _ _ (fun b hb => h b (by simp [hb]))
theorem wg_one (d e : Nat) : ∀ (v : Vec) (w : Frm),
    wg v w (List.replicate d false ++ true :: List.replicate e false) = v d * w (List.replicate (d + 1 + e) false) := by
  induction d with
  | zero =>
    intro v w
    simp only [List.replicate_zero, List.nil_append, wg]
    rw [wg_none _ _ _ (fun b hb => (List.mem_replicate.mp hb).2)]
    have : (0 + 1 + e) = e + 1 := by (first | lia | omega)
    rw [this, List.replicate_succ]; grind
  | succ d ih =>
    intro v w
    have := ih (sh v) (at0 w)
    simp only [List.replicate_succ, List.cons_append, wg]
    rw [this]
    have : d + 1 + 1 + e = (d + 1 + e) + 1 := by (first | lia | omega)
    rw [this, List.replicate_succ]; rfl
noncomputable def Tk (c m : Nat) : List Bool := List.replicate c true ++ List.replicate (m - c) false
noncomputable def Sj (c j m : Nat) : List Bool := List.replicate c true ++ (List.replicate (j - c) false ++ true :: List.replicate (m - 1 - j) false)
theorem wg_Sj {c j m : Nat} {v : Vec} (w : Frm) (hz : ∀ i, i < c → v i = 0) (h1 : c ≤ j) (h2 : j < m) :
    wg v w (Sj c j m) = sg c * (v j * w (Tk c m)) := by
  unfold Sj
  rw [wg_pre c v w _ hz, wg_one]
  have e : j - c + 1 + (m - 1 - j) = m - c := by (first | lia | omega)
  simp only [shn, pre, e, Tk]
  have : j - c + c = j := by (first | lia | omega)
  rw [this]
theorem Sj_self {c m : Nat} (h : c < m) : Sj c c m = Tk (c+1) m := by
  unfold Sj Tk
  have e : m - 1 - c = m - (c+1) := by (first | lia | omega)
  rw [Nat.sub_self, List.replicate_zero, List.nil_append, e, List.replicate_succ', List.append_assoc]; rfl
noncomputable def tri : Nat → Rat
  | 0 => 1
  | c+1 => tri c * sg c
theorem tri_sq (c : Nat) : tri c * tri c = 1 := by
  induction c with
  | zero => simp [tri]
  | succ c ih => simp only [tri]; have := sg_sq c; grind
noncomputable def ld (c m : Nat) (w : Frm) : Rat := tri c * w (Tk c m)
theorem ld_wg {c m : Nat} {v : Vec} (w : Frm) (hz : ∀ i, i < c → v i = 0) (h : c < m) : ld (c+1) m (wg v w) = v c * ld c m w := by
  have := wg_Sj (v := v) w hz (Nat.le_refl c) h
  rw [Sj_self h] at this
  unfold ld
  rw [this]; simp only [tri]; have := sg_sq c; grind
noncomputable def IsI (x : Rat) : Prop := ∃ n : Int, x = n
theorem IsI.mul {x y : Rat} (h : IsI x) (g : IsI y) : IsI (x * y) := by
  obtain ⟨a, rfl⟩ := h; obtain ⟨b, rfl⟩ := g; exact ⟨a * b, by grind⟩
theorem IsI.sub {x y : Rat} (h : IsI x) (g : IsI y) : IsI (x - y) := by
  obtain ⟨a, rfl⟩ := h; obtain ⟨b, rfl⟩ := g; exact ⟨a - b, by grind⟩
theorem IsI.of (n : Int) : IsI (n : Rat) := ⟨n, rfl⟩
theorem wg_int (S : List Bool) : ∀ (v : Vec) (w : Frm), (∀ j, IsI (v j)) → (∀ T, IsI (w T)) → IsI (wg v w S) := by
  induction S with
  | nil => intro v w _ _; exact ⟨0, rfl⟩
  | cons b S ih =>
    intro v w h g
    cases b
    · exact ih _ _ (fun j => h (j+1)) (fun T => g _)
    · exact ((h 0).mul (g _)).sub (ih _ _ (fun j => h (j+1)) (fun T => g _))
theorem one_int (S : List Bool) : IsI (one S) := by
  induction S with
  | nil => exact ⟨1, rfl⟩
  | cons b S ih => cases b; exact ih; exact ⟨0, rfl⟩
theorem one_rep (n : Nat) : one (List.replicate n false) = 1 := by
  induction n with
  | zero => rfl
  | succ n ih => rw [List.replicate_succ]; exact ih
theorem ld_one (m : Nat) : ld 0 m one = 1 := by
  simp [ld, tri, Tk, one_rep]
noncomputable def cnt (S : List Bool) : Nat := (S.filter id).length
theorem wg_deg (S : List Bool) : ∀ (v : Vec) (w : Frm) (d : Nat), (∀ T, cnt T < d → w T = 0) → cnt S < d + 1 → wg v w S = 0 := by
  induction S with
  | nil => intro v w d _ _; rfl
  | cons b S ih =>
    intro v w d h g
    cases b
    · exact ih (sh v) (at0 w) d (fun T hT => h _ (by simpa [cnt] using hT)) (by simpa [cnt] using g)
    · simp only [wg]
      have g1 : cnt S < d := by simp [cnt] at g ⊢; (first | lia | omega)
      rw [h (false :: S) (by simpa [cnt] using g1)]
      cases d with
      | zero => (first | lia | omega)
      | succ d => rw [ih (sh v) (at1 w) d (fun T hT => h _ (by simp [cnt] at hT ⊢; (first | lia | omega))) g1]; grind
theorem wgs_deg (L : List Vec) : ∀ (w : Frm) (d : Nat), (∀ T, cnt T < d → w T = 0) → ∀ S, cnt S < d + L.length → wgs L w S = 0 := by
  induction L with
  | nil => intro w d h S hS; exact h S (by simpa using hS)
  | cons v L ih =>
    intro w d h S hS
    exact ih (wg v w) (d+1) (fun T hT => wg_deg T v w d h hT) S (by simp at hS; (first | lia | omega))
theorem wgs_pre (c : Nat) (L : List Vec) : ∀ (w : Frm) (S : List Bool), (∀ v ∈ L, ∀ j, j < c → v j = 0) →
    ∃ e : Rat, wgs L w (List.replicate c true ++ S) = e * wgs (L.map (shn c)) (pre c w) S := by
  induction L with
  | nil => intro w S _; exact ⟨1, by simp [wgs, pre]⟩
  | cons v L ih =>
    intro w S h
    obtain ⟨e, he⟩ := ih (wg v w) S (fun u hu => h u (by simp [hu]))
    refine ⟨e * sg c, ?_⟩
    simp only [wgs, List.map_cons]
    rw [he]
    have : pre c (wg v w) = fun T => sg c * wg (shn c v) (pre c w) T := by
      funext T; exact wg_pre c v w T (h v (by simp))
    rw [this, wgs_smul]; grind
theorem wgs_few {c n m : Nat} {L : List Vec} (w : Frm) (hz : ∀ v ∈ L, ∀ j, j < c → v j = 0) (h1 : c ≤ n) (h2 : n < c + L.length) : wgs L w (Tk n m) = 0 := by
  have e : Tk n m = List.replicate c true ++ (List.replicate (n - c) true ++ List.replicate (m - n) false) := by
    unfold Tk
    rw [← List.append_assoc, List.replicate_append_replicate]
    congr 2; (first | lia | omega)
  obtain ⟨x, hx⟩ := wgs_pre c L w (List.replicate (n - c) true ++ List.replicate (m - n) false) hz
  rw [e, hx, wgs_deg _ _ 0 (fun T hT => by (first | lia | omega))]
  · grind
  · simp [cnt, List.filter_append]; (first | lia | omega)
noncomputable def Ab (B x : Rat) : Prop := -B ≤ x ∧ x ≤ B
theorem Ab.nn {B x : Rat} (h : Ab B x) : 0 ≤ B := by obtain ⟨a, b⟩ := h; grind
theorem Ab.mul {B C x y : Rat} (h : Ab B x) (g : Ab C y) : Ab (B * C) (x * y) := by
  obtain ⟨h1, h2⟩ := h
  obtain ⟨h3, h4⟩ := g
  have a1 := Rat.mul_nonneg (show 0 ≤ B - x by grind) (show 0 ≤ C + y by grind)
  have a2 := Rat.mul_nonneg (show 0 ≤ B + x by grind) (show 0 ≤ C - y by grind)
  have a3 := Rat.mul_nonneg (show 0 ≤ B - x by grind) (show 0 ≤ C - y by grind)
  have a4 := Rat.mul_nonneg (show 0 ≤ B + x by grind) (show 0 ≤ C + y by grind)
  constructor <;> grind
theorem Ab.sub {B C x y : Rat} (h : Ab B x) (g : Ab C y) : Ab (B + C) (x - y) := by
  obtain ⟨h1, h2⟩ := h
  obtain ⟨h3, h4⟩ := g
  constructor <;> grind
theorem Ab.le {B C x : Rat} (h : Ab B x) (g : B ≤ C) : Ab C x := by
  obtain ⟨h1, h2⟩ := h
  constructor <;> grind
theorem Ab.neg {B x : Rat} (h : Ab B x) : Ab B (-1 * x) := by
  obtain ⟨h1, h2⟩ := h
  constructor <;> grind
theorem wg_bd {V W : Rat} (S : List Bool) : ∀ (v : Vec) (w : Frm), (∀ j, Ab V (v j)) → (∀ T : List Bool, T.length = S.length → Ab W (w T)) → Ab ((S.length : Nat) * (V * W)) (wg v w S) := by
  induction S with
  | nil => intro v w _ _; simp only [wg, List.length_nil]; constructor <;> grind
  | cons b S ih =>
    intro v w h g
    have hW := (g (b :: S) rfl).nn
    have hV := (h 0).nn
    have hVW := Rat.mul_nonneg hV hW
    have e : (((b :: S).length : Nat) : Rat) = (S.length : Nat) + 1 := by rw [List.length_cons]; grind
    cases b
    · have := ih (sh v) (at0 w) (fun j => h (j+1)) (fun T hT => g _ (by simp [hT]))
      simp only [wg]
      refine this.le ?_
      rw [e]; grind
    · have h1 := ih (sh v) (at1 w) (fun j => h (j+1)) (fun T hT => g _ (by simp [hT]))
      have h2 := (h 0).mul (g (false :: S) (by simp))
      simp only [wg]
      refine (h2.sub h1).le ?_
      rw [e]; grind
end Wd
namespace Wd
noncomputable def vr (r : List Int) : Vec := fun j => ((r.getD j 0 : Int) : Rat)
noncomputable def swr (row lead : List Int) (k : Nat) (p : Int) : List Int := List.zipWith (fun x y => (lead.getD k 0 * x - row.getD k 0 * y).fdiv p) row lead
structure Lin (f : Vec → Rat) : Prop where
  add : ∀ u v : Vec, f (fun j => u j + v j) = f u + f v
  smul : ∀ (c : Rat) (v : Vec), f (fun j => c * v j) = c * f v
structure Bi (B n m k : Nat) (A0 : List Vec) (top : List (List Int)) (Z : List (List Int × Vec)) (p : Int) (w : Frm) : Prop where
  lenT : top.length = k
  lenZ : k + Z.length = n
  nm : n ≤ m
  colT : ∀ r ∈ top, r.length = m
  colZ : ∀ z ∈ Z, z.1.length = m
  pz : p ≠ 0
  pl : ld k m w = p
  rel : ∀ z ∈ Z, ∀ S, p * wg z.2 w S = wg (vr z.1) w S
  zer : ∀ z ∈ Z, ∀ j, j < k → vr z.1 j = 0
  intw : ∀ S, IsI (w S)
  inta : ∀ z ∈ Z, ∀ j, IsI (z.2 j)
  all : wgs (Z.map (·.2)) w = wgs A0 one
  dia : ∀ i, i < k → (top.getD i []).getD i 0 ≠ 0 ∧ ∀ j, j < i → (top.getD i []).getD j 0 = 0
  last : 0 < k → (top.getD (k-1) []).getD (k-1) 0 = p
  bda : ∀ z ∈ Z, ∀ j, Ab B (z.2 j)
  bdw : ∀ T, Ab ((T.length * B) ^ k : Nat) (w T)
  bdt : ∀ r ∈ top, ∀ j, Ab ((m * B) ^ n : Nat) (vr r j)
  b1 : 1 ≤ B
  lin : ∀ f, Lin f → (∀ a ∈ A0, f a = 0) → (∀ r ∈ top, f (vr r) = 0) ∧ ∀ z ∈ Z, f (vr z.1) = 0
  lin2 : ∀ f, Lin f → (∀ r ∈ top, f (vr r) = 0) → (∀ z ∈ Z, f (vr z.1) = 0) → ∀ a ∈ A0, f a = 0
noncomputable def ng (z : List Int × Vec) : List Int × Vec := (z.1.map (fun x => -x), fun j => (-1) * z.2 j)
theorem getD_map_neg (r : List Int) (j : Nat) : (r.map (fun x => -x)).getD j 0 = - r.getD j 0 := by
  simp only [List.getD_eq_getElem?_getD, List.getElem?_map]
  cases r[j]? <;> simp
theorem vr_neg (r : List Int) : vr (r.map (fun x => -x)) = fun j => (-1) * vr r j := by
  funext j; simp only [vr, getD_map_neg]; grind
theorem Bi.exch {B0 n m k : Nat} {A0 : List Vec} {top : List (List Int)} {f z : List Int × Vec} {P Q : List (List Int × Vec)} {p : Int} {w : Frm}
    (B : Bi B0 n m k A0 top (f :: P ++ z :: Q) p w) : Bi B0 n m k A0 top (z :: P ++ ng f :: Q) p w := by
  have hf : f ∈ f :: P ++ z :: Q := by simp
  have hm : ∀ y ∈ z :: P ++ ng f :: Q, y ∈ f :: P ++ z :: Q ∨ y = ng f := by
    intro y hy; simp at hy ⊢; grind
  refine { lenT := B.lenT, lenZ := ?_, nm := B.nm, colT := B.colT, colZ := ?_, pz := B.pz, pl := B.pl, rel := ?_, zer := ?_, intw := B.intw, inta := ?_, all := ?_, dia := B.dia, last := B.last, bda := ?_, bdw := B.bdw, bdt := B.bdt, b1 := B.b1, lin := ?_, lin2 := ?_ }
  · have := B.lenZ; simp at this ⊢; (first | lia | omega)
  · intro y hy; rcases hm y hy with h | h
    · exact B.colZ y h
    · subst h; simp [ng]; exact B.colZ f hf
  · intro y hy S; rcases hm y hy with h | h
    · exact B.rel y h S
    · subst h
      have := B.rel f hf S
      simp only [ng, vr_neg]
      rw [wg_smul_v, wg_smul_v]; grind
  · intro y hy j hj; rcases hm y hy with h | h
    · exact B.zer y h j hj
    · subst h
      have := B.zer f hf j hj
      simp only [ng, vr_neg]; grind
  · intro y hy j; rcases hm y hy with h | h
    · exact B.inta y h j
    · subst h; exact (IsI.of (-1)).mul (B.inta f hf j)
  · rw [← B.all]
    funext S
    simp only [List.map_append, List.map_cons, ng]
    have h1 := wgs_smulrow (z.2 :: P.map (·.2)) (Q.map (·.2)) (-1) f.2 w S
    have h2 := wgs_swap [] (P.map (·.2)) (Q.map (·.2)) z.2 f.2 w S
    simp only [List.nil_append] at h2
    rw [h1, h2]; grind
  · intro y hy j; rcases hm y hy with h | h
    · exact B.bda y h j
    · subst h; exact (B.bda f hf j).neg
  · intro g hg h0
    have := B.lin g hg h0
    refine ⟨this.1, fun y hy => ?_⟩
    rcases hm y hy with h | h
    · exact this.2 y h
    · subst h; simp only [ng, vr_neg]; rw [hg.smul, this.2 f hf]; grind
  · intro g hg h1 h2
    refine B.lin2 g hg h1 fun y hy => ?_
    have hf2 := h2 (ng f) (by simp)
    simp only [ng, vr_neg] at hf2
    rw [hg.smul] at hf2
    simp only [List.cons_append, List.mem_cons, List.mem_append] at hy
    rcases hy with h | h | h | h
    · subst h; grind
    · exact h2 y (by simp [h])
    · subst h; exact h2 y (by simp)
    · exact h2 y (by simp [h])
theorem rel_up {p : Rat} {a b z r : Vec} {w : Frm} (hp : p ≠ 0) (ha : ∀ S, p * wg a w S = wg r w S) (hb : ∀ S, p * wg b w S = wg z w S) (S : List Bool) :
    p * wg a (wg b w) S = wg r (wg b w) S := by
  have h1 : wg a (wg z w) S = p * wg a (wg b w) S := by
    have : wg z w = fun T => p * wg b w T := by funext T; exact (hb T).symm
    rw [this, wg_smul]
  have h2 : wg z (wg r w) S = p * wg z (wg a w) S := by
    have : wg r w = fun T => p * wg a w T := by funext T; exact (ha T).symm
    rw [this, wg_smul]
  have h3 : wg r (wg z w) S = p * wg r (wg b w) S := by
    have : wg z w = fun T => p * wg b w T := by funext T; exact (hb T).symm
    rw [this, wg_smul]
  have h4 := wg_comm a z w S
  have h5 := wg_comm z r w S
  have : p * (p * wg a (wg b w) S) = p * wg r (wg b w) S := by grind
  grind
theorem self_up {p : Rat} {b z : Vec} {w : Frm} (hb : ∀ S, p * wg b w S = wg z w S) (S : List Bool) : wg z (wg b w) S = 0 := by
  rw [wg_comm]
  have : wg z w = fun T => p * wg b w T := by funext T; exact (hb T).symm
  rw [this, wg_smul, wg_wg]; grind
theorem swr_len {row lead : List Int} {k m : Nat} {p : Int} (h1 : row.length = m) (h2 : lead.length = m) : (swr row lead k p).length = m := by
  simp [swr, h1, h2]
theorem swr_get {row lead : List Int} {k m : Nat} {p : Int} (h1 : row.length = m) (h2 : lead.length = m) (j : Nat) :
    (swr row lead k p).getD j 0 = (lead.getD k 0 * row.getD j 0 - row.getD k 0 * lead.getD j 0).fdiv p := by
  by_cases hj : j < m
  · have a1 : row.getD j 0 = row[j] := by rw [List.getD_eq_getElem?_getD, List.getElem?_eq_getElem (by (first | lia | omega))]; rfl
    have a2 : lead.getD j 0 = lead[j] := by rw [List.getD_eq_getElem?_getD, List.getElem?_eq_getElem (by (first | lia | omega))]; rfl
    have hl : j < (swr row lead k p).length := by rw [swr_len h1 h2]; exact hj
    rw [a1, a2, List.getD_eq_getElem?_getD, List.getElem?_eq_getElem hl]
    simp [swr]
  · have o : ∀ l : List Int, l.length = m → l.getD j 0 = 0 := by
      intro l hl
      rw [List.getD_eq_getElem?_getD, List.getElem?_eq_none (by (first | lia | omega))]; rfl
    rw [o _ (swr_len h1 h2), o row h1, o lead h2]
    simp
theorem vr_zero_of {r : List Int} {j : Nat} (h : vr r j = 0) : r.getD j 0 = 0 := by
  simp only [vr] at h; exact_mod_cast h
theorem swr_exact {m k : Nat} {a b : Vec} {r z : List Int} {p : Int} {w : Frm} (hk : k < m) (hr : r.length = m) (hzl : z.length = m) (hp : p ≠ 0) (hpl : ld k m w = p)
    (ha : ∀ S, (p : Rat) * wg a w S = wg (vr r) w S) (hb : ∀ S, (p : Rat) * wg b w S = wg (vr z) w S) (zr : ∀ j, j < k → vr r j = 0) (zz : ∀ j, j < k → vr z j = 0)
    (hq : z.getD k 0 ≠ 0) (iw : ∀ S, IsI (w S)) (ia : ∀ j, IsI (a j)) (ib : ∀ j, IsI (b j)) :
    ld (k+1) m (wg b w) = z.getD k 0 ∧ (∀ j, (p : Rat) * vr (swr r z k p) j = (z.getD k 0 : Int) * vr r j - (r.getD k 0 : Int) * vr z j) ∧
    (∀ S, ((z.getD k 0 : Int) : Rat) * wg a (wg b w) S = wg (vr (swr r z k p)) (wg b w) S) ∧ ∀ j, j < k + 1 → vr (swr r z k p) j = 0 := by
  have hp' : (p : Rat) ≠ 0 := by exact_mod_cast hp
  have hq' : ((z.getD k 0 : Int) : Rat) ≠ 0 := by exact_mod_cast hq
  have l1 : ld (k+1) m (wg b w) = z.getD k 0 := by
    have h1 := ld_wg w zz hk
    have h2 : ld (k+1) m (wg (vr z) w) = p * ld (k+1) m (wg b w) := by
      unfold ld; rw [← hb]; grind
    rw [h2, hpl] at h1
    have : vr z k = ((z.getD k 0 : Int) : Rat) := rfl
    rw [this] at h1; grind
  -- the row ahead of the division
  let M : Vec := fun j => ((z.getD k 0 : Int) : Rat) * vr r j + (-((r.getD k 0 : Int) : Rat)) * vr z j
  have hM : ∀ S, wg M (wg b w) S = ((z.getD k 0 : Int) : Rat) * (p * wg a (wg b w) S) := by
    intro S
    have e := wg_add_v S (fun j => ((z.getD k 0 : Int) : Rat) * vr r j) (fun j => (-((r.getD k 0 : Int) : Rat)) * vr z j) (wg b w)
    rw [wg_smul_v, wg_smul_v, self_up hb S, ← rel_up hp' ha hb S] at e
    show wg M (wg b w) S = _
    rw [show M = fun j => ((z.getD k 0 : Int) : Rat) * vr r j + (-((r.getD k 0 : Int) : Rat)) * vr z j from rfl, e]; grind
  have zM : ∀ j, j < k + 1 → M j = 0 := by
    intro j hj
    show ((z.getD k 0 : Int) : Rat) * vr r j + (-((r.getD k 0 : Int) : Rat)) * vr z j = 0
    rcases Nat.lt_or_ge j k with h | h
    · rw [zr j h, zz j h]; grind
    · have : j = k := by (first | lia | omega)
      subst this
      show ((z.getD j 0 : Int) : Rat) * ((r.getD j 0 : Int) : Rat) + (-((r.getD j 0 : Int) : Rat)) * ((z.getD j 0 : Int) : Rat) = 0
      grind
  have dv : ∀ j, ∃ c : Int, M j = p * c := by
    intro j
    rcases Nat.lt_or_ge j (k+1) with h | h
    · exact ⟨0, by rw [zM j h]; grind⟩
    · rcases Nat.lt_or_ge j m with h2 | h2
      · have h3 := wg_Sj (v := M) (wg b w) zM h h2
        rw [hM] at h3
        obtain ⟨c, hc⟩ := wg_int (Sj (k+1) j m) a (wg b w) ia (fun T => wg_int T b w ib iw)
        have h4 : wg b w (Tk (k+1) m) = tri (k+1) * ((z.getD k 0 : Int) : Rat) := by
          have := tri_sq (k+1)
          rw [← l1]; unfold ld; grind
        rw [h4] at h3
        have h5 := tri_sq (k+1)
        have h6 := sg_sq (k+1)
        have ht : IsI (sg (k+1) * tri (k+1)) := by
          have i1 : ∀ c, IsI (sg c) := by intro c; unfold sg; split; exact ⟨1, rfl⟩; exact ⟨-1, rfl⟩
          have i2 : ∀ c, IsI (tri c) := by
            intro c; induction c with
            | zero => exact ⟨1, rfl⟩
            | succ c ih => exact ih.mul (i1 c)
          exact (i1 _).mul (i2 _)
        obtain ⟨t, ht⟩ := ht
        refine ⟨t * c, ?_⟩
        rw [hc] at h3
        have : M j = sg (k+1) * tri (k+1) * (p * c) := by
          have : ((z.getD k 0 : Int) : Rat) * (M j) = ((z.getD k 0 : Int) : Rat) * (sg (k+1) * tri (k+1) * (p * c)) := by grind
          grind
        rw [this, ht]; grind
      · refine ⟨0, ?_⟩
        show ((z.getD k 0 : Int) : Rat) * vr r j + (-((r.getD k 0 : Int) : Rat)) * vr z j = _
        have e1 : r.getD j 0 = 0 := by rw [List.getD_eq_getElem?_getD, List.getElem?_eq_none (by (first | lia | omega))]; rfl
        have e2 : z.getD j 0 = 0 := by rw [List.getD_eq_getElem?_getD, List.getElem?_eq_none (by (first | lia | omega))]; rfl
        simp only [vr, e1, e2]; grind
  have ex : ∀ j, (p : Rat) * vr (swr r z k p) j = M j := by
    intro j
    obtain ⟨c, hc⟩ := dv j
    have hMi : M j = ((z.getD k 0 * r.getD j 0 - r.getD k 0 * z.getD j 0 : Int) : Rat) := by
      show ((z.getD k 0 : Int) : Rat) * ((r.getD j 0 : Int) : Rat) + (-((r.getD k 0 : Int) : Rat)) * ((z.getD j 0 : Int) : Rat) = _
      grind
    have hi : z.getD k 0 * r.getD j 0 - r.getD k 0 * z.getD j 0 = p * c := by
      rw [hMi] at hc; exact_mod_cast hc
    simp only [vr]
    rw [swr_get hr hzl, hi, hc, Int.fdiv_eq_ediv_of_dvd (Int.dvd_mul_right p c), Int.mul_ediv_cancel_left _ hp]
  have eN : (fun j => (p : Rat) * vr (swr r z k p) j) = M := funext ex
  refine ⟨l1, ?_, ?_, ?_⟩
  · intro j; rw [ex j]
    show ((z.getD k 0 : Int) : Rat) * vr r j + (-((r.getD k 0 : Int) : Rat)) * vr z j = _
    grind
  · intro S
    have h := hM S
    rw [← eN, wg_smul_v] at h
    grind
  · intro j hj
    have h := ex j
    rw [zM j hj] at h
    grind
theorem Bi.ent {B0 n m k : Nat} {A0 : List Vec} {top : List (List Int)} {Z : List (List Int × Vec)} {p : Int} {w : Frm} (B : Bi B0 n m k A0 top Z p w)
    {z : List Int × Vec} (hz : z ∈ Z) (j : Nat) : Ab ((m * B0) ^ (k+1) : Nat) (vr z.1 j) := by
  have nnr : ∀ a : Nat, (0 : Rat) ≤ (a : Rat) := fun a => by exact_mod_cast Nat.zero_le a
  have z0 : Ab ((m * B0) ^ (k+1) : Nat) (0 : Rat) := by have := nnr ((m * B0) ^ (k+1)); constructor <;> grind
  have hkn := B.lenZ
  have hnm := B.nm
  have hl : 0 < Z.length := List.length_pos_of_mem hz
  rcases Nat.lt_or_ge j k with h | h
  · rw [B.zer z hz j h]; exact z0
  · rcases Nat.lt_or_ge j m with h2 | h2
    · have e := wg_Sj (v := vr z.1) w (B.zer z hz) h h2
      rw [← B.rel z hz] at e
      have hp : (p : Rat) ≠ 0 := by have := B.pz; exact_mod_cast this
      have ht : w (Tk k m) = tri k * p := by
        have := tri_sq k
        have := B.pl
        unfold ld at this; grind
      rw [ht] at e
      have e2 : vr z.1 j = sg k * tri k * wg z.2 w (Sj k j m) := by
        have h5 := tri_sq k
        have h6 := sg_sq k
        have : p * (vr z.1 j) = p * (sg k * tri k * wg z.2 w (Sj k j m)) := by grind
        grind
      have ls : (Sj k j m).length = m := by unfold Sj; simp; (first | lia | omega)
      have bd := wg_bd (V := (B0 : Nat)) (W := ((m * B0) ^ k : Nat)) (Sj k j m) z.2 w (B.bda z hz) (fun T hT => by have := B.bdw T; rw [hT, ls] at this; exact this)
      rw [ls] at bd
      have eb : ((m : Nat) : Rat) * (((B0 : Nat) : Rat) * (((m * B0) ^ k : Nat) : Rat)) = (((m * B0) ^ (k+1) : Nat) : Rat) := by
        rw [Nat.pow_succ]
        have : m * (B0 * (m * B0) ^ k) = (m * B0) ^ k * (m * B0) := by rw [← Nat.mul_assoc, Nat.mul_comm]
        rw [← this]; simp [Rat.natCast_mul]
      rw [eb] at bd
      rw [e2]
      have s1 : ∀ c, sg c = 1 ∨ sg c = -1 := by intro c; unfold sg; split; exact .inl rfl; exact .inr rfl
      have s2 : ∀ c, tri c = 1 ∨ tri c = -1 := by
        intro c; induction c with
        | zero => exact .inl rfl
        | succ c ih =>
          simp only [tri]
          rcases ih with a | a <;> rcases s1 c with b | b <;> rw [a, b] <;> grind
      rcases s1 k with a | a <;> rcases s2 k with b | b <;> rw [a, b]
      · simpa using bd
      · have := bd.neg; simpa using this
      · have := bd.neg; simpa using this
      · rw [show (-1 : Rat) * -1 * wg z.2 w (Sj k j m) = wg z.2 w (Sj k j m) by grind]; exact bd
    · have e1 : z.1.getD j 0 = 0 := by rw [List.getD_eq_getElem?_getD, List.getElem?_eq_none (by rw [B.colZ z hz]; (first | lia | omega))]; rfl
      have : vr z.1 j = 0 := by simp only [vr, e1]; rfl
      rw [this]; exact z0
theorem pow_up {a i n : Nat} (h : 1 ≤ a) (hi : i ≤ n) : a ^ i ≤ a ^ n := Nat.pow_le_pow_right h hi
theorem Bi.step {B0 n m k : Nat} {A0 : List Vec} {top : List (List Int)} {z : List Int × Vec} {Z : List (List Int × Vec)} {p : Int} {w : Frm}
    (B : Bi B0 n m k A0 top (z :: Z) p w) (hq : z.1.getD k 0 ≠ 0) :
    Bi B0 n m (k+1) A0 (top ++ [z.1]) (Z.map fun y => (swr y.1 z.1 k p, y.2)) (z.1.getD k 0) (wg z.2 w) := by
  have hkn := B.lenZ
  have hnm := B.nm
  simp at hkn
  have hkm : k < m := by (first | lia | omega)
  have hz : z ∈ z :: Z := by simp
  have key : ∀ y ∈ Z, _ := fun y hy => swr_exact hkm (B.colZ y (by simp [hy])) (B.colZ z hz) B.pz B.pl (B.rel y (by simp [hy])) (B.rel z hz) (B.zer y (by simp [hy])) (B.zer z hz) hq B.intw (B.inta y (by simp [hy])) (B.inta z hz)
  have l1 := (swr_exact hkm (B.colZ z hz) (B.colZ z hz) B.pz B.pl (B.rel z hz) (B.rel z hz) (B.zer z hz) (B.zer z hz) hq B.intw (B.inta z hz) (B.inta z hz)).1
  have hp' : (p : Rat) ≠ 0 := by have := B.pz; exact_mod_cast this
  have hlT := B.lenT
  refine { lenT := by simp [B.lenT], lenZ := by simp; (first | lia | omega), nm := B.nm, colT := ?_, colZ := ?_, pz := hq, pl := l1, rel := ?_, zer := ?_, intw := fun S => wg_int S z.2 w (B.inta z hz) B.intw, inta := ?_, all := ?_, dia := ?_, last := ?_, bda := ?_, bdw := ?_, bdt := ?_, b1 := B.b1, lin := ?_, lin2 := ?_ }
  · intro r hr; simp at hr; rcases hr with h | h
    · exact B.colT r h
    · subst h; exact B.colZ z hz
  · intro y hy; simp at hy; obtain ⟨a, b, hab, rfl⟩ := hy
    exact swr_len (B.colZ (a, b) (by simp [hab])) (B.colZ z hz)
  · intro y hy S; simp at hy; obtain ⟨a, b, hab, rfl⟩ := hy
    exact (key (a, b) hab).2.2.1 S
  · intro y hy; simp at hy; obtain ⟨a, b, hab, rfl⟩ := hy
    exact (key (a, b) hab).2.2.2
  · intro y hy; simp at hy; obtain ⟨a, b, hab, rfl⟩ := hy
    exact B.inta (a, b) (by simp [hab])
  · rw [← B.all]; simp [wgs, Function.comp_def]
  · intro i hi
    rcases Nat.lt_or_ge i k with h | h
    · have : (top ++ [z.1]).getD i [] = top.getD i [] := by
        rw [List.getD_eq_getElem?_getD, List.getD_eq_getElem?_getD, List.getElem?_append_left (by (first | lia | omega))]
      rw [this]; exact B.dia i h
    · have : i = k := by (first | lia | omega)
      subst this
      have : (top ++ [z.1]).getD i [] = z.1 := by
        rw [List.getD_eq_getElem?_getD, List.getElem?_append_right (by (first | lia | omega)), hlT]; simp
      rw [this]
      exact ⟨hq, fun j hj => vr_zero_of (B.zer z hz j hj)⟩
  · intro _
    have : (top ++ [z.1]).getD (k + 1 - 1) [] = z.1 := by
      rw [List.getD_eq_getElem?_getD, List.getElem?_append_right (by (first | lia | omega))]; simp [hlT]
    rw [this]; rfl
  · intro y hy; simp at hy; obtain ⟨a, b, hab, rfl⟩ := hy
    exact B.bda (a, b) (by simp [hab])
  · intro T
    have bd := wg_bd (V := (B0 : Nat)) (W := ((T.length * B0) ^ k : Nat)) T z.2 w (B.bda z hz) (fun U hU => by have := B.bdw U; rw [hU] at this; exact this)
    have eb : ((T.length : Nat) : Rat) * (((B0 : Nat) : Rat) * (((T.length * B0) ^ k : Nat) : Rat)) = (((T.length * B0) ^ (k+1) : Nat) : Rat) := by
      rw [Nat.pow_succ]
      have : T.length * (B0 * (T.length * B0) ^ k) = (T.length * B0) ^ k * (T.length * B0) := by rw [← Nat.mul_assoc, Nat.mul_comm]
      rw [← this]; simp [Rat.natCast_mul]
    rw [eb] at bd
    exact bd
  · intro r hr j; simp at hr; rcases hr with h | h
    · exact B.bdt r h j
    · subst h
      refine (B.ent hz j).le ?_
      have := B.b1
      have h1 : 1 ≤ m * B0 := Nat.mul_pos (by (first | lia | omega)) (by (first | lia | omega))
      exact_mod_cast pow_up h1 (by (first | lia | omega))
  · intro f hf h0
    have hl := B.lin f hf h0
    refine ⟨?_, ?_⟩
    · intro r hr; simp at hr; rcases hr with h | h
      · exact hl.1 r h
      · subst h; exact hl.2 z hz
    · intro y hy; simp at hy; obtain ⟨a, b, hab, rfl⟩ := hy
      have h1 := (key (a, b) hab).2.1
      have e : (fun j => (p : Rat) * vr (swr a z.1 k p) j) = fun j => (fun j => ((z.1.getD k 0 : Int) : Rat) * vr a j) j + (fun j => (-((a.getD k 0 : Int) : Rat)) * vr z.1 j) j := by
        funext j; rw [h1 j]; grind
      have h2 := congrArg f e
      rw [hf.smul, hf.add, hf.smul, hf.smul, hl.2 z hz, hl.2 (a, b) (by simp [hab])] at h2
      grind
  · intro f hf h1 h2
    have fz : f (vr z.1) = 0 := h1 z.1 (by simp)
    have hq' : ((z.1.getD k 0 : Int) : Rat) ≠ 0 := by exact_mod_cast hq
    refine B.lin2 f hf (fun r hr => h1 r (by simp [hr])) fun y hy => ?_
    rcases List.mem_cons.mp hy with h | h
    · subst h; exact fz
    · have e1 := (key y h).2.1
      have e : (fun j => (p : Rat) * vr (swr y.1 z.1 k p) j) = fun j => (fun j => ((z.1.getD k 0 : Int) : Rat) * vr y.1 j) j + (fun j => (-((y.1.getD k 0 : Int) : Rat)) * vr z.1 j) j := by
        funext j; rw [e1 j]; grind
      have h3 := congrArg f e
      rw [hf.smul, hf.add, hf.smul, hf.smul, fz, h2 _ (List.mem_map_of_mem h)] at h3
      grind
theorem pow_rel (Z : List (List Int × Vec)) : ∀ {p : Rat} {w : Frm}, p ≠ 0 → (∀ z ∈ Z, ∀ S, p * wg z.2 w S = wg (vr z.1) w S) →
    ∃ c : Rat, c ≠ 0 ∧ ∀ S, c * wgs (Z.map (·.2)) w S = wgs (Z.map (fun z => vr z.1)) w S := by
  induction Z with
  | nil => intro p w _ _; exact ⟨1, by grind, fun S => by simp [wgs]⟩
  | cons z Z ih =>
    intro p w hp h
    obtain ⟨c, hc, hS⟩ := ih (p := p) (w := wg z.2 w) hp (fun y hy S => rel_up hp (h y (by simp [hy])) (h z (by simp)) S)
    refine ⟨p * c, by grind, fun S => ?_⟩
    simp only [List.map_cons, wgs]
    have e : wg (vr z.1) w = fun T => p * wg z.2 w T := by funext T; exact (h z (by simp) T).symm
    rw [e, wgs_smul]
    simp only []
    rw [← hS]; grind
theorem Bi.none {B0 n m k : Nat} {A0 : List Vec} {top : List (List Int)} {Z : List (List Int × Vec)} {p : Int} {w : Frm}
    (B : Bi B0 n m k A0 top Z p w) (hkn : k < n) (h0 : ∀ z ∈ Z, z.1.getD k 0 = 0) : ld n m (wgs A0 one) = 0 := by
  have hp' : (p : Rat) ≠ 0 := by have := B.pz; exact_mod_cast this
  obtain ⟨c, hc, hS⟩ := pow_rel Z hp' B.rel
  have h := wgs_few (c := k+1) (n := n) (m := m) (L := Z.map (fun z => vr z.1)) w ?_ (by (first | lia | omega)) (by have := B.lenZ; simp; (first | lia | omega))
  · rw [← hS, B.all] at h
    unfold ld; grind
  · intro v hv j hj
    rw [List.mem_map] at hv
    obtain ⟨z, hz, rfl⟩ := hv
    rcases Nat.lt_or_ge j k with h | h
    · exact B.zer _ hz j h
    · have : j = k := by (first | lia | omega)
      subst this
      have := h0 _ hz
      simp only [vr]; rw [this]; rfl
theorem Bi.mk0 {B0 n m : Nat} {R : List (List Int)} (hb1 : 1 ≤ B0) (hb : ∀ r ∈ R, ∀ j, Ab B0 (vr r j)) (h1 : R.length = n) (h2 : n ≤ m) (h3 : ∀ r ∈ R, r.length = m) :
    Bi B0 n m 0 (R.map vr) [] (R.map fun r => (r, vr r)) 1 one := by
  refine { lenT := rfl, lenZ := by simp [h1], nm := h2, colT := by simp, colZ := ?_, pz := by (first | lia | omega), pl := ?_, rel := ?_, zer := by intro _ _ j hj; (first | lia | omega), intw := one_int, inta := ?_, all := ?_, dia := by intro i hi; (first | lia | omega), last := by intro h; (first | lia | omega), bda := ?_, bdw := ?_, bdt := by simp, b1 := hb1, lin := ?_, lin2 := ?_ }
  · intro z hz; simp at hz; obtain ⟨a, ha, rfl⟩ := hz; exact h3 a ha
  · rw [ld_one]; rfl
  · intro z hz S; simp at hz; obtain ⟨a, ha, rfl⟩ := hz; simp only []; grind
  · intro z hz j; simp at hz; obtain ⟨a, ha, rfl⟩ := hz; exact ⟨_, rfl⟩
  · simp [Function.comp_def]
  · intro z hz j; simp at hz; obtain ⟨a, ha, rfl⟩ := hz; exact hb a ha j
  · intro T
    have : one T = 1 ∨ one T = 0 := by
      induction T with
      | nil => exact .inl rfl
      | cons b T ih => cases b; exact ih; exact .inr rfl
    rw [Nat.pow_zero]
    rcases this with h | h <;> rw [h] <;> constructor <;> grind
  · intro f hf h0; refine ⟨by simp, ?_⟩
    intro z hz; simp at hz; obtain ⟨a, ha, rfl⟩ := hz; exact h0 _ (List.mem_map_of_mem ha)
  · intro f hf h1 h2 a ha
    obtain ⟨r, hr, rfl⟩ := List.mem_map.mp ha
    exact h2 (r, vr r) (List.mem_map.mpr ⟨r, hr, rfl⟩)
theorem Bi.fin {B0 n m : Nat} {A0 : List Vec} {top : List (List Int)} {Z : List (List Int × Vec)} {p : Int} {w : Frm}
    (B : Bi B0 n m n A0 top Z p w) : Z = [] ∧ ld n m (wgs A0 one) = p := by
  have : Z = [] := by have := B.lenZ; exact List.length_eq_zero_iff.mp (by (first | lia | omega))
  subst this
  refine ⟨rfl, ?_⟩
  rw [← B.all]; exact B.pl
end Wd
namespace Mth
theorem frac_rat (t b : Int) (h : b ≠ 0) : frac t b = (((t : Rat) / (b : Rat)).num, (((t : Rat) / (b : Rat)).den : Int)) := by
  have g := frac_gcd t b h
  have p := frac_pos t b h
  have c := frac_cross t b
  generalize (frac t b) = x at *
  obtain ⟨n, d⟩ := x
  simp only at g p c
  have hd : d = (d.toNat : Int) := by (first | lia | omega)
  have hn : d.toNat ≠ 0 := by (first | lia | omega)
  have hc : n.natAbs.Coprime d.toNat := by
    have : Int.gcd n d = n.natAbs.gcd d.toNat := by rw [Int.gcd]; congr 1; (first | lia | omega)
    unfold Nat.Coprime; rw [← this]; exact g
  let r : Rat := ⟨n, d.toNat, hn, hc⟩
  have hr : r * (d : Rat) = n := by
    have h1 : r = (n : Rat) / ((d.toNat : Nat) : Rat) := by
      have := Rat.num_divInt_den r
      rw [← this, Rat.divInt_eq_div]; rfl
    have h2 : ((d.toNat : Nat) : Rat) = (d : Rat) := by
      have : ((d.toNat : Nat) : Rat) = (((d.toNat : Nat) : Int) : Rat) := rfl
      rw [this, ← hd]
    have h3 : (d : Rat) ≠ 0 := by have : d ≠ 0 := by (first | lia | omega)
                                  exact_mod_cast this
    rw [h1, h2]; grind
  have hb : (b : Rat) ≠ 0 := by exact_mod_cast h
  have hd0 : (d : Rat) ≠ 0 := by have : d ≠ 0 := by (first | lia | omega)
                                 exact_mod_cast this
  have cr : (n : Rat) * b = t * d := by exact_mod_cast c
  have e : (t : Rat) / (b : Rat) = r := by grind
  rw [e]
  show (n, d) = (n, ((d.toNat : Nat) : Int))
  rw [← hd]
noncomputable def fr (q : Rat) : Int × Int := (q.num, q.den)
theorem fr_inj {p q : Rat} (h : fr p = fr q) : p = q := by
  unfold fr at h
  have h1 := congrArg Prod.fst h
  have h2 := congrArg Prod.snd h
  simp at h1 h2
  exact Rat.ext h1 (by (first | lia | omega))
theorem rat_num (q : Rat) : q * ((q.den : Nat) : Rat) = q.num := by
  have h1 := Rat.num_divInt_den q
  rw [Rat.divInt_eq_div] at h1
  have : ((q.den : Nat) : Rat) ≠ 0 := by exact_mod_cast q.den_nz
  have h2 : (((q.den : Nat) : Int) : Rat) = ((q.den : Nat) : Rat) := rfl
  rw [h2] at h1
  grind
theorem rat_den_ne (q : Rat) : ((q.den : Nat) : Rat) ≠ 0 := by exact_mod_cast q.den_nz
theorem rat_of (q : Rat) : ((q.num : Int) : Rat) / ((((q.den : Nat) : Int)) : Rat) = q := by
  have := rat_num q
  have h2 : (((q.den : Nat) : Int) : Rat) = ((q.den : Nat) : Rat) := rfl
  have := rat_den_ne q
  rw [h2]; grind
theorem ic (n : Nat) : (((n : Nat) : Int) : Rat) = ((n : Nat) : Rat) := rfl
theorem fr_add (p q : Rat) : frac (p.num * q.den + q.num * p.den) (p.den * q.den) = fr (p + q) := by
  have hp := p.den_nz
  have hq := q.den_nz
  have h : ((p.den : Int) * (q.den : Int)) ≠ 0 := Int.mul_ne_zero (by (first | lia | omega)) (by (first | lia | omega))
  rw [frac_rat _ _ h]
  have e : (((p.num * q.den + q.num * p.den : Int)) : Rat) / (((p.den : Int) * (q.den : Int) : Int) : Rat) = p + q := by
    have := rat_num p; have := rat_num q; have := rat_den_ne p; have := rat_den_ne q
    simp only [Rat.intCast_add, Rat.intCast_mul, ic]
    grind
  rw [e]; rfl
theorem fr_sub (p q : Rat) : frac (p.num * q.den - q.num * p.den) (p.den * q.den) = fr (p - q) := by
  have hp := p.den_nz
  have hq := q.den_nz
  have h : ((p.den : Int) * (q.den : Int)) ≠ 0 := Int.mul_ne_zero (by (first | lia | omega)) (by (first | lia | omega))
  rw [frac_rat _ _ h]
  have e : (((p.num * q.den - q.num * p.den : Int)) : Rat) / (((p.den : Int) * (q.den : Int) : Int) : Rat) = p - q := by
    have := rat_num p; have := rat_num q; have := rat_den_ne p; have := rat_den_ne q
    simp only [Rat.intCast_sub, Rat.intCast_mul, ic]
    grind
  rw [e]; rfl
theorem fr_mul (p q : Rat) : frac (p.num * q.num) (p.den * q.den) = fr (p * q) := by
  have hp := p.den_nz
  have hq := q.den_nz
  have h : ((p.den : Int) * (q.den : Int)) ≠ 0 := Int.mul_ne_zero (by (first | lia | omega)) (by (first | lia | omega))
  rw [frac_rat _ _ h]
  have e : (((p.num * q.num : Int)) : Rat) / (((p.den : Int) * (q.den : Int) : Int) : Rat) = p * q := by
    have := rat_num p; have := rat_num q; have := rat_den_ne p; have := rat_den_ne q
    simp only [Rat.intCast_mul, ic]
    grind
  rw [e]; rfl
noncomputable def Sb (n d : Nat) (q : Rat) : Prop := q.num.natAbs ≤ 2 ^ n ∧ q.den ≤ 2 ^ d
theorem frac_le {t b : Int} (h : b ≠ 0) : (frac t b).1.natAbs ≤ t.natAbs ∧ (frac t b).2.natAbs ≤ b.natAbs := by
  have h1 := frac_l t b
  have h2 := frac_r t b
  have h3 := part_ne t b h
  have a1 : t.natAbs = (frac t b).1.natAbs * (part t b).natAbs := by rw [← Int.natAbs_mul, h1]
  have a2 : b.natAbs = (frac t b).2.natAbs * (part t b).natAbs := by rw [← Int.natAbs_mul, h2]
  have a3 : 1 ≤ (part t b).natAbs := by (first | lia | omega)
  rw [a1, a2]
  exact ⟨Nat.le_mul_of_pos_right _ a3, Nat.le_mul_of_pos_right _ a3⟩
theorem sb_of {t b : Int} {n d : Nat} (h : b ≠ 0) (h1 : t.natAbs ≤ 2 ^ n) (h2 : b.natAbs ≤ 2 ^ d) {q : Rat} (e : frac t b = fr q) : Sb n d q := by
  have := frac_le (t := t) h
  rw [e] at this
  simp only [fr, Int.natAbs_natCast] at this
  exact ⟨by (first | lia | omega), by (first | lia | omega)⟩
theorem pmul {a b m n : Nat} (h : a ≤ 2 ^ m) (g : b ≤ 2 ^ n) : a * b ≤ 2 ^ (m + n) := by rw [Nat.pow_add]; exact Nat.mul_le_mul h g
theorem dnz (p q : Rat) : ((p.den : Int) * (q.den : Int)) ≠ 0 := by
  have hp := p.den_nz
  have hq := q.den_nz
  exact Int.mul_ne_zero (by (first | lia | omega)) (by (first | lia | omega))
theorem Sb.mul {n d n' d' : Nat} {p q : Rat} (h : Sb n d p) (g : Sb n' d' q) : Sb (n + n') (d + d') (p * q) := by
  refine sb_of (dnz p q) ?_ ?_ (fr_mul p q)
  · rw [Int.natAbs_mul]; exact pmul h.1 g.1
  · rw [Int.natAbs_mul, Int.natAbs_natCast, Int.natAbs_natCast]; exact pmul h.2 g.2
theorem Sb.add {n d n' d' N : Nat} {p q : Rat} (h : Sb n d p) (g : Sb n' d' q) (h1 : n + d' ≤ N) (h2 : n' + d ≤ N) : Sb (N + 1) (d + d') (p + q) := by
  refine sb_of (dnz p q) ?_ ?_ (fr_add p q)
  · have a1 : (p.num * q.den).natAbs ≤ 2 ^ N := by
      rw [Int.natAbs_mul, Int.natAbs_natCast]
      exact Nat.le_trans (pmul h.1 g.2) (Nat.pow_le_pow_right (by decide) h1)
    have a2 : (q.num * p.den).natAbs ≤ 2 ^ N := by
      rw [Int.natAbs_mul, Int.natAbs_natCast]
      exact Nat.le_trans (pmul g.1 h.2) (Nat.pow_le_pow_right (by decide) h2)
    have := Int.natAbs_add_le (p.num * q.den) (q.num * p.den)
    rw [Nat.pow_succ]; (first | lia | omega)
  · rw [Int.natAbs_mul, Int.natAbs_natCast, Int.natAbs_natCast]; exact pmul h.2 g.2
theorem Sb.sub {n d n' d' N : Nat} {p q : Rat} (h : Sb n d p) (g : Sb n' d' q) (h1 : n + d' ≤ N) (h2 : n' + d ≤ N) : Sb (N + 1) (d + d') (p - q) := by
  refine sb_of (dnz p q) ?_ ?_ (fr_sub p q)
  · have a1 : (p.num * q.den).natAbs ≤ 2 ^ N := by
      rw [Int.natAbs_mul, Int.natAbs_natCast]
      exact Nat.le_trans (pmul h.1 g.2) (Nat.pow_le_pow_right (by decide) h1)
    have a2 : (q.num * p.den).natAbs ≤ 2 ^ N := by
      rw [Int.natAbs_mul, Int.natAbs_natCast]
      exact Nat.le_trans (pmul g.1 h.2) (Nat.pow_le_pow_right (by decide) h2)
    have := Int.natAbs_sub_le (p.num * q.den) (q.num * p.den)
    rw [Nat.pow_succ]; (first | lia | omega)
  · rw [Int.natAbs_mul, Int.natAbs_natCast, Int.natAbs_natCast]; exact pmul h.2 g.2
theorem Sb.mono {n d n' d' : Nat} {p : Rat} (h : Sb n d p) (h1 : n ≤ n') (h2 : d ≤ d') : Sb n' d' p :=
  ⟨Nat.le_trans h.1 (Nat.pow_le_pow_right (by decide) h1), Nat.le_trans h.2 (Nat.pow_le_pow_right (by decide) h2)⟩
theorem Sb.zero : Sb 0 0 0 := by constructor <;> decide
theorem Sb.one : Sb 0 0 1 := by constructor <;> decide
noncomputable def cb1 (c : Int) (q : Rat) : Int := c.fdiv (Int.gcd c q.den : Int) * q.den
noncomputable def cb (r : List Rat) : Int := r.foldl cb1 1
theorem cb1_ok {c : Int} (h : 0 < c) (q : Rat) : 0 < cb1 c q ∧ c ∣ cb1 c q ∧ (q.den : Int) ∣ cb1 c q ∧ cb1 c q ≤ c * q.den := by
  have hq := q.den_nz
  have hg : 0 < Int.gcd c q.den := Int.gcd_pos_of_ne_zero_left _ (by (first | lia | omega))
  obtain ⟨x, hx⟩ := Int.gcd_dvd_left c (q.den : Int)
  obtain ⟨y, hy⟩ := Int.gcd_dvd_right c (q.den : Int)
  generalize hG : Int.gcd c (q.den : Int) = G at *
  have hG0 : (G : Int) ≠ 0 := by (first | lia | omega)
  have e : c.fdiv (G : Int) = x := by
    rw [Int.fdiv_eq_ediv_of_dvd ⟨x, hx⟩]
    conv => lhs; rw [hx]
    rw [Int.mul_ediv_cancel_left _ hG0]
  have hx0 : 0 < x := by
    rcases Int.lt_or_le 0 x with h' | h'
    · exact h'
    · have : (G : Int) * x ≤ 0 := Int.mul_nonpos_of_nonneg_of_nonpos (by (first | lia | omega)) h'
      (first | lia | omega)
  have hq0 : (0 : Int) < q.den := by (first | lia | omega)
  unfold cb1
  rw [hG, e]
  refine ⟨Int.mul_pos hx0 hq0, ⟨y, ?_⟩, ⟨x, Int.mul_comm _ _⟩, ?_⟩
  · conv => lhs; rw [hy]
    conv => rhs; rw [hx]
    rw [Int.mul_left_comm, Int.mul_assoc]
  · refine Int.mul_le_mul_of_nonneg_right ?_ (by (first | lia | omega))
    have : 1 * x ≤ (G : Int) * x := Int.mul_le_mul_of_nonneg_right (by (first | lia | omega)) (by (first | lia | omega))
    (first | lia | omega)
theorem cb_ok (r : List Rat) : ∀ {c : Int} {D d : Nat}, 0 < c → c.natAbs ≤ 2 ^ D → (∀ q ∈ r, q.den ≤ 2 ^ d) →
    0 < r.foldl cb1 c ∧ c ∣ r.foldl cb1 c ∧ (∀ q ∈ r, (q.den : Int) ∣ r.foldl cb1 c) ∧ (r.foldl cb1 c).natAbs ≤ 2 ^ (D + d * r.length) := by
  induction r with
  | nil => intro c D d h g _; exact ⟨h, Int.dvd_refl _, by simp, by simpa using g⟩
  | cons q r ih =>
    intro c D d h g hd
    obtain ⟨a1, a2, a3, a4⟩ := cb1_ok h q
    have hq := hd q (by simp)
    have a5 : (cb1 c q).natAbs ≤ 2 ^ (D + d) := by
      have h5 : (cb1 c q).natAbs ≤ c.natAbs * q.den := by
        have e1 : ((c.natAbs * q.den : Nat) : Int) = c * q.den := by rw [Int.natCast_mul]; congr 1; (first | lia | omega)
        (first | lia | omega)
      exact Nat.le_trans h5 (pmul g hq)
    obtain ⟨b1, b2, b3, b4⟩ := ih (D := D + d) (d := d) a1 a5 (fun p hp => hd p (by simp [hp]))
    refine ⟨b1, Int.dvd_trans a2 b2, ?_, ?_⟩
    · intro p hp
      rcases List.mem_cons.mp hp with rfl | hp
      · exact Int.dvd_trans a3 b2
      · exact b3 p hp
    · rw [List.length_cons, Nat.mul_succ]
      have : D + (d * r.length + d) = D + d + d * r.length := by (first | lia | omega)
      rw [this]; exact b4
noncomputable def wh (b : Int) (q : Rat) : Int := q.num * b.fdiv q.den
theorem wh_rat {b : Int} {q : Rat} (h : (q.den : Int) ∣ b) : ((wh b q : Int) : Rat) = b * q := by
  obtain ⟨x, hx⟩ := h
  have hq := q.den_nz
  have e : b.fdiv q.den = x := by
    rw [Int.fdiv_eq_ediv_of_dvd ⟨x, hx⟩, hx, Int.mul_ediv_cancel_left _ (by (first | lia | omega))]
  unfold wh
  rw [e, hx]
  have := rat_num q
  simp only [Rat.intCast_mul, ic]
  grind
end Mth
namespace Wd
open Mth
noncomputable def ledR (R : List (List Int)) (k i : Nat) : List (List Int) := if i = k then R else (R.set k (R.getD i [])).set i ((R.getD k []).map fun x => -x)
theorem mid_at {α : Type} (A B : List α) (x d : α) {i : Nat} (h : A.length = i) : (A ++ x :: B).getD i d = x := by
  subst h
  rw [List.getD_eq_getElem?_getD, List.getElem?_append_right (Nat.le_refl _)]; simp
theorem mid_set {α : Type} (A B : List α) (x y : α) {i : Nat} (h : A.length = i) : (A ++ x :: B).set i y = A ++ y :: B := by
  subst h
  rw [List.set_append_right _ _ (Nat.le_refl _)]; simp
theorem Bi.led {B0 n m k : Nat} {A0 : List Vec} {top : List (List Int)} {Z : List (List Int × Vec)} {p : Int} {w : Frm} (B : Bi B0 n m k A0 top Z p w) {i : Nat} (h1 : k ≤ i) (h2 : i < n)
    (h3 : ((top ++ Z.map (·.1)).getD i []).getD k 0 ≠ 0) : ∃ z Z', Bi B0 n m k A0 top (z :: Z') p w ∧ ledR (top ++ Z.map (·.1)) k i = top ++ z.1 :: Z'.map (·.1) ∧ z.1.getD k 0 ≠ 0 := by
  have hl := B.lenZ
  have ht := B.lenT
  cases Z with
  | nil => simp at hl; (first | lia | omega)
  | cons f Zr =>
    by_cases hik : i = k
    · subst hik
      refine ⟨f, Zr, B, ?_, ?_⟩
      · unfold ledR; rw [if_pos rfl]; rfl
      · rw [List.map_cons, mid_at _ _ _ _ ht] at h3; exact h3
    · have hj : i - k - 1 < Zr.length := by simp at hl; (first | lia | omega)
      have e : Zr = Zr.take (i - k - 1) ++ Zr[i - k - 1] :: Zr.drop (i - k - 1 + 1) := by rw [List.getElem_cons_drop, List.take_append_drop]
      generalize Zr.take (i - k - 1) = P0 at e
      have hP0 : (Zr.take (i - k - 1)).length = i - k - 1 := by simp; (first | lia | omega)
      have hPl : P0.length = i - k - 1 := by
        have := congrArg List.length e
        simp at this; (first | lia | omega)
      generalize Zr[i - k - 1] = z at e
      generalize Zr.drop (i - k - 1 + 1) = Q at e
      subst e
      have B' : Bi B0 n m k A0 top (f :: P0 ++ z :: Q) p w := B
      have e1 : top ++ List.map (·.1) (f :: (P0 ++ z :: Q)) = (top ++ f.1 :: P0.map (·.1)) ++ z.1 :: Q.map (·.1) := by simp
      have l1 : (top ++ f.1 :: P0.map (·.1)).length = i := by simp; (first | lia | omega)
      have gi : (top ++ List.map (·.1) (f :: (P0 ++ z :: Q))).getD i [] = z.1 := by rw [e1]; exact mid_at _ _ _ _ l1
      have gk : (top ++ List.map (·.1) (f :: (P0 ++ z :: Q))).getD k [] = f.1 := by rw [List.map_cons]; exact mid_at _ _ _ _ ht
      refine ⟨z, P0 ++ ng f :: Q, B'.exch, ?_, ?_⟩
      · unfold ledR
        rw [if_neg hik, gi, gk, List.map_cons, mid_set _ _ _ _ ht]
        have e2 : top ++ z.1 :: List.map (·.1) (P0 ++ z :: Q) = (top ++ z.1 :: P0.map (·.1)) ++ z.1 :: Q.map (·.1) := by simp
        rw [e2, mid_set _ _ _ _ (by simp; (first | lia | omega))]
        simp [ng]
      · rw [gi] at h3; exact h3
theorem ab_nat {N : Nat} {x : Int} (h : Ab ((N : Nat) : Rat) ((x : Int) : Rat)) : x.natAbs ≤ N := by
  obtain ⟨h1, h2⟩ := h
  have a : x ≤ (N : Int) := by
    have : ((x : Int) : Rat) ≤ (((N : Nat) : Int) : Rat) := h2
    exact_mod_cast this
  have b : -(N : Int) ≤ x := by
    have : ((-(N : Int) : Int) : Rat) ≤ ((x : Int) : Rat) := by rw [Rat.intCast_neg]; exact h1
    exact_mod_cast this
  (first | lia | omega)
theorem nat_ab {N : Nat} {x : Int} (h : x.natAbs ≤ N) : Ab ((N : Nat) : Rat) ((x : Int) : Rat) := by
  have a : x ≤ (N : Int) := by (first | lia | omega)
  have b : -(N : Int) ≤ x := by (first | lia | omega)
  constructor
  · have : ((-(N : Int) : Int) : Rat) ≤ ((x : Int) : Rat) := by exact_mod_cast b
    rw [Rat.intCast_neg] at this; exact this
  · have : ((x : Int) : Rat) ≤ (((N : Nat) : Int) : Rat) := by exact_mod_cast a
    exact this
theorem mem_getD {r : List Int} {x : Int} (h : x ∈ r) : ∃ j, r.getD j 0 = x := by
  obtain ⟨j, hj, e⟩ := List.getElem_of_mem h
  exact ⟨j, by rw [List.getD_eq_getElem?_getD, List.getElem?_eq_getElem hj]; exact e⟩
theorem getD_abs {r : List Int} {N : Nat} (h : ∀ x ∈ r, x.natAbs ≤ N) (j : Nat) : (r.getD j 0).natAbs ≤ N := by
  rw [List.getD_eq_getElem?_getD]
  by_cases hj : j < r.length
  · rw [List.getElem?_eq_getElem hj]; exact h _ (List.getElem_mem hj)
  · rw [List.getElem?_eq_none (by (first | lia | omega))]; simp
noncomputable def vq (r : List Rat) : Vec := fun j => r.getD j 0
noncomputable def dt (n m : Nat) (T : List (List Rat)) : Rat := ld n m (wgs (T.map vq) one)
theorem vr_wh {b : Int} {r : List Rat} (h : ∀ q ∈ r, (q.den : Int) ∣ b) : vr (r.map (wh b)) = fun j => (b : Rat) * vq r j := by
  funext j
  simp only [vr, vq, List.getD_eq_getElem?_getD, List.getElem?_map]
  cases e : r[j]? with
  | none => simp
  | some q => simp; exact wh_rat (h q (List.mem_of_getElem? e))
noncomputable def prodB : List Int → Int
  | [] => 1
  | b :: L => b * prodB L
theorem wgs_scaled (T : List (List Rat)) (β : List Rat → Int) (h : ∀ r ∈ T, ∀ q ∈ r, (q.den : Int) ∣ β r) :
    ∀ w S, wgs (T.map fun r => vr (r.map (wh (β r)))) w S = ((prodB (T.map β) : Int) : Rat) * wgs (T.map vq) w S := by
  induction T with
  | nil => intro w S; simp [wgs, prodB]
  | cons r T ih =>
    intro w S
    simp only [List.map_cons, wgs, prodB]
    rw [ih (fun r' hr' => h r' (by simp [hr']))]
    have e : wg (vr (r.map (wh (β r)))) w = fun T => ((β r : Int) : Rat) * wg (vq r) w T := by
      funext T; rw [vr_wh (h r (by simp))]; exact wg_smul_v T _ _ w
    rw [e, wgs_smul, Rat.intCast_mul]; grind
theorem dt_scaled {n m : Nat} (T : List (List Rat)) (β : List Rat → Int) (h : ∀ r ∈ T, ∀ q ∈ r, (q.den : Int) ∣ β r) :
    ld n m (wgs ((T.map fun r => r.map (wh (β r))).map vr) one) = ((prodB (T.map β) : Int) : Rat) * dt n m T := by
  unfold dt ld
  rw [List.map_map]
  have := wgs_scaled T β h one (Tk n m)
  have e : (vr ∘ fun r : List Rat => List.map (wh (β r)) r) = fun r : List Rat => vr (r.map (wh (β r))) := rfl
  rw [e, this]
  grind
theorem prodB_ok (L : List Int) {d : Nat} : (∀ b ∈ L, 0 < b ∧ b.natAbs ≤ 2 ^ d) → 0 < prodB L ∧ (prodB L).natAbs ≤ 2 ^ (d * L.length) := by
  induction L with
  | nil => intro _; exact ⟨by decide, by simp [prodB]⟩
  | cons b L ih =>
    intro h
    obtain ⟨h1, h2⟩ := ih (fun x hx => h x (by simp [hx]))
    obtain ⟨g1, g2⟩ := h b (by simp)
    refine ⟨Int.mul_pos g1 h1, ?_⟩
    simp only [prodB]
    rw [Int.natAbs_mul, List.length_cons, Nat.mul_succ, Nat.add_comm]
    exact pmul g2 h2
theorem prodB_foldl (L : List Int) : ∀ c : Int, L.foldl (fun p b => p * b) c = c * prodB L := by
  induction L with
  | nil => intro c; simp [prodB]
  | cons b L ih => intro c; simp only [List.foldl_cons, prodB]; rw [ih, Int.mul_assoc]
end Wd
namespace Wd
open Mth
noncomputable def sumQ (f : Nat → Rat) : Nat → Rat
  | 0 => 0
  | n+1 => sumQ f n + f n
noncomputable def wn (V : Nat → Vec) : Nat → Frm
  | 0 => one
  | i+1 => wg (V i) (wn V i)
theorem sumQ_one {f : Nat → Rat} {i : Nat} : ∀ {n : Nat}, i < n → (∀ l, l < n → l ≠ i → f l = 0) → sumQ f n = f i := by
  intro n
  induction n with
  | zero => intro h; (first | lia | omega)
  | succ n ih =>
    intro h g
    by_cases hi : i = n
    · subst hi
      have : ∀ m, m ≤ i → sumQ f m = 0 := by
        intro m
        induction m with
        | zero => intro _; rfl
        | succ m ihm => intro hm; simp only [sumQ]; rw [ihm (by (first | lia | omega)), g m (by (first | lia | omega)) (by (first | lia | omega))]; grind
      simp only [sumQ]; rw [this i (Nat.le_refl _)]; grind
    · simp only [sumQ]
      rw [ih (by (first | lia | omega)) (fun l hl hne => g l (by (first | lia | omega)) hne), g n (by (first | lia | omega)) (by (first | lia | omega))]; grind
noncomputable def prodQ (f : Nat → Rat) : Nat → Rat
  | 0 => 1
  | n+1 => prodQ f n * f n
theorem ld_tri {n : Nat} {U : Nat → Vec} (h : ∀ i j, i < n → j < i → U i j = 0) : ∀ i, i ≤ n → ld i n (wn U i) = prodQ (fun l => U l l) i := by
  intro i
  induction i with
  | zero => intro _; exact ld_one n
  | succ i ih =>
    intro hi
    simp only [wn, prodQ]
    rw [ld_wg (wn U i) (fun j hj => h i j (by (first | lia | omega)) hj) (by (first | lia | omega)), ih (by (first | lia | omega))]; grind
theorem wgs_snoc (L : List Vec) (v : Vec) (w : Frm) : wgs (L ++ [v]) w = wg v (wgs L w) := by rw [wgs_app]; rfl
theorem wgs_wn (L : List Vec) (V : Nat → Vec) (h : ∀ (i : Nat) (v : Vec), L[i]? = some v → v = V i) : wgs L one = wn V L.length := by
  have : ∀ i, i ≤ L.length → wgs (L.take i) one = wn V i := by
    intro i
    induction i with
    | zero => intro _; rfl
    | succ i ih =>
      intro hi
      have hl : L[i]? = some L[i] := List.getElem?_eq_getElem (by (first | lia | omega))
      rw [List.take_add_one, hl]
      simp only [Option.toList]
      rw [wgs_snoc, ih (by (first | lia | omega)), h i _ hl]; rfl
  have := this L.length (Nat.le_refl _)
  rw [List.take_length] at this
  exact this
noncomputable def rowF (T : List (List Rat)) (i : Nat) : Vec := vq (T.getD i [])
theorem dt_wn {n m : Nat} (T : List (List Rat)) (hl : T.length = n) : dt n m T = ld n m (wn (rowF T) n) := by
  unfold dt
  rw [wgs_wn (T.map vq) (rowF T), List.length_map, hl]
  intro i v h
  rw [List.getElem?_map] at h
  cases e : T[i]? with
  | none => rw [e] at h; cases h
  | some r =>
    rw [e] at h
    have : v = vq r := (Option.some.inj h).symm
    rw [this]; unfold rowF; rw [List.getD_eq_getElem?_getD, e]; rfl
noncomputable def en (T : List (List Rat)) (i j : Nat) : Rat := (T.getD i []).getD j 0
theorem rowF_en (T : List (List Rat)) (i j : Nat) : rowF T i j = en T i j := rfl
theorem sumQ_zero {f : Nat → Rat} : ∀ {n : Nat}, (∀ l, l < n → f l = 0) → sumQ f n = 0 := by
  intro n
  induction n with
  | zero => intro _; rfl
  | succ n ih => intro h; simp only [sumQ]; rw [ih (fun l hl => h l (by (first | lia | omega))), h n (by (first | lia | omega))]; grind
end Wd
namespace Wd
theorem sumQ_add (f g : Nat → Rat) : ∀ n, sumQ (fun j => f j + g j) n = sumQ f n + sumQ g n := by
  intro n
  induction n with
  | zero => simp only [sumQ]; grind
  | succ n ih => simp only [sumQ]; rw [ih]; grind
theorem sumQ_smul (c : Rat) (f : Nat → Rat) : ∀ n, sumQ (fun j => c * f j) n = c * sumQ f n := by
  intro n
  induction n with
  | zero => simp only [sumQ]; grind
  | succ n ih => simp only [sumQ]; rw [ih]; grind
theorem sumQ_congr {f g : Nat → Rat} : ∀ {n}, (∀ j, j < n → f j = g j) → sumQ f n = sumQ g n := by
  intro n
  induction n with
  | zero => intro _; rfl
  | succ n ih => intro h; simp only [sumQ]; rw [ih (fun j hj => h j (by (first | lia | omega))), h n (by (first | lia | omega))]
theorem wg_len (S : List Bool) : ∀ (v : Vec) (w x : Frm), (∀ T : List Bool, T.length = S.length → w T = x T) → wg v w S = wg v x S := by
  induction S with
  | nil => intro v w x _; rfl
  | cons b S ih =>
    intro v w x h
    cases b
    · exact ih _ _ _ (fun T hT => h (false :: T) (by simp [hT]))
    · simp only [wg]
      rw [h (false :: S) (by simp), ih (sh v) (at1 w) (at1 x) (fun T hT => h (true :: T) (by simp [hT]))]
end Wd
namespace Mth
theorem cb1_dvd {c M : Int} (h : 0 < c) {q : Rat} (h1 : c ∣ M) (h2 : (q.den : Int) ∣ M) : cb1 c q ∣ M := by
  have hq := q.den_nz
  have hg : 0 < Int.gcd c q.den := Int.gcd_pos_of_ne_zero_left _ (by (first | lia | omega))
  have e1 := Int.gcd_dvd_left c (q.den : Int)
  have e : cb1 c q = c / (Int.gcd c q.den : Int) * q.den := by unfold cb1; rw [Int.fdiv_eq_ediv_of_dvd e1]
  have l : c / (Int.gcd c q.den : Int) * q.den = (Int.lcm c q.den : Int) := by
    have h3 : (Int.gcd c q.den : Int) * (Int.lcm c q.den : Int) = c * q.den := by
      have := Int.gcd_mul_lcm c (q.den : Int)
      have h4 : ((c * (q.den : Int)).natAbs : Int) = c * q.den := by
        have : 0 < c * (q.den : Int) := Int.mul_pos h (by (first | lia | omega))
        (first | lia | omega)
      rw [← h4, Int.natAbs_mul, ← this, Int.natCast_mul]
    have h5 : (Int.gcd c q.den : Int) ≠ 0 := by (first | lia | omega)
    refine Int.eq_of_mul_eq_mul_left h5 ?_
    rw [h3, ← Int.mul_assoc, Int.mul_ediv_cancel' e1]
  rw [e, l]
  exact Int.coe_lcm_dvd h1 h2
theorem cb_dvd (r : List Rat) {M : Int} : ∀ {c : Int}, 0 < c → c ∣ M → (∀ q ∈ r, (q.den : Int) ∣ M) → r.foldl cb1 c ∣ M := by
  induction r with
  | nil => intro c _ h _; exact h
  | cons q r ih =>
    intro c hc h1 h2
    exact ih (cb1_ok hc q).1 (cb1_dvd hc h1 (h2 q (by simp))) (fun p hp => h2 p (by simp [hp]))
theorem cb_le {r : List Rat} {M : Int} (hM : 0 < M) (h : ∀ q ∈ r, (q.den : Int) ∣ M) : (cb r).natAbs ≤ M.natAbs := by
  have h1 : cb r ∣ M := cb_dvd r (by decide) (Int.one_dvd _) h
  exact Nat.le_of_dvd (by (first | lia | omega)) (Int.natAbs_dvd_natAbs.mpr h1)
theorem den_dvd {q : Rat} {M k : Int} (h : (M : Rat) * q = k) : (q.den : Int) ∣ M := by
  have h1 := rat_num q
  have e : (((M * q.num : Int)) : Rat) = ((k * q.den : Int) : Rat) := by
    rw [Rat.intCast_mul, Rat.intCast_mul, ic]; grind
  have e2 : M * q.num = k * q.den := by exact_mod_cast e
  have e3 : M.natAbs * q.num.natAbs = k.natAbs * q.den := by
    have := congrArg Int.natAbs e2
    rw [Int.natAbs_mul, Int.natAbs_mul, Int.natAbs_natCast] at this
    exact this
  have cp2 : Nat.Coprime q.den q.num.natAbs := Nat.Coprime.symm q.reduced
  have : q.den ∣ M.natAbs := Nat.Coprime.dvd_of_dvd_mul_right cp2 ⟨k.natAbs, by rw [e3, Nat.mul_comm]⟩
  exact Int.ofNat_dvd_left.mpr this
theorem den_sum : ∀ {r : List Rat} {p : Rat}, p ∈ r → p.den ≤ (r.map (·.den)).sum
  | q :: r, p, h => by
    rw [List.map_cons, List.sum_cons]
    rcases List.mem_cons.mp h with rfl | h
    · (first | lia | omega)
    · have := den_sum h; (first | lia | omega)
theorem cb_pos (r : List Rat) : 0 < cb r ∧ ∀ q ∈ r, (q.den : Int) ∣ cb r := by
  obtain ⟨a, _, b, _⟩ := cb_ok r (c := 1) (D := 0) (d := (r.map (·.den)).sum) (by decide) (by decide) (fun p hp => by
    have h1 : p.den ≤ (r.map (·.den)).sum := den_sum hp
    have h2 : (r.map (·.den)).sum < 2 ^ (r.map (·.den)).sum := Nat.lt_two_pow_self
    (first | lia | omega))
  exact ⟨a, b⟩
noncomputable def Vb (v : Nat) (q : Rat) : Prop := Wd.Ab ((2 ^ v : Nat) : Rat) q
theorem Sb.vb {n d : Nat} {q : Rat} (h : Sb n d q) : Vb n q := by
  have h1 := rat_num q
  have h2 : (1 : Rat) ≤ ((q.den : Nat) : Rat) := by
    have : 1 ≤ q.den := by have := q.den_nz; (first | lia | omega)
    exact_mod_cast this
  have h3 := Wd.nat_ab h.1
  obtain ⟨a, b⟩ := h3
  have nn : (0 : Rat) ≤ ((2 ^ n : Nat) : Rat) := by exact_mod_cast Nat.zero_le _
  rw [← h1] at a b
  constructor
  · by_cases hq : 0 ≤ q
    · grind
    · have : 0 ≤ (-q) * (((q.den : Nat) : Rat) - 1) := Rat.mul_nonneg (by grind) (by grind)
      grind
  · by_cases hq : 0 ≤ q
    · have : 0 ≤ q * (((q.den : Nat) : Rat) - 1) := Rat.mul_nonneg hq (by grind)
      grind
    · grind
theorem wh_vb {b : Int} {q : Rat} {v D : Nat} (h : (q.den : Int) ∣ b) (h1 : Vb v q) (h2 : b.natAbs ≤ 2 ^ D) : (wh b q).natAbs ≤ 2 ^ (D + v) := by
  refine Wd.ab_nat ?_
  rw [wh_rat h]
  have := (Wd.nat_ab h2).mul h1
  have e : (((2 ^ D : Nat)) : Rat) * ((2 ^ v : Nat) : Rat) = ((2 ^ (D + v) : Nat) : Rat) := by rw [Nat.pow_add, Rat.natCast_mul]
  rw [e] at this
  exact this
theorem Vb.mul {v u : Nat} {p q : Rat} (h : Vb v p) (g : Vb u q) : Vb (v + u) (p * q) := by
  have := Wd.Ab.mul h g
  have e : (((2 ^ v : Nat)) : Rat) * ((2 ^ u : Nat) : Rat) = ((2 ^ (v + u) : Nat) : Rat) := by rw [Nat.pow_add, Rat.natCast_mul]
  rw [e] at this
  exact this
theorem Vb.add {v : Nat} {p q : Rat} (h : Vb v p) (g : Vb v q) : Vb (v + 1) (p + q) := by
  obtain ⟨a, b⟩ := h
  obtain ⟨c, d⟩ := g
  have e : ((2 ^ (v + 1) : Nat) : Rat) = ((2 ^ v : Nat) : Rat) + ((2 ^ v : Nat) : Rat) := by
    rw [Nat.pow_succ, Nat.mul_two, Rat.natCast_add]
  unfold Vb Wd.Ab
  rw [e]
  constructor <;> grind
theorem Vb.mono {v u : Nat} {p : Rat} (h : Vb v p) (hv : v ≤ u) : Vb u p := by
  refine Wd.Ab.le h ?_
  exact_mod_cast Nat.pow_le_pow_right (by decide) hv
end Mth
namespace Wd
open Mth
theorem wg_cols (S : List Bool) : ∀ (u v : Vec) (w : Frm), (∀ j, j < S.length → u j = v j) → wg u w S = wg v w S := by
  induction S with
  | nil => intro u v w _; rfl
  | cons b S ih =>
    intro u v w h
    have h2 := ih (sh u) (sh v)
    cases b
    · exact h2 _ (fun j hj => h (j + 1) (by simp; (first | lia | omega)))
    · simp only [wg]
      rw [h 0 (by simp), h2 _ (fun j hj => h (j + 1) (by simp; (first | lia | omega)))]
end Wd
namespace Wd
open Mth
noncomputable def setE (T : List (List Rat)) (i j : Nat) (v : Rat) : List (List Rat) := T.set i ((T.getD i []).set j v)
structure Sq (n : Nat) (T : List (List Rat)) : Prop where
  len : T.length = n
  col : ∀ r ∈ T, r.length = n
theorem Sq.row {n : Nat} {T : List (List Rat)} (h : Sq n T) {i : Nat} (hi : i < n) : (T.getD i []).length = n ∧ T[i]? = some (T.getD i []) := by
  have e : T[i]? = some (T[i]'(by rw [h.len]; exact hi)) := List.getElem?_eq_getElem _
  have e2 : T.getD i [] = T[i]'(by rw [h.len]; exact hi) := by rw [List.getD_eq_getElem?_getD, e]; rfl
  rw [e2]
  exact ⟨h.col _ (List.getElem_mem _), e⟩
theorem Sq.set {n : Nat} {T : List (List Rat)} (h : Sq n T) {i j : Nat} {v : Rat} (hi : i < n) : Sq n (setE T i j v) := by
  refine ⟨by unfold setE; rw [List.length_set]; exact h.len, fun r hr => ?_⟩
  unfold setE at hr
  rcases List.mem_or_eq_of_mem_set hr with h1 | h1
  · exact h.col r h1
  · rw [h1, List.length_set]; exact (h.row hi).1
theorem en_setE {n : Nat} {T : List (List Rat)} (h : Sq n T) {i j : Nat} {v : Rat} (hi : i < n) (hj : j < n) (i' j' : Nat) : en (setE T i j v) i' j' = if i' = i ∧ j' = j then v else en T i' j' := by
  unfold en setE
  have hl := (h.row hi).1
  by_cases e : i = i'
  · subst e
    have : (T.set i ((T.getD i []).set j v)).getD i [] = (T.getD i []).set j v := by
      rw [List.getD_eq_getElem?_getD, List.getElem?_set_self (by rw [h.len]; exact hi)]; rfl
    rw [this]
    by_cases e2 : j = j'
    · subst e2
      rw [if_pos ⟨rfl, rfl⟩, List.getD_eq_getElem?_getD, List.getElem?_set_self (by (first | lia | omega))]; rfl
    · rw [if_neg (fun z => e2 z.2.symm), List.getD_eq_getElem?_getD, List.getElem?_set_ne e2, ← List.getD_eq_getElem?_getD]
  · have : (T.set i ((T.getD i []).set j v)).getD i' [] = T.getD i' [] := by
      rw [List.getD_eq_getElem?_getD, List.getElem?_set_ne e, ← List.getD_eq_getElem?_getD]
    rw [this, if_neg (fun z => e z.1.symm)]
noncomputable abbrev Rope := Nat × Nat × Rat
noncomputable def lapStep (T : List (List Rat)) (r : Rope) : List (List Rat) :=
  if r.1 = r.2.1 then T else
  let T1 := setE T r.1 r.1 (en T r.1 r.1 + r.2.2)
  let T2 := setE T1 r.2.1 r.2.1 (en T1 r.2.1 r.2.1 + r.2.2)
  let T3 := setE T2 r.1 r.2.1 (en T2 r.1 r.2.1 - r.2.2)
  setE T3 r.2.1 r.1 (en T3 r.2.1 r.1 - r.2.2)
noncomputable def zeroT (n : Nat) : List (List Rat) := List.replicate n (List.replicate n 0)
noncomputable def lapT (n : Nat) (rs : List Rope) : List (List Rat) := rs.foldl lapStep (zeroT n)
theorem zero_sq (n : Nat) : Sq n (zeroT n) := ⟨by simp [zeroT], fun r hr => by rw [(List.mem_replicate.mp hr).2]; simp⟩
theorem en_zero (n i j : Nat) : en (zeroT n) i j = 0 := by
  unfold en zeroT
  rw [List.getD_eq_getElem?_getD, List.getD_eq_getElem?_getD, List.getElem?_replicate]
  split
  · simp only [Option.getD_some]
    rw [List.getElem?_replicate]
    split <;> rfl
  · rfl
noncomputable def lapR (r : Rope) (i j : Nat) : Rat :=
  if r.1 = r.2.1 then 0 else (if i = r.1 ∧ j = r.1 then r.2.2 else 0) + (if i = r.2.1 ∧ j = r.2.1 then r.2.2 else 0) - (if i = r.1 ∧ j = r.2.1 then r.2.2 else 0) - (if i = r.2.1 ∧ j = r.1 then r.2.2 else 0)
theorem lapStep_ok {n : Nat} {T : List (List Rat)} (h : Sq n T) {r : Rope} (h1 : r.1 < n) (h2 : r.2.1 < n) : Sq n (lapStep T r) ∧ ∀ i j, en (lapStep T r) i j = en T i j + lapR r i j := by
  unfold lapStep lapR
  by_cases e : r.1 = r.2.1
  · simp only [if_pos e]
    exact ⟨h, fun i j => by grind⟩
  · simp only [if_neg e]
    have q1 := h.set (j := r.1) (v := en T r.1 r.1 + r.2.2) h1
    have e1 := en_setE h (v := en T r.1 r.1 + r.2.2) h1 h1
    generalize setE T r.1 r.1 (en T r.1 r.1 + r.2.2) = T1 at q1 e1
    have q2 := q1.set (j := r.2.1) (v := en T1 r.2.1 r.2.1 + r.2.2) h2
    have e2 := en_setE q1 (v := en T1 r.2.1 r.2.1 + r.2.2) h2 h2
    generalize setE T1 r.2.1 r.2.1 (en T1 r.2.1 r.2.1 + r.2.2) = T2 at q2 e2
    have q3 := q2.set (j := r.2.1) (v := en T2 r.1 r.2.1 - r.2.2) h1
    have e3 := en_setE q2 (v := en T2 r.1 r.2.1 - r.2.2) h1 h2
    generalize setE T2 r.1 r.2.1 (en T2 r.1 r.2.1 - r.2.2) = T3 at q3 e3
    have q4 := q3.set (j := r.1) (v := en T3 r.2.1 r.1 - r.2.2) h2
    have e4 := en_setE q3 (v := en T3 r.2.1 r.1 - r.2.2) h2 h1
    refine ⟨q4, fun i j => ?_⟩
    rw [e4]
    simp only [e3, e2, e1]
    grind
theorem lapT_ok {n : Nat} : ∀ (rs : List Rope) {T : List (List Rat)}, Sq n T → (∀ r ∈ rs, r.1 < n ∧ r.2.1 < n) → Sq n (rs.foldl lapStep T) ∧ ∀ i j, en (rs.foldl lapStep T) i j = en T i j + (rs.map fun r => lapR r i j).sum := by
  intro rs
  induction rs with
  | nil => intro T h _; exact ⟨h, fun i j => by simp only [List.map_nil, List.sum_nil, List.foldl_nil]; grind⟩
  | cons r rs ih =>
    intro T h hr
    obtain ⟨a, b⟩ := lapStep_ok h (hr r (by simp)).1 (hr r (by simp)).2
    obtain ⟨c, d⟩ := ih a (fun x hx => hr x (by simp [hx]))
    refine ⟨c, fun i j => ?_⟩
    rw [List.foldl_cons, d, b, List.map_cons, List.sum_cons]; grind
end Wd
namespace Wd
open Mth
end Wd
namespace Wd
open Mth
noncomputable def Hang (n : Nat) (rs : List Rope) : Prop := ∀ S : Nat → Prop, S 0 → (∀ r ∈ rs, S r.1 ↔ S r.2.1) → ∀ p, p < n → S p
theorem sum_mulr (c : Rat) (f : Rope → Rat) (rs : List Rope) : (rs.map f).sum * c = (rs.map fun r => f r * c).sum := by
  induction rs with
  | nil => simp only [List.map_nil, List.sum_nil]; grind
  | cons r rs ih => simp only [List.map_cons, List.sum_cons]; rw [← ih]; grind
theorem lapT_sq {n : Nat} {rs : List Rope} (h : ∀ r ∈ rs, r.1 < n ∧ r.2.1 < n) : Sq n (lapT n rs) ∧ ∀ i j, en (lapT n rs) i j = (rs.map fun r => lapR r i j).sum := by
  obtain ⟨a, b⟩ := lapT_ok rs (zero_sq n) h
  refine ⟨a, fun i j => ?_⟩
  have := b i j
  rw [en_zero] at this
  show en (rs.foldl lapStep (zeroT n)) i j = _
  rw [this]; grind
noncomputable def cutT (T : List (List Rat)) : List (List Rat) := (T.drop 2).map (·.drop 2)
theorem cut_len {n : Nat} {T : List (List Rat)} (q : Sq (n+2) T) : (cutT T).length = n ∧ ∀ r ∈ cutT T, r.length = n := by
  refine ⟨by unfold cutT; rw [List.length_map, List.length_drop, q.len]; (first | lia | omega), fun r hr => ?_⟩
  obtain ⟨s, hs, rfl⟩ := List.mem_map.mp hr
  rw [List.length_drop, q.col s (List.mem_of_mem_drop hs)]; (first | lia | omega)
theorem cut_row {n : Nat} {T : List (List Rat)} (q : Sq (n+2) T) {i : Nat} (hi : i < n) : (cutT T)[i]? = some ((T.getD (i+2) []).drop 2) := by
  unfold cutT
  rw [List.getElem?_map, List.getElem?_drop, Nat.add_comm 2 i, (q.row (by (first | lia | omega))).2]; rfl
end Wd
namespace Wd
open Mth
theorem IsI.add {x y : Rat} (h : IsI x) (g : IsI y) : IsI (x + y) := by
  obtain ⟨a, rfl⟩ := h; obtain ⟨b, rfl⟩ := g; exact ⟨a + b, by grind⟩
theorem IsI.neg {x : Rat} (h : IsI x) : IsI (-x) := by
  obtain ⟨a, rfl⟩ := h; exact ⟨-a, by grind⟩
theorem IsI.zero : IsI 0 := ⟨0, rfl⟩
theorem isi_sum {f : Rope → Rat} : ∀ {rs : List Rope}, (∀ r ∈ rs, IsI (f r)) → IsI (rs.map f).sum := by
  intro rs
  induction rs with
  | nil => intro _; exact ⟨0, rfl⟩
  | cons r rs ih => intro h; simp only [List.map_cons, List.sum_cons]; exact (h r (by simp)).add (ih fun x hx => h x (by simp [hx]))
theorem Ab.add {B C x y : Rat} (h : Ab B x) (g : Ab C y) : Ab (B + C) (x + y) := by
  obtain ⟨h1, h2⟩ := h; obtain ⟨g1, g2⟩ := g
  constructor <;> grind
theorem ab_sum {f : Rope → Rat} {B : Rat} : ∀ {rs : List Rope}, (∀ r ∈ rs, Ab B (f r)) → Ab ((rs.length : Nat) * B) (rs.map f).sum := by
  intro rs
  induction rs with
  | nil => intro _; simp only [List.map_nil, List.sum_nil, List.length_nil]; constructor <;> grind
  | cons r rs ih =>
    intro h
    simp only [List.map_cons, List.sum_cons]
    have e : (((r :: rs).length : Nat) : Rat) * B = B + (rs.length : Nat) * B := by rw [List.length_cons]; grind
    rw [e]
    exact (h r (by simp)).add (ih fun x hx => h x (by simp [hx]))
noncomputable def denP : List Rope → Nat
  | [] => 1
  | r :: rs => r.2.2.den * denP rs
theorem denP_pos : ∀ rs : List Rope, 0 < denP rs
  | [] => Nat.one_pos
  | r :: rs => Nat.mul_pos r.2.2.den_pos (denP_pos rs)
theorem denP_le {β : Nat} : ∀ {rs : List Rope}, (∀ r ∈ rs, r.2.2.den ≤ 2 ^ β) → denP rs ≤ 2 ^ (β * rs.length)
  | [], _ => by simp [denP]
  | r :: rs, h => by
    have h1 := h r (by simp)
    have h2 := denP_le (rs := rs) fun x hx => h x (by simp [hx])
    have := pmul h1 h2
    rw [List.length_cons, Nat.mul_succ, Nat.add_comm]; exact this
theorem denP_dvd : ∀ {rs : List Rope} {r : Rope}, r ∈ rs → r.2.2.den ∣ denP rs
  | [], _, h => by cases h
  | s :: rs, r, h => by
    rcases List.mem_cons.mp h with rfl | h
    · exact Nat.dvd_mul_right _ _
    · exact Nat.dvd_trans (denP_dvd h) (Nat.dvd_mul_left _ _)
theorem isi_den {q : Rat} {M : Nat} (h : q.den ∣ M) : IsI ((M : Nat) * q) := by
  obtain ⟨k, rfl⟩ := h
  refine ⟨k * q.num, ?_⟩
  have e := rat_num q
  have e1 : ((q.den * k : Nat) : Rat) = (q.den : Nat) * (k : Nat) := by exact_mod_cast rfl
  have e2 : ((k * q.num : Int) : Rat) = (k : Nat) * (q.num : Int) := by rw [Rat.intCast_mul]; rfl
  rw [e1, e2, ← e]; grind
theorem lapR_is (r : Rope) (i j : Nat) : lapR r i j = 0 ∨ lapR r i j = r.2.2 ∨ lapR r i j = -r.2.2 := by
  unfold lapR
  by_cases e : r.1 = r.2.1
  · rw [if_pos e]; exact .inl rfl
  · rw [if_neg e]
    by_cases a : i = r.1
    · have b : i ≠ r.2.1 := fun z => e (a.symm.trans z)
      by_cases c : j = r.1
      · have d : j ≠ r.2.1 := fun z => e (c.symm.trans z)
        simp [a, c, e]; grind
      · by_cases d : j = r.2.1
        · simp [a, d, e]; grind
        · simp [a, c, d, e]; grind
    · by_cases b : i = r.2.1
      · by_cases c : j = r.1
        · have d : j ≠ r.2.1 := fun z => e (c.symm.trans z)
          have e' : r.2.1 ≠ r.1 := fun z => e z.symm
          simp [b, c, e, e']; grind
        · have e' : r.2.1 ≠ r.1 := fun z => e z.symm
          by_cases d : j = r.2.1
          · simp [b, d, e']; grind
          · simp [b, c, d, e']; grind
      · simp [a, b]; grind
theorem ab_zero {B : Rat} (h : 0 ≤ B) : Ab B 0 := by constructor <;> grind
theorem lap_bd {n α β : Nat} {rs : List Rope} (h : ∀ r ∈ rs, r.1 < n ∧ r.2.1 < n ∧ Sb α β r.2.2) (hm : rs.length ≤ 16) (i j : Nat) : IsI ((denP rs : Nat) * en (lapT n rs) i j) ∧ Vb (α + 4) (en (lapT n rs) i j) := by
  rw [(lapT_sq fun r hr => ⟨(h r hr).1, (h r hr).2.1⟩).2]
  constructor
  · rw [Rat.mul_comm, sum_mulr]
    refine isi_sum fun r hr => ?_
    have q := isi_den (denP_dvd hr)
    rw [Rat.mul_comm]
    rcases lapR_is r i j with e | e | e <;> rw [e]
    · rw [Rat.mul_zero]; exact IsI.zero
    · exact q
    · have := q.neg
      rwa [Rat.mul_neg]
  · have q : ∀ r ∈ rs, Ab ((2 ^ α : Nat) : Rat) (lapR r i j) := fun r hr => by
      have v : Ab ((2 ^ α : Nat) : Rat) r.2.2 := (h r hr).2.2.vb
      rcases lapR_is r i j with e | e | e <;> rw [e]
      · exact ab_zero v.nn
      · exact v
      · have := v.neg
        rwa [show -1 * r.2.2 = -r.2.2 by grind] at this
    refine (ab_sum q).le ?_
    have : rs.length * 2 ^ α ≤ 2 ^ (α + 4) := by rw [Nat.pow_add, Nat.mul_comm]; exact Nat.mul_le_mul_left _ hm
    have e : (((rs.length * 2 ^ α : Nat)) : Rat) = (rs.length : Nat) * ((2 ^ α : Nat) : Rat) := by exact_mod_cast rfl
    rw [← e]; exact_mod_cast this
end Wd
namespace Wd
open Mth
noncomputable def inT (ts : List (List Int)) (p : Nat) (x : Int) : Prop := ∃ t, ts[p]? = some t ∧ x ∈ t
noncomputable def insL (t : List Int) (a : Nat) (x : Int) : List Int := t.take a ++ x :: t.drop a
theorem insL_perm (t : List Int) (a : Nat) (x : Int) : (insL t a x).Perm (x :: t) := by
  unfold insL
  have h := List.perm_middle (a := x) (l₁ := t.take a) (l₂ := t.drop a)
  rwa [List.take_append_drop] at h
theorem insL_mem {t : List Int} {a : Nat} {x y : Int} : y ∈ insL t a x ↔ y = x ∨ y ∈ t := by
  rw [(insL_perm t a x).mem_iff, List.mem_cons]
theorem insL_nd {t : List Int} {a : Nat} {x : Int} (h : t.Nodup) (hx : x ∉ t) : (insL t a x).Nodup := by
  rw [(insL_perm t a x).nodup_iff, List.nodup_cons]
  exact ⟨hx, h⟩
theorem insL_len (t : List Int) (a : Nat) (x : Int) : (insL t a x).length = t.length + 1 := by
  rw [(insL_perm t a x).length_eq]; rfl
theorem inT_ins {ts : List (List Int)} {p a q : Nat} {x y : Int} {t : List Int} (h : ts[p]? = some t) : inT (ts.set p (insL t a x)) q y ↔ inT ts q y ∨ (q = p ∧ y = x) := by
  have hp : p < ts.length := (List.getElem?_eq_some_iff.mp h).1
  unfold inT
  by_cases e : p = q
  · subst e
    rw [List.getElem?_set_self hp, h]
    constructor
    · rintro ⟨t', e1, e2⟩
      cases e1
      rcases insL_mem.mp e2 with z | z
      · exact .inr ⟨rfl, z⟩
      · exact .inl ⟨t, rfl, z⟩
    · rintro (⟨t', e1, e2⟩ | ⟨_, e2⟩)
      · cases e1
        exact ⟨_, rfl, insL_mem.mpr (.inr e2)⟩
      · exact ⟨_, rfl, insL_mem.mpr (.inl e2)⟩
  · rw [List.getElem?_set_ne e]
    constructor
    · intro h; exact .inl h
    · rintro (h | ⟨h, _⟩)
      · exact h
      · exact absurd h.symm e
theorem inT_app {ts : List (List Int)} {u : List Int} {q : Nat} {y : Int} : inT (ts ++ [u]) q y ↔ inT ts q y ∨ (q = ts.length ∧ y ∈ u) := by
  unfold inT
  rcases Nat.lt_trichotomy q ts.length with h | h | h
  · rw [List.getElem?_append_left h]
    constructor
    · intro z; exact .inl z
    · rintro (z | ⟨z, _⟩)
      · exact z
      · (first | lia | omega)
  · subst h
    rw [List.getElem?_concat_length]
    constructor
    · rintro ⟨t, e1, e2⟩; cases e1; exact .inr ⟨rfl, e2⟩
    · rintro (⟨t, e1, e2⟩ | ⟨_, e2⟩)
      · rw [List.getElem?_eq_none (Nat.le_refl _)] at e1; cases e1
      · exact ⟨_, rfl, e2⟩
  · constructor
    · rintro ⟨t, e1, e2⟩
      have : q < (ts ++ [u]).length := (List.getElem?_eq_some_iff.mp e1).1
      rw [List.length_append, List.length_singleton] at this; (first | lia | omega)
    · rintro (⟨t, e1, e2⟩ | ⟨z, _⟩)
      · have := (List.getElem?_eq_some_iff.mp e1).1; (first | lia | omega)
      · (first | lia | omega)
theorem nd_ix {t : List Int} (h : t.Nodup) {i j : Nat} {x : Int} (h1 : t[i]? = some x) (h2 : t[j]? = some x) : i = j := by
  obtain ⟨i1, e1⟩ := List.getElem?_eq_some_iff.mp h1
  obtain ⟨j1, e2⟩ := List.getElem?_eq_some_iff.mp h2
  have hp := List.pairwise_iff_getElem.mp h
  rcases Nat.lt_trichotomy i j with z | z | z
  · exact absurd (e1.trans e2.symm) (hp i j i1 j1 z)
  · exact z
  · exact absurd (e2.trans e1.symm) (hp j i j1 i1 z)
theorem set_mem {t : List Int} (h : t.Nodup) {a : Nat} {o v y : Int} (ha : t[a]? = some o) : y ∈ t.set a v ↔ (y ∈ t ∧ y ≠ o) ∨ y = v := by
  have hl : a < t.length := (List.getElem?_eq_some_iff.mp ha).1
  constructor
  · intro hy
    obtain ⟨i, hi, e⟩ := List.getElem_of_mem hy
    have e' : (t.set a v)[i]? = some y := by rw [List.getElem?_eq_getElem hi, e]
    by_cases z : a = i
    · subst z
      rw [List.getElem?_set_self hl] at e'
      cases e'; exact .inr rfl
    · rw [List.getElem?_set_ne z] at e'
      exact .inl ⟨List.mem_of_getElem? e', fun w => z (nd_ix h ha (by rw [e', w]))⟩
  · rintro (⟨h1, h2⟩ | h1)
    · obtain ⟨i, hi, e⟩ := List.getElem_of_mem h1
      have e' : t[i]? = some y := by rw [List.getElem?_eq_getElem hi, e]
      have z : a ≠ i := fun w => h2 (by subst w; rw [ha] at e'; exact (Option.some.inj e').symm)
      exact List.mem_of_getElem? (by rw [List.getElem?_set_ne z]; exact e')
    · rw [h1]; exact List.mem_of_getElem? (List.getElem?_set_self hl)
theorem set_nd {t : List Int} (h : t.Nodup) {a : Nat} {v : Int} (hv : v ∉ t) : (t.set a v).Nodup := by
  have hp := List.pairwise_iff_getElem.mp h
  refine List.pairwise_iff_getElem.mpr fun i j hi hj hij => ?_
  rw [List.length_set] at hi hj
  rw [List.getElem_set, List.getElem_set]
  split
  · split
    · (first | lia | omega)
    · intro z; exact hv (z ▸ List.getElem_mem _)
  · split
    · intro z; exact hv (z ▸ List.getElem_mem _)
    · exact hp i j hi hj hij
theorem inT_set {ts : List (List Int)} {p a q : Nat} {o v y : Int} {t : List Int} (h : ts[p]? = some t) (hn : t.Nodup) (ha : t[a]? = some o) : inT (ts.set p (t.set a v)) q y ↔ (inT ts q y ∧ ¬ (q = p ∧ y = o)) ∨ (q = p ∧ y = v) := by
  have hp : p < ts.length := (List.getElem?_eq_some_iff.mp h).1
  unfold inT
  by_cases e : p = q
  · subst e
    rw [List.getElem?_set_self hp, h]
    constructor
    · rintro ⟨t', e1, e2⟩
      cases e1
      rcases (set_mem hn ha).mp e2 with z | z
      · exact .inl ⟨⟨t, rfl, z.1⟩, fun w => z.2 w.2⟩
      · exact .inr ⟨rfl, z⟩
    · rintro (⟨⟨t', e1, e2⟩, e3⟩ | ⟨_, e2⟩)
      · cases e1
        exact ⟨_, rfl, (set_mem hn ha).mpr (.inl ⟨e2, fun w => e3 ⟨rfl, w⟩⟩)⟩
      · exact ⟨_, rfl, (set_mem hn ha).mpr (.inr e2)⟩
  · rw [List.getElem?_set_ne e]
    constructor
    · intro h; exact .inl ⟨h, fun w => e w.1.symm⟩
    · rintro (h | ⟨h, _⟩)
      · exact h.1
      · exact absurd h.symm e
structure Gi (ts : List (List Int)) (rs : List Rope) : Prop where
  two : 2 ≤ ts.length
  few : ts.length ≤ rs.length + 1
  ends : ∀ r ∈ rs, r.1 < ts.length ∧ r.2.1 < ts.length ∧ Sb 30 17 r.2.2
  pos : ∀ r ∈ rs, 0 < r.2.2
  hang : Hang ts.length rs
  odd : ∀ (k : Nat) (r : Rope), rs[k]? = some r → ∀ p : Nat, inT ts p (2 * (k : Int) + 1) ↔ p = r.2.1
  less : ∀ (p : Nat) (x : Int), inT ts p x → x < 2 * (rs.length : Int)
  nd : ∀ t ∈ ts, t.Nodup
  ne : ∀ t ∈ ts, t ≠ []
  lens : ∀ t ∈ ts, t.length ≤ 2 * rs.length
theorem set_all {P : List Int → Prop} {ts : List (List Int)} {p : Nat} {t : List Int} (h : ∀ t ∈ ts, P t) (ht : P t) : ∀ u ∈ ts.set p t, P u := fun u hu => by
  rcases List.mem_or_eq_of_mem_set hu with z | z
  · exact h u z
  · rw [z]; exact ht
theorem app_all {P : List Int → Prop} {ts : List (List Int)} {t : List Int} (h : ∀ t ∈ ts, P t) (ht : P t) : ∀ u ∈ ts ++ [t], P u := fun u hu => by
  rcases List.mem_append.mp hu with z | z
  · exact h u z
  · rw [List.mem_singleton.mp z]; exact ht
theorem hang_app {n : Nat} {rs : List Rope} {r : Rope} (h : Hang n rs) : Hang n (rs ++ [r]) := fun S s0 hs p hp => h S s0 (fun x hx => hs x (List.mem_append.mpr (.inl hx))) p hp
theorem snoc_at {rs : List Rope} {r x : Rope} {k : Nat} (h : (rs ++ [r])[k]? = some x) : rs[k]? = some x ∨ (k = rs.length ∧ x = r) := by
  rcases Nat.lt_trichotomy k rs.length with z | z | z
  · rw [List.getElem?_append_left z] at h; exact .inl h
  · subst z; rw [List.getElem?_concat_length] at h; exact .inr ⟨rfl, (Option.some.inj h).symm⟩
  · have := (List.getElem?_eq_some_iff.mp h).1
    rw [List.length_append, List.length_singleton] at this; (first | lia | omega)
theorem len_snoc (rs : List Rope) (r : Rope) : (rs ++ [r]).length = rs.length + 1 := by rw [List.length_append]; rfl
theorem Gi.chord {ts : List (List Int)} {rs : List Rope} (g : Gi ts rs) {p q a b : Nat} {t u : List Int} {e : Rat} (hp : ts[p]? = some t) (hq : (ts.set p (insL t a (2 * (rs.length : Int))))[q]? = some u) (he : Sb 30 17 e) (h0 : 0 < e) :
    Gi ((ts.set p (insL t a (2 * (rs.length : Int)))).set q (insL u b (2 * (rs.length : Int) + 1))) (rs ++ [(p, q, e)]) := by
  have lp : p < ts.length := (List.getElem?_eq_some_iff.mp hp).1
  have lq : q < ts.length := by have := (List.getElem?_eq_some_iff.mp hq).1; rwa [List.length_set] at this
  have tn : ∀ x, x ∈ t → x < 2 * (rs.length : Int) := fun x hx => g.less p x ⟨t, hp, hx⟩
  have l1 : ∀ x r, inT (ts.set p (insL t a (2 * (rs.length : Int)))) r x → x < 2 * (rs.length : Int) + 1 := fun x r h => by
    rcases (inT_ins hp).mp h with z | z
    · have := g.less _ _ z; (first | lia | omega)
    · (first | lia | omega)
  have un : ∀ x, x ∈ u → x < 2 * (rs.length : Int) + 1 := fun x hx => l1 x q ⟨u, hq, hx⟩
  have tm := List.mem_of_getElem? hp
  have nd1 : ∀ v ∈ ts.set p (insL t a (2 * (rs.length : Int))), v.Nodup := set_all g.nd (insL_nd (g.nd t tm) fun z => by have := tn _ z; (first | lia | omega))
  have ne1 : ∀ v ∈ ts.set p (insL t a (2 * (rs.length : Int))), v ≠ [] := set_all g.ne (fun z => by have := congrArg List.length z; rw [insL_len] at this; simp at this)
  have ln1 : ∀ v ∈ ts.set p (insL t a (2 * (rs.length : Int))), v.length ≤ 2 * rs.length + 1 := set_all (fun v hv => by have := g.lens v hv; (first | lia | omega)) (by rw [insL_len]; have := g.lens t tm; (first | lia | omega))
  have um := List.mem_of_getElem? hq
  have L : ((ts.set p (insL t a (2 * (rs.length : Int)))).set q (insL u b (2 * (rs.length : Int) + 1))).length = ts.length := by rw [List.length_set, List.length_set]
  refine ⟨by rw [L]; exact g.two, by rw [L, len_snoc]; have := g.few; (first | lia | omega), ?_, ?_, by rw [L]; exact hang_app g.hang, ?_, ?_, ?_, ?_, ?_⟩
  · intro r hr
    rw [L]
    rcases List.mem_append.mp hr with z | z
    · exact g.ends r z
    · rw [List.mem_singleton.mp z]; exact ⟨lp, lq, he⟩
  · intro r hr
    rcases List.mem_append.mp hr with z | z
    · exact g.pos r z
    · rw [List.mem_singleton.mp z]; exact h0
  · intro k r hk x
    rw [inT_ins hq, inT_ins hp]
    rcases snoc_at hk with z | ⟨z1, z2⟩
    · have lk : k < rs.length := (List.getElem?_eq_some_iff.mp z).1
      rw [g.odd k r z x]
      constructor
      · rintro ((h | ⟨_, h⟩) | ⟨_, h⟩)
        · exact h
        · (first | lia | omega)
        · (first | lia | omega)
      · intro h; exact .inl (.inl h)
    · subst z1 z2
      constructor
      · rintro ((h | ⟨_, h⟩) | ⟨h, _⟩)
        · have := g.less _ _ h; (first | lia | omega)
        · (first | lia | omega)
        · exact h
      · intro h; exact .inr ⟨h, rfl⟩
  · intro r x h
    rw [len_snoc]
    rcases (inT_ins hq).mp h with z | z
    · have := l1 _ _ z; (first | lia | omega)
    · (first | lia | omega)
  · exact set_all nd1 (insL_nd (nd1 u um) fun z => by have := un _ z; (first | lia | omega))
  · exact set_all ne1 (fun z => by have := congrArg List.length z; rw [insL_len] at this; simp at this)
  · rw [len_snoc]
    exact set_all (fun v hv => by have := ln1 v hv; (first | lia | omega)) (by rw [insL_len]; have := ln1 u um; (first | lia | omega))
theorem Gi.hung {ts : List (List Int)} {rs : List Rope} (g : Gi ts rs) {p a : Nat} {t : List Int} {e : Rat} (hp : ts[p]? = some t) (he : Sb 30 17 e) (h0 : 0 < e) :
    Gi ((ts ++ [[2 * (rs.length : Int) + 1]]).set p (insL t a (2 * (rs.length : Int)))) (rs ++ [(p, ts.length, e)]) := by
  have lp : p < ts.length := (List.getElem?_eq_some_iff.mp hp).1
  have hp' : (ts ++ [[2 * (rs.length : Int) + 1]])[p]? = some t := by rw [List.getElem?_append_left lp]; exact hp
  have tn : ∀ x, x ∈ t → x < 2 * (rs.length : Int) := fun x hx => g.less p x ⟨t, hp, hx⟩
  have tm := List.mem_of_getElem? hp
  have L : ((ts ++ [[2 * (rs.length : Int) + 1]]).set p (insL t a (2 * (rs.length : Int)))).length = ts.length + 1 := by rw [List.length_set, List.length_append]; rfl
  have two := g.two
  refine ⟨by (first | lia | omega), by rw [L, len_snoc]; have := g.few; (first | lia | omega), ?_, ?_, ?_, ?_, ?_, ?_, ?_, ?_⟩
  · intro r hr
    rw [L]
    rcases List.mem_append.mp hr with z | z
    · obtain ⟨h1, h2, h3⟩ := g.ends r z
      exact ⟨by (first | lia | omega), by (first | lia | omega), h3⟩
    · rw [List.mem_singleton.mp z]; exact ⟨show p < ts.length + 1 by (first | lia | omega), show ts.length < ts.length + 1 by (first | lia | omega), he⟩
  · intro r hr
    rcases List.mem_append.mp hr with z | z
    · exact g.pos r z
    · rw [List.mem_singleton.mp z]; exact h0
  · rw [L]
    intro S s0 hs x hx
    have old : ∀ y, y < ts.length → S y := g.hang S s0 (fun r hr => hs r (List.mem_append.mpr (.inl hr)))
    rcases Nat.lt_or_ge x ts.length with z | z
    · exact old x z
    · obtain rfl : x = ts.length := by (first | lia | omega)
      exact (hs (p, ts.length, e) (List.mem_append.mpr (.inr (List.mem_singleton.mpr rfl)))).mp (old p lp)
  · intro k r hk x
    rw [inT_ins hp', inT_app]
    rcases snoc_at hk with z | ⟨z1, z2⟩
    · have lk : k < rs.length := (List.getElem?_eq_some_iff.mp z).1
      rw [g.odd k r z x]
      constructor
      · rintro ((h | ⟨_, h⟩) | ⟨_, h⟩)
        · exact h
        · rw [List.mem_singleton] at h; (first | lia | omega)
        · (first | lia | omega)
      · intro h; exact .inl (.inl h)
    · subst z1 z2
      constructor
      · rintro ((h | ⟨h, _⟩) | ⟨_, h⟩)
        · have := g.less _ _ h; (first | lia | omega)
        · exact h
        · (first | lia | omega)
      · intro h; exact .inl (.inr ⟨h, List.mem_singleton.mpr rfl⟩)
  · intro r x h
    rw [len_snoc]
    rcases (inT_ins hp').mp h with z | z
    · rcases inT_app.mp z with z | z
      · have := g.less _ _ z; (first | lia | omega)
      · have := List.mem_singleton.mp z.2; (first | lia | omega)
    · (first | lia | omega)
  · exact set_all (app_all g.nd (by simp)) (insL_nd (g.nd t tm) fun z => by have := tn _ z; (first | lia | omega))
  · exact set_all (app_all g.ne (by simp)) (fun z => by have := congrArg List.length z; rw [insL_len] at this; simp at this)
  · rw [len_snoc]
    exact set_all (app_all (fun v hv => by have := g.lens v hv; (first | lia | omega)) (by simp; (first | lia | omega))) (by rw [insL_len]; have := g.lens t tm; (first | lia | omega))
theorem Gi.part {ts : List (List Int)} {rs : List Rope} (g : Gi ts rs) {k a : Nat} {r : Rope} {t : List Int} {e : Rat} (hk : rs[k]? = some r) (hp : ts[r.2.1]? = some t) (ha : t[a]? = some (2 * (k : Int) + 1)) (he : Sb 30 17 e) (h0 : 0 < e) :
    Gi (ts.set r.2.1 (t.set a (2 * (rs.length : Int) + 1)) ++ [[2 * (k : Int) + 1, 2 * (rs.length : Int)]]) (rs.set k (r.1, ts.length, r.2.2) ++ [(ts.length, r.2.1, e)]) := by
  have lk : k < rs.length := (List.getElem?_eq_some_iff.mp hk).1
  have lp : r.2.1 < ts.length := (List.getElem?_eq_some_iff.mp hp).1
  have rm := List.mem_of_getElem? hk
  have tm := List.mem_of_getElem? hp
  have tn : ∀ x, x ∈ t → x < 2 * (rs.length : Int) := fun x hx => g.less _ x ⟨t, hp, hx⟩
  have L : (ts.set r.2.1 (t.set a (2 * (rs.length : Int) + 1)) ++ [[2 * (k : Int) + 1, 2 * (rs.length : Int)]]).length = ts.length + 1 := by rw [List.length_append, List.length_set]; rfl
  have Lr : (rs.set k (r.1, ts.length, r.2.2) ++ [(ts.length, r.2.1, e)]).length = rs.length + 1 := by rw [len_snoc, List.length_set]
  have two := g.two
  have ne : ts.length ≠ r.2.1 := by (first | lia | omega)
  refine ⟨by (first | lia | omega), by rw [L, Lr]; have := g.few; (first | lia | omega), ?_, ?_, ?_, ?_, ?_, ?_, ?_, ?_⟩
  · intro x hx
    rw [L]
    rcases List.mem_append.mp hx with z | z
    · rcases List.mem_or_eq_of_mem_set z with w | w
      · obtain ⟨h1, h2, h3⟩ := g.ends x w
        exact ⟨by (first | lia | omega), by (first | lia | omega), h3⟩
      · obtain ⟨h1, h2, h3⟩ := g.ends r rm
        rw [w]; exact ⟨show r.1 < ts.length + 1 by (first | lia | omega), show ts.length < ts.length + 1 by (first | lia | omega), h3⟩
    · rw [List.mem_singleton.mp z]; exact ⟨show ts.length < ts.length + 1 by (first | lia | omega), show r.2.1 < ts.length + 1 by (first | lia | omega), he⟩
  · intro x hx
    rcases List.mem_append.mp hx with z | z
    · rcases List.mem_or_eq_of_mem_set z with w | w
      · exact g.pos x w
      · rw [w]; exact g.pos r rm
    · rw [List.mem_singleton.mp z]; exact h0
  · rw [L]
    intro S s0 hs x hx
    have n1 : S r.1 ↔ S ts.length := hs (r.1, ts.length, r.2.2) (List.mem_append.mpr (.inl (List.mem_of_getElem? (List.getElem?_set_self lk))))
    have n2 : S ts.length ↔ S r.2.1 := hs (ts.length, r.2.1, e) (List.mem_append.mpr (.inr (List.mem_singleton.mpr rfl)))
    have old : ∀ y, y < ts.length → S y := g.hang S s0 (fun q hq => by
      obtain ⟨j, hj, ej⟩ := List.getElem_of_mem hq
      by_cases z : k = j
      · subst z
        have : q = r := by rw [List.getElem?_eq_getElem hj, ej] at hk; exact Option.some.inj hk
        rw [this]; exact n1.trans n2
      · exact hs q (List.mem_append.mpr (.inl (List.mem_of_getElem? (i := j) (by rw [List.getElem?_set_ne z, List.getElem?_eq_getElem hj, ej])))))
    rcases Nat.lt_or_ge x ts.length with z | z
    · exact old x z
    · obtain rfl : x = ts.length := by (first | lia | omega)
      exact n2.mpr (old _ lp)
  · intro j q hj x
    rw [inT_app, inT_set hp (g.nd t tm) ha, List.length_set]
    rcases snoc_at hj with z | ⟨z1, z2⟩
    · have lj : j < rs.length := by have := (List.getElem?_eq_some_iff.mp z).1; rwa [List.length_set] at this
      by_cases w : k = j
      · subst w
        rw [List.getElem?_set_self lk] at z
        cases z
        constructor
        · rintro ((⟨h1, h2⟩ | ⟨_, h⟩) | ⟨h, _⟩)
          · exact absurd ⟨(g.odd k r hk x).mp h1, rfl⟩ h2
          · (first | lia | omega)
          · exact h
        · intro h; exact .inr ⟨h, List.mem_cons.mpr (.inl rfl)⟩
      · rw [List.getElem?_set_ne w] at z
        rw [g.odd j q z x]
        constructor
        · rintro ((⟨h1, _⟩ | ⟨_, h⟩) | ⟨_, h⟩)
          · exact h1
          · (first | lia | omega)
          · simp only [List.mem_cons, List.not_mem_nil, or_false] at h; (first | lia | omega)
        · intro h; exact .inl (.inl ⟨h, fun y => by (first | lia | omega)⟩)
    · rw [List.length_set] at z1
      subst z1 z2
      constructor
      · rintro ((⟨h1, _⟩ | ⟨h, _⟩) | ⟨_, h⟩)
        · have := g.less _ _ h1; (first | lia | omega)
        · exact h
        · simp only [List.mem_cons, List.not_mem_nil, or_false] at h; (first | lia | omega)
      · intro h; exact .inl (.inr ⟨h, rfl⟩)
  · intro p x h
    rw [Lr]
    rcases inT_app.mp h with z | z
    · rcases (inT_set hp (g.nd t tm) ha).mp z with w | w
      · have := g.less _ _ w.1; (first | lia | omega)
      · (first | lia | omega)
    · have := z.2
      simp only [List.mem_cons, List.not_mem_nil, or_false] at this; (first | lia | omega)
  · refine app_all (set_all g.nd (set_nd (g.nd t tm) fun z => by have := tn _ z; (first | lia | omega))) ?_
    simp; (first | lia | omega)
  · refine app_all (set_all g.ne (fun z => ?_)) (by simp)
    have := congrArg List.length z
    rw [List.length_set] at this
    exact g.ne t tm (List.length_eq_zero_iff.mp this)
  · rw [Lr]
    refine app_all (set_all (fun v hv => by have := g.lens v hv; (first | lia | omega)) (by rw [List.length_set]; have := g.lens t tm; (first | lia | omega))) (by simp; (first | lia | omega))
theorem Gi.first {e : Rat} (he : Sb 30 17 e) (h0 : 0 < e) : Gi [[0, -2], [1, -1]] [(0, 1, e)] := by
  have cases2 : ∀ p (x : Int), inT [[0, -2], [1, -1]] p x ↔ (p = 0 ∧ (x = 0 ∨ x = -2)) ∨ (p = 1 ∧ (x = 1 ∨ x = -1)) := by
    intro p x
    unfold inT
    match p with
    | 0 => simp
    | 1 => simp
    | p+2 => simp
  refine ⟨by simp, by simp, ?_, ?_, ?_, ?_, ?_, by simp, by simp, by simp⟩
  · intro r hr
    rw [List.mem_singleton.mp hr]
    exact ⟨by simp, by simp, he⟩
  · intro r hr
    rw [List.mem_singleton.mp hr]; exact h0
  · intro S s0 hs p hp
    have := (hs (0, 1, e) (by simp)).mp s0
    match p, hp with
    | 0, _ => exact s0
    | 1, _ => exact this
    | p+2, hp => simp at hp; (first | lia | omega)
  · intro k r hk p
    have : k = 0 := by have := (List.getElem?_eq_some_iff.mp hk).1; simpa using this
    subst this
    simp only [List.getElem?_cons_zero] at hk
    cases hk
    rw [cases2]
    simp
  · intro p x h
    rw [cases2] at h
    simp
    (first | lia | omega)
end Wd
namespace Mth
theorem take_snoc {α : Type} {R : List α} {j : Nat} {r : α} (h : R[j]? = some r) : R.take (j + 1) = R.take j ++ [r] := by
  rw [List.take_add_one, h]
  rfl
end Mth
namespace Wd
open Mth
noncomputable def joinM (ms : List Nat) (r : Rope) : List Nat := ms.map fun x => if x = ms.getD r.2.1 0 then ms.getD r.1 0 else x
noncomputable def marksF : List Nat → List Rope → Option (List Nat)
  | ms, [] => some ms
  | ms, r :: cs => if ms.getD r.1 0 = ms.getD r.2.1 0 then none else marksF (joinM ms r) cs
noncomputable def marksT (ms : List Nat) (cs : List Rope) : List Nat := cs.foldl joinM ms
noncomputable def cntM (n : Nat) (p : Nat → Bool) : Nat := (List.range n).countP p
theorem cnt_succ (n : Nat) (p : Nat → Bool) : cntM (n+1) p = cntM n p + if p n then 1 else 0 := by
  unfold cntM
  rw [List.range_succ, List.countP_append, List.countP_singleton]
theorem cnt_congr {n : Nat} {p q : Nat → Bool} (h : ∀ x, x < n → p x = q x) : cntM n p = cntM n q := by
  induction n with
  | zero => rfl
  | succ n ih => rw [cnt_succ, cnt_succ, ih (fun x hx => h x (by (first | lia | omega))), h n (by (first | lia | omega))]
theorem cnt_rem {n b : Nat} {p : Nat → Bool} (hb : b < n) (h : p b = true) : cntM n (fun x => p x && x != b) + 1 = cntM n p := by
  induction n with
  | zero => (first | lia | omega)
  | succ n ih =>
    rw [cnt_succ, cnt_succ]
    by_cases e : b = n
    · subst e
      rw [cnt_congr (q := p) (fun x hx => by have : (x != b) = true := by simp; (first | lia | omega)
                                             rw [this, Bool.and_true])]
      simp [h]
    · have := ih (by (first | lia | omega))
      have ne : (n != b) = true := by simp; (first | lia | omega)
      rw [ne, Bool.and_true]
      (first | lia | omega)
theorem cnt_zero {n : Nat} {p : Nat → Bool} : cntM n p = 0 ↔ ∀ x, x < n → p x = false := by
  unfold cntM
  rw [List.countP_eq_zero]
  simp
theorem cnt_all {n : Nat} {p : Nat → Bool} : cntM n p = n ↔ ∀ x, x < n → p x = true := by
  unfold cntM
  have := List.countP_eq_length (p := p) (l := List.range n)
  rw [List.length_range] at this
  rw [this]
  simp
noncomputable def kinds (n : Nat) (ms : List Nat) : Nat := cntM n fun x => decide (x ∈ ms)
theorem kinds_first (n : Nat) : kinds n (List.range n) = n := cnt_all.mpr fun x hx => by simp [hx]
structure MarkK (n : Nat) (ms : List Nat) : Prop where
  len : ms.length = n
  lt : ∀ x ∈ ms, x < n
theorem getD_mem {ms : List Nat} {i : Nat} (h : i < ms.length) : ms.getD i 0 ∈ ms := by
  rw [List.getD_eq_getElem?_getD, List.getElem?_eq_getElem h]; exact List.getElem_mem h
theorem join_at {ms : List Nat} {r : Rope} {u : Nat} (h : u < ms.length) : (joinM ms r).getD u 0 = if ms.getD u 0 = ms.getD r.2.1 0 then ms.getD r.1 0 else ms.getD u 0 := by
  unfold joinM
  simp only [List.getD_eq_getElem?_getD, List.getElem?_map, List.getElem?_eq_getElem h, Option.map_some, Option.getD_some]
theorem MarkK.join {n : Nat} {ms : List Nat} {r : Rope} (k : MarkK n ms) (h1 : r.1 < n) : MarkK n (joinM ms r) := by
  refine ⟨by unfold joinM; rw [List.length_map]; exact k.len, fun x hx => ?_⟩
  obtain ⟨y, hy, e⟩ := List.mem_map.mp hx
  subst e
  split
  · exact k.lt _ (getD_mem (by rw [k.len]; exact h1))
  · exact k.lt _ hy
theorem kinds_join {n : Nat} {ms : List Nat} {r : Rope} (k : MarkK n ms) (h1 : r.1 < n) (h2 : r.2.1 < n) (ne : ms.getD r.1 0 ≠ ms.getD r.2.1 0) : kinds n (joinM ms r) + 1 = kinds n ms := by
  have m1 := getD_mem (i := r.1) (by rw [k.len]; exact h1)
  have m2 := getD_mem (i := r.2.1) (by rw [k.len]; exact h2)
  have := cnt_rem (p := fun x => decide (x ∈ ms)) (k.lt _ m2) (by simpa using m2)
  unfold kinds
  rw [← this]
  congr 1
  refine cnt_congr fun x _ => ?_
  rw [Bool.eq_iff_iff, Bool.and_eq_true, decide_eq_true_iff, decide_eq_true_iff, bne_iff_ne]
  unfold joinM
  rw [List.mem_map]
  constructor
  · rintro ⟨y, hy, e⟩
    by_cases z : y = ms.getD r.2.1 0
    · rw [if_pos z] at e; subst e; exact ⟨m1, ne⟩
    · rw [if_neg z] at e; subst e; exact ⟨hy, z⟩
  · rintro ⟨hx, hn⟩
    exact ⟨x, hx, by rw [if_neg hn]⟩
theorem marks_some {n : Nat} : ∀ {cs : List Rope} {ms out : List Nat}, MarkK n ms → (∀ r ∈ cs, r.1 < n ∧ r.2.1 < n) → marksF ms cs = some out → out = marksT ms cs ∧ kinds n out + cs.length = kinds n ms
  | [], ms, out, _, _, e => by
    obtain rfl : ms = out := Option.some.inj e
    exact ⟨rfl, rfl⟩
  | r :: cs, ms, out, k, h, e => by
    have hr := h r (by simp)
    unfold marksF at e
    by_cases z : ms.getD r.1 0 = ms.getD r.2.1 0
    · rw [if_pos z] at e; cases e
    · rw [if_neg z] at e
      have ih := marks_some (k.join (r := r) hr.1) (fun r hr => h r (by simp [hr])) e
      have := kinds_join k hr.1 hr.2 z
      refine ⟨ih.1, ?_⟩
      have := ih.2
      rw [List.length_cons]; (first | lia | omega)
theorem markT_k {n : Nat} : ∀ {cs : List Rope} {ms : List Nat}, MarkK n ms → (∀ r ∈ cs, r.1 < n ∧ r.2.1 < n) → MarkK n (marksT ms cs)
  | [], _, k, _ => k
  | r :: cs, _, k, h => markT_k (cs := cs) (k.join (r := r) (h r (by simp)).1) (fun r hr => h r (by simp [hr]))
theorem markT_keep {n : Nat} : ∀ {cs : List Rope} {ms : List Nat} {u v : Nat}, MarkK n ms → (∀ r ∈ cs, r.1 < n ∧ r.2.1 < n) → u < n → v < n → ms.getD u 0 = ms.getD v 0 → (marksT ms cs).getD u 0 = (marksT ms cs).getD v 0
  | [], _, _, _, _, _, _, _, e => e
  | r :: cs, ms, u, v, k, h, hu, hv, e => by
    refine markT_keep (cs := cs) (k.join (r := r) (h r (by simp)).1) (fun r hr => h r (by simp [hr])) hu hv ?_
    rw [join_at (by rw [k.len]; exact hu), join_at (by rw [k.len]; exact hv), e]
theorem mark0 (n : Nat) : MarkK n (List.range n) := ⟨List.length_range, fun x hx => List.mem_range.mp hx⟩
theorem range_getD {n u : Nat} (h : u < n) : (List.range n).getD u 0 = u := by
  rw [List.getD_eq_getElem?_getD, List.getElem?_range h]; rfl
noncomputable def leastR (r : List Nat) : Nat := match r.getLast? with | none => 0 | some x => x + 1
noncomputable def riseR (m : Nat) : Nat → List (List Nat)
  | 0 => [[]]
  | s+1 => (riseR m s).flatMap fun r => (List.range' (leastR r) (m - leastR r)).map fun x => r ++ [x]
theorem rise_few : ∀ m, m < 10 → ∀ s, s < 10 → (riseR m s).length ≤ 126 := by decide +kernel
theorem rise_len {m : Nat} : ∀ {s : Nat} {r : List Nat}, r ∈ riseR m s → r.length = s ∧ ∀ x ∈ r, x < m
  | 0, r, h => by
    rw [show riseR m 0 = [[]] from rfl, List.mem_singleton] at h
    subst h; simp
  | s+1, r, h => by
    rw [show riseR m (s+1) = (riseR m s).flatMap fun r => (List.range' (leastR r) (m - leastR r)).map fun x => r ++ [x] from rfl, List.mem_flatMap] at h
    obtain ⟨q, hq, h⟩ := h
    obtain ⟨x, hx, rfl⟩ := List.mem_map.mp h
    obtain ⟨l, b⟩ := rise_len hq
    rw [List.mem_range'_1] at hx
    refine ⟨by rw [List.length_append, l]; rfl, fun y hy => ?_⟩
    rcases List.mem_append.mp hy with z | z
    · exact b y z
    · rw [List.mem_singleton] at z; (first | lia | omega)
end Wd
namespace Wd
open Mth
noncomputable def upV (V : Nat → Vec) (i : Nat) (u : Vec) : Nat → Vec := fun k => if k = i then u else V k
noncomputable def dF (n : Nat) (V : Nat → Vec) : Rat := ld n n (wn V n)
theorem dF_wgs (n : Nat) (V : Nat → Vec) : dF n V = ld n n (wgs ((List.range n).map V) one) := by
  unfold dF
  rw [wgs_wn ((List.range n).map V) V, List.length_map, List.length_range]
  intro i v h
  rw [List.getElem?_map] at h
  obtain ⟨k, hk, rfl⟩ := Option.map_eq_some_iff.mp h
  obtain ⟨_, e⟩ := List.getElem?_eq_some_iff.mp hk
  rw [List.getElem_range] at e
  rw [e]
theorem dF_congr {n : Nat} {V W : Nat → Vec} (h : ∀ i, i < n → V i = W i) : dF n V = dF n W := by
  rw [dF_wgs, dF_wgs]
  congr 2
  exact List.map_congr_left fun i hi => h i (List.mem_range.mp hi)
theorem up_same (V : Nat → Vec) (i : Nat) (u : Vec) : upV V i u i = u := if_pos rfl
theorem up_ne {V : Nat → Vec} {i k : Nat} {u : Vec} (h : k ≠ i) : upV V i u k = V k := if_neg h
theorem up_self (V : Nat → Vec) (i : Nat) : upV V i (V i) = V := by
  funext k
  unfold upV
  split
  · rename_i e; rw [e]
  · rfl
theorem up_comm (V : Nat → Vec) {i j : Nat} (h : i ≠ j) (u v : Vec) : upV (upV V i u) j v = upV (upV V j v) i u := by
  funext k
  unfold upV
  split
  · split
    · (first | lia | omega)
    · rfl
  · rfl
theorem range_up {n i : Nat} (h : i < n) (V : Nat → Vec) (u : Vec) : (List.range n).map (upV V i u) = (List.range i).map V ++ u :: (List.range' (i+1) (n - (i+1))).map V := by
  have e : List.range n = List.range i ++ i :: List.range' (i+1) (n - (i+1)) := by
    rw [List.range_eq_range', List.range_eq_range']
    have e1 : n = i + (1 + (n - (i+1))) := by (first | lia | omega)
    conv => lhs; rw [e1]
    rw [← List.range'_append_1, Nat.zero_add, Nat.add_comm 1, List.range'_succ]
  rw [e, List.map_append, List.map_cons, up_same]
  congr 1
  · exact List.map_congr_left fun k hk => up_ne (by have := List.mem_range.mp hk; (first | lia | omega))
  · congr 1
    exact List.map_congr_left fun k hk => up_ne (by have := List.mem_range'_1.mp hk; (first | lia | omega))
theorem dF_add {n i : Nat} (h : i < n) (V : Nat → Vec) (u v : Vec) : dF n (upV V i fun j => u j + v j) = dF n (upV V i u) + dF n (upV V i v) := by
  rw [dF_wgs, dF_wgs, dF_wgs, range_up h, range_up h, range_up h]
  unfold ld
  rw [wgs_addrow]; grind
theorem dF_smul {n i : Nat} (h : i < n) (V : Nat → Vec) (c : Rat) (u : Vec) : dF n (upV V i fun j => c * u j) = c * dF n (upV V i u) := by
  rw [dF_wgs, dF_wgs, range_up h, range_up h]
  unfold ld
  rw [wgs_smulrow]; grind
theorem dF_two_lt {n i j : Nat} (hij : i < j) (h : j < n) (V : Nat → Vec) (u : Vec) : dF n (upV (upV V i u) j u) = 0 := by
  rw [dF_wgs, range_up h]
  have e : (List.range j).map (upV V i u) = (List.range i).map V ++ u :: (List.range' (i+1) (j - (i+1))).map V := range_up hij V u
  rw [e]
  unfold ld
  have := wgs_twice ((List.range i).map V) ((List.range' (i+1) (j - (i+1))).map V) ((List.range' (j+1) (n - (j+1))).map (upV V i u)) u one (Tk n n)
  rw [this]; grind
theorem dF_two {n i j : Nat} (hij : i ≠ j) (hi : i < n) (hj : j < n) (V : Nat → Vec) (u : Vec) : dF n (upV (upV V i u) j u) = 0 := by
  rcases Nat.lt_or_gt_of_ne hij with z | z
  · exact dF_two_lt z hj V u
  · rw [up_comm V hij]; exact dF_two_lt z hi V u
theorem dF_mix {n i j : Nat} (hij : i ≠ j) (hi : i < n) (hj : j < n) (V : Nat → Vec) (c : Rat) (u : Vec) : dF n (upV V i fun k => u k + c * V j k) = dF n (upV V i u) := by
  rw [dF_add hi, dF_smul hi]
  have : dF n (upV V i (V j)) = 0 := by
    have := dF_two hij hi hj V (V j)
    rw [up_comm V hij, up_self] at this
    exact this
  rw [this]; grind
theorem dF_swap {n i j : Nat} (hij : i ≠ j) (hi : i < n) (hj : j < n) (V : Nat → Vec) (u v : Vec) : dF n (upV (upV V i u) j v) = - dF n (upV (upV V i v) j u) := by
  have h := dF_two hij hi hj V (fun k => u k + v k)
  have a2 : ∀ w, dF n (upV (upV V i fun k => u k + v k) j w) = dF n (upV (upV V i u) j w) + dF n (upV (upV V i v) j w) := fun w => by
    rw [up_comm V hij, dF_add hi, ← up_comm V hij, ← up_comm V hij]
  rw [dF_add hj, a2 u, a2 v, dF_two hij hi hj, dF_two hij hi hj] at h
  grind
theorem dF_zero {n i : Nat} (h : i < n) (V : Nat → Vec) : dF n (upV V i fun _ => 0) = 0 := by
  have := dF_smul h V 0 (fun _ => 0)
  have e : (fun j : Nat => (0 : Rat) * (fun _ => 0 : Vec) j) = (fun _ => 0 : Vec) := by funext j; grind
  rw [e] at this
  grind
noncomputable def chi (i : Nat) : Vec := fun j => if j = i then 1 else 0
noncomputable def lapV (rs : List Rope) (i : Nat) : Vec := fun j => (rs.map fun r => lapR r i j).sum
theorem lapR_eq (r : Rope) (i j : Nat) : lapR r i j = r.2.2 * (chi r.1 i - chi r.2.1 i) * (chi r.1 j - chi r.2.1 j) := by
  unfold lapR chi
  by_cases e : r.1 = r.2.1
  · rw [if_pos e, e]; grind
  · rw [if_neg e]
    by_cases h1 : i = r.1 <;> by_cases h2 : i = r.2.1 <;> by_cases h3 : j = r.1 <;> by_cases h4 : j = r.2.1 <;> simp_all <;> grind
noncomputable def clsV (n : Nat) (ms : List Nat) (rs : List Rope) (a : Nat) : Vec := fun j => sumQ (fun i => if ms.getD i 0 = a then lapV rs i j else 0) n
noncomputable def rooted (n : Nat) (root : Nat → Bool) (ms : List Nat) (a : Nat) : Bool := (List.range n).any fun i => root i && ms.getD i 0 == a
noncomputable def xV (n : Nat) (root : Nat → Bool) (ms : List Nat) (rs : List Rope) (i : Nat) : Vec :=
  if ms.getD i 0 = i then (if rooted n root ms i then chi i else clsV n ms rs i) else fun j => chi i j - chi (ms.getD i 0) j
theorem cls_cons {n : Nat} {ms : List Nat} {rs : List Rope} {r : Rope} {a : Nat} (h1 : r.1 < n) (h2 : r.2.1 < n) (j : Nat) :
    clsV n ms (r :: rs) a j = clsV n ms rs a j + r.2.2 * ((if ms.getD r.1 0 = a then 1 else 0) - (if ms.getD r.2.1 0 = a then 1 else 0)) * (chi r.1 j - chi r.2.1 j) := by
  unfold clsV
  have e : (fun i => if ms.getD i 0 = a then lapV (r :: rs) i j else 0) = fun i => (if ms.getD i 0 = a then lapV rs i j else 0) + (if ms.getD i 0 = a then lapR r i j else 0) := by
    funext i
    unfold lapV
    rw [List.map_cons, List.sum_cons]
    split <;> grind
  rw [e, sumQ_add]
  congr 1
  have e2 : (fun i => if ms.getD i 0 = a then lapR r i j else 0) = fun i => (r.2.2 * (chi r.1 j - chi r.2.1 j)) * ((if ms.getD i 0 = a then chi r.1 i else 0) - (if ms.getD i 0 = a then chi r.2.1 i else 0)) := by
    funext i
    rw [lapR_eq]
    split <;> grind
  rw [e2, sumQ_smul]
  have s1 : ∀ u, u < n → sumQ (fun i => if ms.getD i 0 = a then chi u i else 0) n = if ms.getD u 0 = a then 1 else 0 := fun u hu => by
    rw [sumQ_one (i := u) hu]
    · unfold chi; simp
    · intro l _ hl; unfold chi; rw [if_neg hl]; split <;> rfl
  have sub : ∀ f g : Nat → Rat, sumQ (fun i => f i - g i) n = sumQ f n - sumQ g n := fun f g => by
    have h := sumQ_add (fun i => f i - g i) g n
    have e : (fun j => f j - g j + g j) = f := by funext j; grind
    rw [e] at h
    grind
  rw [sub, s1 _ h1, s1 _ h2]
  grind
end Wd
namespace Wd
open Mth
noncomputable def Lab (n : Nat) (ms : List Nat) : Prop := ∀ i, i < n → ms.getD (ms.getD i 0) 0 = ms.getD i 0
theorem lab0 (n : Nat) : Lab n (List.range n) := fun i hi => by rw [range_getD hi, range_getD hi]
theorem mark_lt {n : Nat} {ms : List Nat} (k : MarkK n ms) {i : Nat} (h : i < n) : ms.getD i 0 < n := k.lt _ (getD_mem (by rw [k.len]; exact h))
theorem Lab.join {n : Nat} {ms : List Nat} {r : Rope} (k : MarkK n ms) (l : Lab n ms) (h1 : r.1 < n) (h2 : r.2.1 < n) : Lab n (joinM ms r) := fun i hi => by
  have li := mark_lt k hi
  have l1 := mark_lt k h1
  have ei := join_at (r := r) (u := i) (by rw [k.len]; exact hi)
  by_cases e : ms.getD i 0 = ms.getD r.2.1 0
  · rw [if_pos e] at ei
    rw [ei, join_at (by rw [k.len]; exact l1), l _ h1]
    split <;> rfl
  · rw [if_neg e] at ei
    rw [ei, join_at (by rw [k.len]; exact li), l _ hi, if_neg e]
theorem dF_mixall {n b : Nat} (hb : b < n) (U : Nat → Vec) (p : Nat → Prop) [DecidablePred p] : dF n (fun k => if p k ∧ k ≠ b then (fun j => U k j + U b j) else U k) = dF n U := by
  have go : ∀ t, t ≤ n → dF n (fun k => if p k ∧ k ≠ b ∧ k < t then (fun j => U k j + U b j) else U k) = dF n U := by
    intro t
    induction t with
    | zero =>
      intro _
      refine dF_congr fun i _ => ?_
      rw [if_neg (by (first | lia | omega))]
    | succ t ih =>
      intro ht
      rw [← ih (by (first | lia | omega))]
      by_cases hp : p t ∧ t ≠ b
      · have e1 : dF n (fun k => if p k ∧ k ≠ b ∧ k < t + 1 then (fun j => U k j + U b j) else U k) = dF n (upV (fun k => if p k ∧ k ≠ b ∧ k < t then (fun j => U k j + U b j) else U k) t fun j => U t j + 1 * (fun k => if p k ∧ k ≠ b ∧ k < t then (fun j => U k j + U b j) else U k) b j) := by
          refine dF_congr fun i _ => ?_
          by_cases e : i = t
          · subst e
            rw [up_same, if_pos ⟨hp.1, hp.2, Nat.lt_succ_self _⟩]
            funext j
            simp only [ne_eq, not_true_eq_false, false_and, and_false, if_false]
            grind
          · rw [up_ne e]
            by_cases z : p i ∧ i ≠ b ∧ i < t
            · rw [if_pos z, if_pos ⟨z.1, z.2.1, by (first | lia | omega)⟩]
            · rw [if_neg z, if_neg (fun w => z ⟨w.1, w.2.1, by (first | lia | omega)⟩)]
        rw [e1, dF_mix hp.2 (by (first | lia | omega)) hb]
        refine dF_congr fun i _ => ?_
        by_cases e : i = t
        · subst e; rw [up_same, if_neg (by (first | lia | omega))]
        · rw [up_ne e]
      · refine dF_congr fun i _ => ?_
        by_cases e : i = t
        · subst e
          rw [if_neg (fun w => hp ⟨w.1, w.2.1⟩), if_neg (by (first | lia | omega))]
        · by_cases z : p i ∧ i ≠ b ∧ i < t
          · rw [if_pos z, if_pos ⟨z.1, z.2.1, by (first | lia | omega)⟩]
          · rw [if_neg z, if_neg (fun w => z ⟨w.1, w.2.1, by (first | lia | omega)⟩)]
  rw [← go n (Nat.le_refl _)]
  refine dF_congr fun i hi => ?_
  by_cases z : p i ∧ i ≠ b
  · rw [if_pos z, if_pos ⟨z.1, z.2, hi⟩]
  · rw [if_neg z, if_neg (fun w => z ⟨w.1, w.2.1⟩)]
theorem xV_non {n : Nat} {root : Nat → Bool} {ms : List Nat} {rs : List Rope} {i : Nat} (h : ms.getD i 0 ≠ i) : xV n root ms rs i = fun j => chi i j - chi (ms.getD i 0) j := by unfold xV; rw [if_neg h]
theorem xV_root {n : Nat} {root : Nat → Bool} {ms : List Nat} {rs : List Rope} {i : Nat} (h : ms.getD i 0 = i) (hr : rooted n root ms i = true) : xV n root ms rs i = chi i := by unfold xV; rw [if_pos h, if_pos hr]
theorem xV_cls {n : Nat} {root : Nat → Bool} {ms : List Nat} {rs : List Rope} {i : Nat} (h : ms.getD i 0 = i) (hr : rooted n root ms i = false) : xV n root ms rs i = clsV n ms rs i := by unfold xV; rw [if_pos h, hr]; rfl
theorem mix_c {n : Nat} {root : Nat → Bool} {ms : List Nat} {rs : List Rope} {r : Rope} (l : Lab n ms) (h1 : r.1 < n) (h2 : r.2.1 < n) {i : Nat} (hi : i < n) (i1 : ms.getD i 0 = i) (n1 : r.1 = i → ms.getD r.1 0 = i) (n2 : r.2.1 = i → ms.getD r.2.1 0 = i) :
    dF n (upV (xV n root ms rs) i fun j => chi r.1 j - chi r.2.1 j) = dF n (upV (xV n root ms rs) i fun j => chi (ms.getD r.1 0) j - chi (ms.getD r.2.1 0) j) := by
  have s1 : dF n (upV (xV n root ms rs) i fun j => chi r.1 j - chi r.2.1 j) = dF n (upV (xV n root ms rs) i fun j => chi (ms.getD r.1 0) j - chi r.2.1 j) := by
    by_cases e : ms.getD r.1 0 = r.1
    · rw [e]
    · have ne : i ≠ r.1 := fun z => e (by rw [n1 z.symm]; exact z)
      rw [← dF_mix ne hi h1 (xV n root ms rs) 1 (fun j => chi (ms.getD r.1 0) j - chi r.2.1 j), xV_non e]
      congr 2
      funext j; grind
  rw [s1]
  by_cases e : ms.getD r.2.1 0 = r.2.1
  · rw [e]
  · have ne : i ≠ r.2.1 := fun z => e (by rw [n2 z.symm]; exact z)
    rw [← dF_mix ne hi h2 (xV n root ms rs) (-1) (fun j => chi (ms.getD r.1 0) j - chi (ms.getD r.2.1 0) j), xV_non e]
    congr 2
    funext j; grind
end Wd
namespace Wd
open Mth
section
variable {n : Nat} {root : Nat → Bool} {ms : List Nat} {rs : List Rope} {r : Rope}
theorem join_mark (k : MarkK n ms) {i : Nat} (hi : i < n) : (joinM ms r).getD i 0 = if ms.getD i 0 = ms.getD r.2.1 0 then ms.getD r.1 0 else ms.getD i 0 := join_at (by rw [k.len]; exact hi)
theorem rooted_iff {a : Nat} : rooted n root ms a = true ↔ ∃ i, i < n ∧ root i = true ∧ ms.getD i 0 = a := by
  unfold rooted
  rw [List.any_eq_true]
  constructor
  · rintro ⟨i, hi, h⟩
    rw [Bool.and_eq_true, beq_iff_eq] at h
    exact ⟨i, List.mem_range.mp hi, h.1, h.2⟩
  · rintro ⟨i, hi, h1, h2⟩
    exact ⟨i, List.mem_range.mpr hi, by rw [Bool.and_eq_true, beq_iff_eq]; exact ⟨h1, h2⟩⟩
theorem rooted_other (k : MarkK n ms) {c : Nat} (ca : c ≠ ms.getD r.1 0) (cb : c ≠ ms.getD r.2.1 0) : rooted n root (joinM ms r) c = rooted n root ms c := by
  rw [Bool.eq_iff_iff, rooted_iff, rooted_iff]
  constructor
  · rintro ⟨i, hi, h1, h2⟩
    rw [join_mark k hi] at h2
    refine ⟨i, hi, h1, ?_⟩
    split at h2
    · exact absurd h2.symm ca
    · exact h2
  · rintro ⟨i, hi, h1, h2⟩
    refine ⟨i, hi, h1, ?_⟩
    rw [join_mark k hi, if_neg (fun z => cb (h2.symm.trans z))]
    exact h2
theorem rooted_join (k : MarkK n ms) : rooted n root (joinM ms r) (ms.getD r.1 0) = (rooted n root ms (ms.getD r.1 0) || rooted n root ms (ms.getD r.2.1 0)) := by
  rw [Bool.eq_iff_iff, Bool.or_eq_true, rooted_iff, rooted_iff, rooted_iff]
  constructor
  · rintro ⟨i, hi, h1, h2⟩
    rw [join_mark k hi] at h2
    by_cases e : ms.getD i 0 = ms.getD r.2.1 0
    · exact .inr ⟨i, hi, h1, e⟩
    · rw [if_neg e] at h2; exact .inl ⟨i, hi, h1, h2⟩
  · rintro (⟨i, hi, h1, h2⟩ | ⟨i, hi, h1, h2⟩)
    · refine ⟨i, hi, h1, ?_⟩
      rw [join_mark k hi]
      split
      · rfl
      · exact h2
    · exact ⟨i, hi, h1, by rw [join_mark k hi, if_pos h2]⟩
theorem cls_other (k : MarkK n ms) {c : Nat} (ca : c ≠ ms.getD r.1 0) (cb : c ≠ ms.getD r.2.1 0) : clsV n (joinM ms r) rs c = clsV n ms rs c := by
  funext j
  unfold clsV
  refine sumQ_congr fun i hi => ?_
  rw [join_mark k hi]
  by_cases e : ms.getD i 0 = ms.getD r.2.1 0
  · rw [if_pos e, if_neg (fun z => ca z.symm), if_neg (fun z => cb (z.symm.trans e))]
  · rw [if_neg e]
theorem cls_join (k : MarkK n ms) (ne : ms.getD r.1 0 ≠ ms.getD r.2.1 0) : clsV n (joinM ms r) rs (ms.getD r.1 0) = fun j => clsV n ms rs (ms.getD r.1 0) j + clsV n ms rs (ms.getD r.2.1 0) j := by
  funext j
  unfold clsV
  rw [← sumQ_add]
  refine sumQ_congr fun i hi => ?_
  rw [join_mark k hi]
  by_cases e : ms.getD i 0 = ms.getD r.2.1 0
  · rw [if_pos e, if_pos rfl, if_neg (fun z => ne (z.symm.trans e)), if_pos e]; grind
  · rw [if_neg e, if_neg e]
    split <;> grind
theorem dF_join (k : MarkK n ms) (l : Lab n ms) (h1 : r.1 < n) (h2 : r.2.1 < n) (ne : ms.getD r.1 0 ≠ ms.getD r.2.1 0) :
    dF n (xV n root (joinM ms r) rs) = dF n (upV (upV (xV n root ms rs) (ms.getD r.1 0) (xV n root (joinM ms r) rs (ms.getD r.1 0))) (ms.getD r.2.1 0) fun j => chi (ms.getD r.2.1 0) j - chi (ms.getD r.1 0) j) := by
  have la := mark_lt k h1
  have lb := mark_lt k h2
  have ea := l _ h1
  have eb := l _ h2
  refine Eq.trans (dF_congr fun c hc => ?_) (dF_mixall lb _ (fun c => ms.getD c 0 = ms.getD r.2.1 0))
  by_cases cb : c = ms.getD r.2.1 0
  · rw [if_neg (fun z => z.2 cb), cb, up_same]
    have jb : (joinM ms r).getD (ms.getD r.2.1 0) 0 = ms.getD r.1 0 := by rw [join_mark k lb, if_pos eb]
    rw [xV_non (by rw [jb]; exact ne), jb]
  · by_cases e : ms.getD c 0 = ms.getD r.2.1 0
    · have ca : c ≠ ms.getD r.1 0 := fun z => ne (by rw [z, ea] at e; exact e)
      have jc : (joinM ms r).getD c 0 = ms.getD r.1 0 := by rw [join_mark k hc, if_pos e]
      rw [if_pos ⟨e, cb⟩, up_ne cb, up_ne ca, up_same, xV_non (by rw [jc]; exact fun z => ca z.symm), jc, xV_non (by rw [e]; exact fun z => cb z.symm), e]
      funext j; grind
    · rw [if_neg (fun z => e z.1), up_ne cb]
      by_cases ca : c = ms.getD r.1 0
      · rw [ca, up_same]
      · rw [up_ne ca]
        have jc : (joinM ms r).getD c 0 = ms.getD c 0 := by rw [join_mark k hc, if_neg e]
        unfold xV
        rw [jc, rooted_other k ca cb, cls_other k ca cb]
theorem dF_step (k : MarkK n ms) (l : Lab n ms) (h1 : r.1 < n) (h2 : r.2.1 < n) :
    dF n (xV n root ms (r :: rs)) = dF n (xV n root ms rs) + (if ms.getD r.1 0 ≠ ms.getD r.2.1 0 ∧ ¬ (rooted n root ms (ms.getD r.1 0) = true ∧ rooted n root ms (ms.getD r.2.1 0) = true) then r.2.2 * dF n (xV n root (joinM ms r) rs) else 0) := by
  have la := mark_lt k h1
  have lb := mark_lt k h2
  have ea := l _ h1
  have eb := l _ h2
  -- a row that stays
  have stay : ∀ c, (ms.getD c 0 = c → rooted n root ms c = false → ((if ms.getD r.1 0 = c then (1 : Rat) else 0) = if ms.getD r.2.1 0 = c then 1 else 0)) → xV n root ms (r :: rs) c = xV n root ms rs c := fun c h => by
    unfold xV
    by_cases e : ms.getD c 0 = c
    · rw [if_pos e, if_pos e]
      cases hr : rooted n root ms c with
      | true => rfl
      | false =>
        funext j
        show clsV n ms (r :: rs) c j = clsV n ms rs c j
        rw [cls_cons h1 h2, h e hr]; grind
    · rw [if_neg e, if_neg e]
  by_cases ne : ms.getD r.1 0 = ms.getD r.2.1 0
  · rw [if_neg (fun z => z.1 ne), dF_congr fun c _ => stay c fun _ _ => by rw [ne]]; grind
  have mA := mix_c (root := root) (rs := rs) (r := r) l h1 h2 la ea (fun _ => rfl) (fun z => absurd (by rw [z]; exact ea) (fun w : ms.getD r.2.1 0 = ms.getD r.1 0 => ne w.symm))
  have mB := mix_c (root := root) (rs := rs) (r := r) l h1 h2 lb eb (fun z => absurd (by rw [z]; exact eb) ne) (fun _ => rfl)
  have dj := dF_join (root := root) (rs := rs) k l h1 h2 ne
  have neg : ∀ (V : Nat → Vec) (u : Nat), u < n → dF n (upV V u fun j => chi (ms.getD r.2.1 0) j - chi (ms.getD r.1 0) j) = - dF n (upV V u fun j => chi (ms.getD r.1 0) j - chi (ms.getD r.2.1 0) j) := fun V u hu => by
    have := dF_smul hu V (-1) (fun j => chi (ms.getD r.1 0) j - chi (ms.getD r.2.1 0) j)
    have e : (fun j : Nat => (-1 : Rat) * (chi (ms.getD r.1 0) j - chi (ms.getD r.2.1 0) j)) = fun j => chi (ms.getD r.2.1 0) j - chi (ms.getD r.1 0) j := by funext j; grind
    rw [e] at this
    rw [this]; grind
  cases ra : rooted n root ms (ms.getD r.1 0) with
  | true =>
    cases rb : rooted n root ms (ms.getD r.2.1 0) with
    | true =>
      rw [if_neg (fun z => z.2 ⟨rfl, rfl⟩), dF_congr fun c _ => stay c fun e hr => ?_]
      · grind
      · rw [if_neg (fun z => by rw [z, hr] at ra; cases ra), if_neg (fun z => by rw [z, hr] at rb; cases rb)]
    | false =>
      rw [if_pos ⟨ne, fun z => by cases z.2⟩]
      have wa : xV n root (joinM ms r) rs (ms.getD r.1 0) = xV n root ms rs (ms.getD r.1 0) := by
        rw [xV_root (by rw [join_mark k la, ea, if_neg ne]) (by rw [rooted_join k, ra]; rfl), xV_root ea ra]
      rw [wa, up_self, neg _ _ lb] at dj
      have e1 : dF n (xV n root ms (r :: rs)) = dF n (upV (xV n root ms rs) (ms.getD r.2.1 0) fun j => xV n root ms rs (ms.getD r.2.1 0) j + (-r.2.2) * (chi r.1 j - chi r.2.1 j)) := by
        refine dF_congr fun c hc => ?_
        by_cases cb : c = ms.getD r.2.1 0
        · rw [cb, up_same, xV_cls eb rb, xV_cls eb rb]
          funext j
          rw [cls_cons h1 h2, if_neg ne, if_pos rfl]; grind
        · rw [up_ne cb]
          exact stay c fun e hr => by rw [if_neg (fun z => by rw [z, hr] at ra; cases ra), if_neg (fun z => cb z.symm)]
      rw [e1, dF_add lb, up_self, dF_smul lb, mB, dj]; grind
  | false =>
    cases rb : rooted n root ms (ms.getD r.2.1 0) with
    | true =>
      rw [if_pos ⟨ne, fun z => by cases z.1⟩]
      have vb : xV n root ms rs (ms.getD r.2.1 0) = chi (ms.getD r.2.1 0) := xV_root eb rb
      have wa : xV n root (joinM ms r) rs (ms.getD r.1 0) = chi (ms.getD r.1 0) := xV_root (by rw [join_mark k la, ea, if_neg ne]) (by rw [rooted_join k, ra, rb]; rfl)
      have e2 : dF n (upV (upV (xV n root ms rs) (ms.getD r.1 0) (chi (ms.getD r.1 0))) (ms.getD r.2.1 0) fun j => chi (ms.getD r.2.1 0) j - chi (ms.getD r.1 0) j) = dF n (upV (xV n root ms rs) (ms.getD r.1 0) (chi (ms.getD r.1 0))) := by
        have := dF_mix (fun z : ms.getD r.2.1 0 = ms.getD r.1 0 => ne z.symm) lb la (upV (xV n root ms rs) (ms.getD r.1 0) (chi (ms.getD r.1 0))) (-1) (chi (ms.getD r.2.1 0))
        rw [up_same] at this
        have e : (fun j : Nat => chi (ms.getD r.2.1 0) j + (-1 : Rat) * chi (ms.getD r.1 0) j) = fun j => chi (ms.getD r.2.1 0) j - chi (ms.getD r.1 0) j := by funext j; grind
        rw [e] at this
        rw [this, ← vb, up_comm _ ne, up_self]
      have e3 : dF n (upV (xV n root ms rs) (ms.getD r.1 0) fun j => chi (ms.getD r.1 0) j - chi (ms.getD r.2.1 0) j) = dF n (upV (xV n root ms rs) (ms.getD r.1 0) (chi (ms.getD r.1 0))) := by
        rw [← dF_mix ne la lb (xV n root ms rs) (-1) (chi (ms.getD r.1 0)), vb]
        congr 2
        funext j; grind
      rw [wa, e2] at dj
      have e1 : dF n (xV n root ms (r :: rs)) = dF n (upV (xV n root ms rs) (ms.getD r.1 0) fun j => xV n root ms rs (ms.getD r.1 0) j + r.2.2 * (chi r.1 j - chi r.2.1 j)) := by
        refine dF_congr fun c hc => ?_
        by_cases ca : c = ms.getD r.1 0
        · rw [ca, up_same, xV_cls ea ra, xV_cls ea ra]
          funext j
          rw [cls_cons h1 h2, if_pos rfl, if_neg (fun z => ne z.symm)]; grind
        · rw [up_ne ca]
          exact stay c fun e hr => by rw [if_neg (fun z => ca z.symm), if_neg (fun z => by rw [z, hr] at rb; cases rb)]
      rw [e1, dF_add la, up_self, dF_smul la, mA, e3, dj]
    | false =>
      rw [if_pos ⟨ne, fun z => by cases z.1⟩]
      have wa : xV n root (joinM ms r) rs (ms.getD r.1 0) = fun j => xV n root ms rs (ms.getD r.1 0) j + xV n root ms rs (ms.getD r.2.1 0) j := by
        rw [xV_cls (by rw [join_mark k la, ea, if_neg ne]) (by rw [rooted_join k, ra, rb]; rfl), cls_join k ne, xV_cls ea ra, xV_cls eb rb]
      have e2 : dF n (upV (upV (xV n root ms rs) (ms.getD r.1 0) (xV n root ms rs (ms.getD r.2.1 0))) (ms.getD r.2.1 0) fun j => chi (ms.getD r.2.1 0) j - chi (ms.getD r.1 0) j) = dF n (upV (xV n root ms rs) (ms.getD r.1 0) fun j => chi (ms.getD r.1 0) j - chi (ms.getD r.2.1 0) j) := by
        rw [neg _ _ lb, dF_swap ne la lb, up_comm _ ne, up_self]; grind
      rw [wa, up_comm _ ne, dF_add la, ← up_comm _ ne, ← up_comm _ ne, e2, up_self, neg _ _ lb] at dj
      have e1 : dF n (xV n root ms (r :: rs)) = dF n (upV (upV (xV n root ms rs) (ms.getD r.1 0) fun j => xV n root ms rs (ms.getD r.1 0) j + r.2.2 * (chi r.1 j - chi r.2.1 j)) (ms.getD r.2.1 0) fun j => xV n root ms rs (ms.getD r.2.1 0) j + (-r.2.2) * (chi r.1 j - chi r.2.1 j)) := by
        refine dF_congr fun c hc => ?_
        by_cases cb : c = ms.getD r.2.1 0
        · rw [cb, up_same, xV_cls eb rb, xV_cls eb rb]
          funext j
          rw [cls_cons h1 h2, if_neg ne, if_pos rfl]; grind
        · rw [up_ne cb]
          by_cases ca : c = ms.getD r.1 0
          · rw [ca, up_same, xV_cls ea ra, xV_cls ea ra]
            funext j
            rw [cls_cons h1 h2, if_pos rfl, if_neg (fun z => ne z.symm)]; grind
          · rw [up_ne ca]
            exact stay c fun e hr => by rw [if_neg (fun z => ca z.symm), if_neg (fun z => cb z.symm)]
      have e4 : dF n (upV (upV (xV n root ms rs) (ms.getD r.1 0) fun j => xV n root ms rs (ms.getD r.1 0) j + r.2.2 * (chi r.1 j - chi r.2.1 j)) (ms.getD r.2.1 0) fun j => chi r.1 j - chi r.2.1 j) = dF n (upV (xV n root ms rs) (ms.getD r.2.1 0) fun j => chi r.1 j - chi r.2.1 j) := by
        rw [up_comm _ ne, dF_add la, dF_smul la, ← up_comm _ ne, ← up_comm _ ne, up_self, dF_two ne la lb]; grind
      have e5 : dF n (upV (upV (xV n root ms rs) (ms.getD r.1 0) fun j => xV n root ms rs (ms.getD r.1 0) j + r.2.2 * (chi r.1 j - chi r.2.1 j)) (ms.getD r.2.1 0) (xV n root ms rs (ms.getD r.2.1 0))) = dF n (xV n root ms rs) + r.2.2 * dF n (upV (xV n root ms rs) (ms.getD r.1 0) fun j => chi r.1 j - chi r.2.1 j) := by
        rw [up_comm _ ne, up_self, dF_add la, dF_smul la, up_self]
      rw [e1, dF_add lb, dF_smul lb, e4, e5, mA, mB, dj]; grind
end
end Wd
namespace Wd
open Mth
theorem prodQ_one {f : Nat → Rat} : ∀ n, (∀ i, i < n → f i = 1) → prodQ f n = 1
  | 0, _ => rfl
  | n+1, h => by
    show prodQ f n * f n = 1
    rw [prodQ_one n (fun i hi => h i (by (first | lia | omega))), h n (by (first | lia | omega))]; grind
theorem dF_chi (n : Nat) : dF n chi = 1 := by
  unfold dF
  rw [ld_tri (U := chi) (fun i j _ hj => by unfold chi; rw [if_neg (by (first | lia | omega))]) n (Nat.le_refl _)]
  exact prodQ_one n fun i _ => by unfold chi; rw [if_pos rfl]
theorem cls_nil (n : Nat) (ms : List Nat) (a : Nat) : clsV n ms [] a = fun _ => 0 := by
  funext j
  unfold clsV
  refine sumQ_zero fun i _ => ?_
  split
  · rfl
  · rfl
noncomputable def allR (n : Nat) (root : Nat → Bool) (ms : List Nat) : Bool := (List.range n).all fun i => rooted n root ms (ms.getD i 0)
theorem dF_nil {n : Nat} {root : Nat → Bool} {ms : List Nat} (k : MarkK n ms) (l : Lab n ms) : dF n (xV n root ms []) = if allR n root ms = true then 1 else 0 := by
  by_cases h : allR n root ms = true
  · rw [if_pos h]
    have hr : ∀ i, i < n → rooted n root ms (ms.getD i 0) = true := fun i hi => List.all_eq_true.mp h i (List.mem_range.mpr hi)
    have rep : ∀ i, i < n → ms.getD i 0 = i → xV n root ms [] i = chi i := fun i hi e => xV_root e (by have := hr i hi; rwa [e] at this)
    have go : ∀ t, t ≤ n → dF n (fun i => if i < t then chi i else xV n root ms [] i) = dF n (xV n root ms []) := by
      intro t
      induction t with
      | zero => intro _; exact dF_congr fun i _ => by rw [if_neg (by (first | lia | omega))]
      | succ t ih =>
        intro ht
        rw [← ih (by (first | lia | omega))]
        have lt := mark_lt k (show t < n by (first | lia | omega))
        by_cases e : ms.getD t 0 = t
        · refine dF_congr fun i hi => ?_
          by_cases z : i = t
          · subst z; rw [if_pos (by (first | lia | omega)), if_neg (by (first | lia | omega)), rep i hi e]
          · by_cases w : i < t
            · rw [if_pos (by (first | lia | omega)), if_pos w]
            · rw [if_neg (by (first | lia | omega)), if_neg w]
        · have rm := rep _ lt (l t (by (first | lia | omega)))
          have e1 : dF n (fun i => if i < t + 1 then chi i else xV n root ms [] i) = dF n (upV (fun i => if i < t then chi i else xV n root ms [] i) t fun j => xV n root ms [] t j + 1 * (fun i => if i < t then chi i else xV n root ms [] i) (ms.getD t 0) j) := by
            refine dF_congr fun i hi => ?_
            by_cases z : i = t
            · subst z
              rw [if_pos (by (first | lia | omega)), up_same]
              funext j
              have e2 : (if ms.getD i 0 < i then chi (ms.getD i 0) else xV n root ms [] (ms.getD i 0)) = chi (ms.getD i 0) := by
                split
                · rfl
                · exact rm
              dsimp only
              rw [e2, xV_non e]; grind
            · rw [up_ne z]
              by_cases w : i < t
              · rw [if_pos (by (first | lia | omega)), if_pos w]
              · rw [if_neg (by (first | lia | omega)), if_neg w]
          rw [e1, dF_mix (fun z => e z.symm) (by (first | lia | omega)) lt]
          refine dF_congr fun i _ => ?_
          by_cases z : i = t
          · subst z; rw [up_same, if_neg (by (first | lia | omega))]
          · rw [up_ne z]
    rw [← go n (Nat.le_refl _), ← dF_chi n]
    exact dF_congr fun i hi => by rw [if_pos hi]
  · rw [if_neg h]
    have : ∃ i, i < n ∧ rooted n root ms (ms.getD i 0) = false := by
      refine Classical.byContradiction fun hn => h (List.all_eq_true.mpr fun i hi => ?_)
      cases e : rooted n root ms (ms.getD i 0) with
      | true => rfl
      | false => exact absurd ⟨i, List.mem_range.mp hi, e⟩ hn
    obtain ⟨i, hi, e⟩ := this
    have z := dF_zero (mark_lt k hi) (xV n root ms [])
    rw [← cls_nil n ms (ms.getD i 0), ← xV_cls (rs := []) (l i hi) e, up_self] at z
    exact z
noncomputable def setS (n : Nat) (root : Nat → Bool) : List Nat → List Rope → Rat
  | ms, [] => if allR n root ms = true then 1 else 0
  | ms, r :: rs => setS n root ms rs + (if ms.getD r.1 0 ≠ ms.getD r.2.1 0 ∧ ¬ (rooted n root ms (ms.getD r.1 0) = true ∧ rooted n root ms (ms.getD r.2.1 0) = true) then r.2.2 * setS n root (joinM ms r) rs else 0)
theorem dF_sets {n : Nat} {root : Nat → Bool} : ∀ {rs : List Rope} {ms : List Nat}, MarkK n ms → Lab n ms → (∀ r ∈ rs, r.1 < n ∧ r.2.1 < n) → dF n (xV n root ms rs) = setS n root ms rs
  | [], ms, k, l, _ => dF_nil k l
  | r :: rs, ms, k, l, h => by
    obtain ⟨h1, h2⟩ := h r (by simp)
    have h' : ∀ r ∈ rs, r.1 < n ∧ r.2.1 < n := fun r hr => h r (by simp [hr])
    rw [dF_step k l h1 h2, dF_sets k l h', dF_sets (k.join (r := r) h1) (l.join k h1 h2) h']
    rfl
end Wd
namespace Wd
open Mth
noncomputable def subS (f : List Rope → Rat) : List Rope → Rat
  | [] => f []
  | r :: rs => subS f rs + subS (fun S => f (r :: S)) rs
noncomputable def wth : List Rope → Rat
  | [] => 1
  | r :: S => r.2.2 * wth S
theorem subS_congr {f g : List Rope → Rat} (h : ∀ S, f S = g S) (rs : List Rope) : subS f rs = subS g rs := by
  have : f = g := funext h
  rw [this]
theorem subS_zero : ∀ rs : List Rope, subS (fun _ => 0) rs = 0
  | [] => rfl
  | r :: rs => by show subS (fun _ => 0) rs + subS (fun _ => 0) rs = 0; rw [subS_zero rs]; grind
theorem subS_smul (c : Rat) : ∀ (rs : List Rope) (f : List Rope → Rat), subS (fun S => c * f S) rs = c * subS f rs
  | [], _ => rfl
  | r :: rs, f => by
    show subS (fun S => c * f S) rs + subS (fun S => c * f (r :: S)) rs = c * (subS f rs + subS (fun S => f (r :: S)) rs)
    rw [subS_smul c rs, subS_smul c rs (fun S => f (r :: S))]; grind
section
variable {n : Nat} {root : Nat → Bool}
noncomputable def good (n : Nat) (root : Nat → Bool) : List Nat → List Rope → Bool
  | ms, [] => allR n root ms
  | ms, r :: S => (decide (ms.getD r.1 0 ≠ ms.getD r.2.1 0) && !(rooted n root ms (ms.getD r.1 0) && rooted n root ms (ms.getD r.2.1 0))) && good n root (joinM ms r) S
theorem setS_sub : ∀ (rs : List Rope) (ms : List Nat), setS n root ms rs = subS (fun S => if good n root ms S = true then wth S else 0) rs
  | [], ms => rfl
  | r :: rs, ms => by
    unfold setS subS
    rw [setS_sub rs ms, setS_sub rs (joinM ms r)]
    congr 1
    by_cases c : ms.getD r.1 0 ≠ ms.getD r.2.1 0 ∧ ¬ (rooted n root ms (ms.getD r.1 0) = true ∧ rooted n root ms (ms.getD r.2.1 0) = true)
    · rw [if_pos c, ← subS_smul]
      refine subS_congr (fun S => ?_) rs
      have e : good n root ms (r :: S) = good n root (joinM ms r) S := by
        show ((decide (ms.getD r.1 0 ≠ ms.getD r.2.1 0) && !(rooted n root ms (ms.getD r.1 0) && rooted n root ms (ms.getD r.2.1 0))) && good n root (joinM ms r) S) = _
        have c2 : (rooted n root ms (ms.getD r.1 0) && rooted n root ms (ms.getD r.2.1 0)) = false := by
          rw [Bool.eq_false_iff]; intro z; rw [Bool.and_eq_true] at z; exact c.2 z
        rw [decide_eq_true c.1, c2]; rfl
      rw [e]
      split
      · rfl
      · grind
    · rw [if_neg c]
      refine Eq.trans (subS_zero rs).symm (subS_congr (fun S => ?_) rs)
      have e : good n root ms (r :: S) = false := by
        show ((decide (ms.getD r.1 0 ≠ ms.getD r.2.1 0) && !(rooted n root ms (ms.getD r.1 0) && rooted n root ms (ms.getD r.2.1 0))) && good n root (joinM ms r) S) = _
        rw [Bool.eq_false_iff]
        intro z
        simp only [Bool.and_eq_true, decide_eq_true_iff, Bool.not_eq_true', Bool.and_eq_false_iff] at z
        refine c ⟨z.1.1, fun w => ?_⟩
        rcases z.1.2 with y | y
        · rw [w.1] at y; cases y
        · rw [w.2] at y; cases y
      rw [e]; rfl
noncomputable def Sep (n : Nat) (root : Nat → Bool) (ms : List Nat) : Prop := ∀ i j, i < n → j < n → root i = true → root j = true → ms.getD i 0 = ms.getD j 0 → i = j
theorem sep0 : Sep n root (List.range n) := fun i j hi hj _ _ e => by rwa [range_getD hi, range_getD hj] at e
theorem Sep.join {ms : List Nat} {r : Rope} (k : MarkK n ms) (s : Sep n root ms) (c : ¬ (rooted n root ms (ms.getD r.1 0) = true ∧ rooted n root ms (ms.getD r.2.1 0) = true)) : Sep n root (joinM ms r) := fun i j hi hj ri rj e => by
  rw [join_mark k hi, join_mark k hj] at e
  by_cases e1 : ms.getD i 0 = ms.getD r.2.1 0
  · by_cases e2 : ms.getD j 0 = ms.getD r.2.1 0
    · exact s i j hi hj ri rj (e1.trans e2.symm)
    · rw [if_pos e1, if_neg e2] at e
      exact absurd ⟨rooted_iff.mpr ⟨j, hj, rj, e.symm⟩, rooted_iff.mpr ⟨i, hi, ri, e1⟩⟩ c
  · by_cases e2 : ms.getD j 0 = ms.getD r.2.1 0
    · rw [if_neg e1, if_pos e2] at e
      exact absurd ⟨rooted_iff.mpr ⟨i, hi, ri, e⟩, rooted_iff.mpr ⟨j, hj, rj, e2⟩⟩ c
    · rw [if_neg e1, if_neg e2] at e
      exact s i j hi hj ri rj e
theorem good_iff : ∀ {S : List Rope} {ms : List Nat}, MarkK n ms → Sep n root ms → (∀ r ∈ S, r.1 < n ∧ r.2.1 < n) → (good n root ms S = true ↔ ∃ ms', marksF ms S = some ms' ∧ allR n root ms' = true ∧ Sep n root ms')
  | [], ms, k, s, _ => by
    constructor
    · intro h; exact ⟨ms, rfl, h, s⟩
    · rintro ⟨ms', e, h, _⟩
      obtain rfl : ms = ms' := Option.some.inj e
      exact h
  | r :: S, ms, k, s, hb => by
    obtain ⟨h1, h2⟩ := hb r (by simp)
    have hb' : ∀ r ∈ S, r.1 < n ∧ r.2.1 < n := fun r hr => hb r (by simp [hr])
    have k' := k.join (r := r) h1
    show ((decide (ms.getD r.1 0 ≠ ms.getD r.2.1 0) && !(rooted n root ms (ms.getD r.1 0) && rooted n root ms (ms.getD r.2.1 0))) && good n root (joinM ms r) S) = true ↔ _
    constructor
    · intro z
      simp only [Bool.and_eq_true, decide_eq_true_iff, Bool.not_eq_true', Bool.and_eq_false_iff] at z
      have c : ¬ (rooted n root ms (ms.getD r.1 0) = true ∧ rooted n root ms (ms.getD r.2.1 0) = true) := fun w => by
        rcases z.1.2 with y | y
        · rw [w.1] at y; cases y
        · rw [w.2] at y; cases y
      obtain ⟨ms', e, a, s'⟩ := (good_iff k' (s.join k c) hb').mp z.2
      exact ⟨ms', by unfold marksF; rw [if_neg z.1.1]; exact e, a, s'⟩
    · rintro ⟨ms', e, a, s'⟩
      unfold marksF at e
      by_cases ne : ms.getD r.1 0 = ms.getD r.2.1 0
      · rw [if_pos ne] at e; cases e
      rw [if_neg ne] at e
      have c : ¬ (rooted n root ms (ms.getD r.1 0) = true ∧ rooted n root ms (ms.getD r.2.1 0) = true) := by
        rintro ⟨w1, w2⟩
        obtain ⟨i, hi, ri, ei⟩ := rooted_iff.mp w1
        obtain ⟨j, hj, rj, ej⟩ := rooted_iff.mp w2
        have same : (joinM ms r).getD i 0 = (joinM ms r).getD j 0 := by rw [join_mark k hi, join_mark k hj, ei, ej, if_neg ne, if_pos rfl]
        have fin := markT_keep (cs := S) k' hb' hi hj same
        obtain ⟨rfl, _⟩ := marks_some k' hb' e
        have := s' i j hi hj ri rj fin
        rw [this, ej] at ei
        exact ne ei.symm
      have c2 : (rooted n root ms (ms.getD r.1 0) && rooted n root ms (ms.getD r.2.1 0)) = false := by
        rw [Bool.eq_false_iff]; intro z; rw [Bool.and_eq_true] at z; exact c z
      rw [decide_eq_true ne, c2, (good_iff k' (s.join k c) hb').mpr ⟨ms', e, a, s'⟩]
      rfl
end
end Wd
namespace Wd
open Mth
theorem kinds_one {n : Nat} {ms : List Nat} (k : MarkK n ms) {v : Nat} (hv : v < n) : kinds n ms = 1 ↔ ∀ u, u < n → ms.getD u 0 = ms.getD v 0 := by
  have m0 := getD_mem (ms := ms) (i := v) (by rw [k.len]; exact hv)
  have := cnt_rem (n := n) (p := fun x => decide (x ∈ ms)) (k.lt _ m0) (by simpa using m0)
  unfold kinds
  rw [← this]
  constructor
  · intro h u hu
    have z := cnt_zero.mp (Nat.succ.inj h) _ (k.lt _ (getD_mem (i := u) (by rw [k.len]; exact hu)))
    rw [Bool.and_eq_false_iff] at z
    rcases z with z | z
    · rw [decide_eq_false_iff_not] at z
      exact absurd (getD_mem (by rw [k.len]; exact hu)) z
    · simpa using z
  · intro h
    have : cntM n (fun x => decide (x ∈ ms) && x != ms.getD v 0) = 0 := cnt_zero.mpr fun x _ => by
      rw [Bool.and_eq_false_iff]
      by_cases hx : x ∈ ms
      · obtain ⟨i, hi, e⟩ := List.getElem_of_mem hx
        have := h i (by rw [← k.len]; exact hi)
        rw [List.getD_eq_getElem?_getD, List.getElem?_eq_getElem hi, Option.getD_some, e] at this
        exact .inr (by simpa using this)
      · exact .inl (by simpa using hx)
    (first | lia | omega)
theorem kinds_two {n : Nat} {ms : List Nat} (k : MarkK n ms) {v w : Nat} (hv : v < n) (hw : w < n) (ne : ms.getD v 0 ≠ ms.getD w 0) : kinds n ms = 2 ↔ ∀ u, u < n → ms.getD u 0 = ms.getD v 0 ∨ ms.getD u 0 = ms.getD w 0 := by
  have m0 := getD_mem (ms := ms) (i := v) (by rw [k.len]; exact hv)
  have m1 := getD_mem (ms := ms) (i := w) (by rw [k.len]; exact hw)
  have r1 := cnt_rem (n := n) (p := fun x => decide (x ∈ ms)) (k.lt _ m0) (by simpa using m0)
  have r2 := cnt_rem (n := n) (b := ms.getD w 0) (p := fun x => decide (x ∈ ms) && x != ms.getD v 0) (k.lt _ m1) (by
    rw [Bool.and_eq_true, decide_eq_true_iff, bne_iff_ne]; exact ⟨m1, fun z => ne z.symm⟩)
  unfold kinds
  rw [← r1, ← r2]
  constructor
  · intro h u hu
    have mu := getD_mem (ms := ms) (i := u) (by rw [k.len]; exact hu)
    have z := cnt_zero.mp (Nat.succ.inj (Nat.succ.inj h)) _ (k.lt _ mu)
    rw [Bool.and_eq_false_iff, Bool.and_eq_false_iff] at z
    rcases z with (z | z) | z
    · rw [decide_eq_false_iff_not] at z
      exact absurd mu z
    · exact .inl (by simpa using z)
    · exact .inr (by simpa using z)
  · intro h
    have : cntM n (fun x => (decide (x ∈ ms) && x != ms.getD v 0) && x != ms.getD w 0) = 0 := cnt_zero.mpr fun x _ => by
      rw [Bool.and_eq_false_iff, Bool.and_eq_false_iff]
      by_cases hx : x ∈ ms
      · obtain ⟨i, hi, e⟩ := List.getElem_of_mem hx
        have := h i (by rw [← k.len]; exact hi)
        rw [List.getD_eq_getElem?_getD, List.getElem?_eq_getElem hi, Option.getD_some, e] at this
        rcases this with z | z
        · exact .inl (.inr (by simpa using z))
        · exact .inr (by simpa using z)
      · exact .inl (.inl (by simpa using hx))
    (first | lia | omega)
theorem allR_iff {n : Nat} {root : Nat → Bool} {ms : List Nat} : allR n root ms = true ↔ ∀ i, i < n → rooted n root ms (ms.getD i 0) = true := by
  unfold allR
  rw [List.all_eq_true]
  exact ⟨fun h i hi => h i (List.mem_range.mpr hi), fun h i hi => h i (List.mem_range.mp hi)⟩
theorem good_tree {n ρ : Nat} (hρ : ρ < n) {S : List Rope} (hb : ∀ r ∈ S, r.1 < n ∧ r.2.1 < n) : good n (fun i => i == ρ) (List.range n) S = true ↔ S.length + 1 = n ∧ marksF (List.range n) S ≠ none := by
  rw [good_iff (mark0 n) sep0 hb]
  have f := kinds_first n
  constructor
  · rintro ⟨ms', e, a, _⟩
    obtain ⟨rfl, z⟩ := marks_some (mark0 n) hb e
    have kt := markT_k (mark0 n) hb
    have one : kinds n (marksT (List.range n) S) = 1 := (kinds_one kt hρ).mpr fun u hu => by
      obtain ⟨i, _, ri, ei⟩ := rooted_iff.mp (allR_iff.mp a u hu)
      rw [beq_iff_eq] at ri
      rw [← ei, ri]
    exact ⟨by (first | lia | omega), by rw [e]; simp⟩
  · rintro ⟨hl, hn⟩
    cases e : marksF (List.range n) S with
    | none => exact absurd e hn
    | some ms' =>
      obtain ⟨rfl, z⟩ := marks_some (mark0 n) hb e
      have kt := markT_k (mark0 n) hb
      have all := (kinds_one kt hρ).mp (by (first | lia | omega))
      refine ⟨_, rfl, allR_iff.mpr fun i hi => rooted_iff.mpr ⟨ρ, hρ, by simp, (all i hi).symm⟩, fun i j _ _ ri rj _ => ?_⟩
      rw [beq_iff_eq] at ri rj
      rw [ri, rj]
end Wd
namespace Wd
open Mth
noncomputable def pickR (rs : List Rope) (row : List Nat) : List Rope := row.map fun k => rs.getD k (0, 0, 0)
theorem pickR_snoc (rs : List Rope) (q : List Nat) (x : Nat) : pickR rs (q ++ [x]) = pickR rs q ++ [rs.getD x (0, 0, 0)] := by unfold pickR; rw [List.map_append]; rfl
noncomputable def sumL {α : Type} (g : α → Rat) (l : List α) : Rat := (l.map g).sum
theorem sumL_cons {α : Type} (g : α → Rat) (x : α) (l : List α) : sumL g (x :: l) = g x + sumL g l := by unfold sumL; rw [List.map_cons, List.sum_cons]
theorem sumL_nil {α : Type} (g : α → Rat) : sumL g [] = 0 := rfl
theorem sumL_app {α : Type} (g : α → Rat) (l m : List α) : sumL g (l ++ m) = sumL g l + sumL g m := by
  induction l with
  | nil => rw [List.nil_append, sumL_nil]; grind
  | cons x l ih => rw [List.cons_append, sumL_cons, sumL_cons, ih]; grind
theorem sumL_flat {α β : Type} (g : β → Rat) (f : α → List β) (l : List α) : sumL g (l.flatMap f) = sumL (fun x => sumL g (f x)) l := by
  induction l with
  | nil => rfl
  | cons x l ih => rw [List.flatMap_cons, sumL_app, sumL_cons, ih]
theorem sumL_map {α β : Type} (g : β → Rat) (f : α → β) (l : List α) : sumL g (l.map f) = sumL (fun x => g (f x)) l := by
  unfold sumL; rw [List.map_map]; rfl
noncomputable def sumE (m : Nat) (g : List Nat → Rat) : Nat → List Nat → Nat → Rat
  | 0, q, _ => g q
  | t+1, q, c => sumL (fun x => sumE m g t (q ++ [x]) (x + 1)) (List.range' c (m - c))
theorem least_snoc (q : List Nat) (x : Nat) : leastR (q ++ [x]) = x + 1 := by unfold leastR; rw [List.getLast?_concat]
theorem rise_sumE {m : Nat} (g : List Nat → Rat) : ∀ (t s : Nat), sumL (fun q => sumE m g t q (leastR q)) (riseR m s) = sumL g (riseR m (s + t))
  | 0, s => rfl
  | t+1, s => by
    have ih := rise_sumE (m := m) g t (s + 1)
    rw [show s + 1 + t = s + (t + 1) by (first | lia | omega)] at ih
    rw [← ih, show riseR m (s+1) = (riseR m s).flatMap fun r => (List.range' (leastR r) (m - leastR r)).map fun x => r ++ [x] from rfl, sumL_flat]
    congr 1
    funext q
    rw [sumL_map]
    show sumL _ _ = sumL _ _
    congr 1
    funext x
    rw [least_snoc]
theorem sub_none : ∀ (d : List Rope) (h : List Rope → Rat), subS (fun S => if S.length = 0 then h S else 0) d = h []
  | [], h => rfl
  | r :: d, h => by
    show subS (fun S => if S.length = 0 then h S else 0) d + subS (fun S => if (r :: S).length = 0 then h (r :: S) else 0) d = _
    rw [sub_none d h, subS_congr (g := fun _ => 0) (fun S => if_neg (by simp)) d, subS_zero]; grind
theorem sumE_sub {rs : List Rope} (f : List Rope → Rat) : ∀ (t : Nat) (e : Nat) (c : Nat) (q : List Nat), c + e = rs.length → sumE rs.length (fun row => f (pickR rs row)) t q c = subS (fun S => if S.length = t then f (pickR rs q ++ S) else 0) (rs.drop c)
  | 0, _, c, q, _ => by
    show f (pickR rs q) = _
    rw [sub_none (rs.drop c) (fun S => f (pickR rs q ++ S)), List.append_nil]
  | t+1, 0, c, q, h => by
    have hc : c = rs.length := by (first | lia | omega)
    subst hc
    show sumL _ (List.range' rs.length (rs.length - rs.length)) = _
    rw [Nat.sub_self, List.drop_length]
    show (0 : Rat) = if ([] : List Rope).length = t + 1 then f (pickR rs q ++ []) else 0
    rw [if_neg (by simp)]
  | t+1, e+1, c, q, h => by
    have hc : c < rs.length := by (first | lia | omega)
    have ih1 := sumE_sub (rs := rs) f t e (c + 1) (q ++ [c]) (by (first | lia | omega))
    have ih2 := sumE_sub (rs := rs) f (t+1) e (c + 1) q (by (first | lia | omega))
    have e1 : sumE rs.length (fun row => f (pickR rs row)) (t+1) q c = sumE rs.length (fun row => f (pickR rs row)) t (q ++ [c]) (c + 1) + sumE rs.length (fun row => f (pickR rs row)) (t+1) q (c + 1) := by
      show sumL _ (List.range' c (rs.length - c)) = _ + sumL _ (List.range' (c+1) (rs.length - (c+1)))
      rw [show rs.length - c = (rs.length - (c + 1)) + 1 by (first | lia | omega), List.range'_succ, sumL_cons]
    rw [e1, ih1, ih2, List.drop_eq_getElem_cons hc]
    show _ = subS _ (rs.drop (c+1)) + subS _ (rs.drop (c+1))
    rw [pickR_snoc, List.getD_eq_getElem?_getD, List.getElem?_eq_getElem hc, Option.getD_some]
    have e2 : subS (fun S => if S.length = t then f (pickR rs q ++ [rs[c]] ++ S) else 0) (rs.drop (c+1)) = subS (fun S => if (rs[c] :: S).length = t + 1 then f (pickR rs q ++ rs[c] :: S) else 0) (rs.drop (c+1)) := subS_congr (fun S => by
      rw [List.append_assoc]
      by_cases z : S.length = t
      · rw [if_pos z, if_pos (by rw [List.length_cons, z])]; rfl
      · rw [if_neg z, if_neg (by rw [List.length_cons]; (first | lia | omega))]) _
    rw [e2]; grind
theorem rise_sub {rs : List Rope} (f : List Rope → Rat) (s : Nat) : sumL (fun row => f (pickR rs row)) (riseR rs.length s) = subS (fun S => if S.length = s then f S else 0) rs := by
  have h := rise_sumE (m := rs.length) (fun row => f (pickR rs row)) s 0
  rw [Nat.zero_add] at h
  rw [← h, show riseR rs.length 0 = [[]] from rfl, sumL_cons, sumL_nil]
  have := sumE_sub (rs := rs) f s rs.length 0 [] (by (first | lia | omega))
  rw [show leastR [] = 0 from rfl, this, List.drop_zero]
  show subS (fun S => if S.length = s then f ([] ++ S) else 0) rs + 0 = _
  rw [Rat.add_zero]
  rfl
end Wd
namespace Wd
open Mth
theorem subS_congr_mem : ∀ {rs : List Rope} {f g : List Rope → Rat}, (∀ S, (∀ r ∈ S, r ∈ rs) → f S = g S) → subS f rs = subS g rs
  | [], f, g, h => h [] (by simp)
  | r :: rs, f, g, h => by
    show subS f rs + subS (fun S => f (r :: S)) rs = subS g rs + subS (fun S => g (r :: S)) rs
    rw [subS_congr_mem (fun S hS => h S fun x hx => List.mem_cons_of_mem _ (hS x hx)), subS_congr_mem (f := fun S => f (r :: S)) (g := fun S => g (r :: S)) (fun S hS => h (r :: S) fun x hx => by
      rcases List.mem_cons.mp hx with z | z
      · rw [z]; exact List.mem_cons_self
      · exact List.mem_cons_of_mem _ (hS x z))]
theorem sumL_filter {α : Type} (p : α → Bool) (g : α → Rat) : ∀ l : List α, sumL (fun x => if p x = true then g x else 0) l = sumL g (l.filter p)
  | [] => rfl
  | x :: l => by
    rw [sumL_cons, sumL_filter p g l]
    cases h : p x with
    | true => rw [if_pos rfl, List.filter_cons_of_pos h, sumL_cons]
    | false => rw [if_neg (by simp), List.filter_cons_of_neg (by rw [h]; simp)]; grind
end Wd
namespace Wd
open Mth
noncomputable def renR (σ : Nat → Nat) (r : Rope) : Rope := (σ r.1, σ r.2.1, r.2.2)
noncomputable def SimM (n : Nat) (σ : Nat → Nat) (ms ms' : List Nat) : Prop := ∀ i j, i < n → j < n → (ms.getD i 0 = ms.getD j 0 ↔ ms'.getD (σ i) 0 = ms'.getD (σ j) 0)
theorem SimM.join {n : Nat} {σ : Nat → Nat} (hσ : ∀ i, i < n → σ i < n) {ms ms' : List Nat} {r : Rope} (k : MarkK n ms) (k' : MarkK n ms') (s : SimM n σ ms ms') (h1 : r.1 < n) (h2 : r.2.1 < n) : SimM n σ (joinM ms r) (joinM ms' (renR σ r)) := fun i j hi hj => by
  rw [join_mark k hi, join_mark k hj, join_mark k' (hσ i hi), join_mark k' (hσ j hj)]
  show _ ↔ (if ms'.getD (σ i) 0 = ms'.getD (σ r.2.1) 0 then ms'.getD (σ r.1) 0 else ms'.getD (σ i) 0) = (if ms'.getD (σ j) 0 = ms'.getD (σ r.2.1) 0 then ms'.getD (σ r.1) 0 else ms'.getD (σ j) 0)
  by_cases a : ms.getD i 0 = ms.getD r.2.1 0
  · have a' := (s i r.2.1 hi h2).mp a
    by_cases b : ms.getD j 0 = ms.getD r.2.1 0
    · have b' := (s j r.2.1 hj h2).mp b
      rw [if_pos a, if_pos b, if_pos a', if_pos b']
      exact ⟨fun _ => rfl, fun _ => rfl⟩
    · have b' : ¬ _ := fun z => b ((s j r.2.1 hj h2).mpr z)
      rw [if_pos a, if_neg b, if_pos a', if_neg b']
      exact s r.1 j h1 hj
  · have a' : ¬ _ := fun z => a ((s i r.2.1 hi h2).mpr z)
    by_cases b : ms.getD j 0 = ms.getD r.2.1 0
    · have b' := (s j r.2.1 hj h2).mp b
      rw [if_neg a, if_pos b, if_neg a', if_pos b']
      exact s i r.1 hi h1
    · have b' : ¬ _ := fun z => b ((s j r.2.1 hj h2).mpr z)
      rw [if_neg a, if_neg b, if_neg a', if_neg b']
      exact s i j hi hj
theorem marks_sim {n : Nat} {σ : Nat → Nat} (hσ : ∀ i, i < n → σ i < n) : ∀ {S : List Rope} {ms ms' : List Nat}, MarkK n ms → MarkK n ms' → SimM n σ ms ms' → (∀ r ∈ S, r.1 < n ∧ r.2.1 < n) →
    (marksF ms S = none ∧ marksF ms' (S.map (renR σ)) = none) ∨ (∃ a b, marksF ms S = some a ∧ marksF ms' (S.map (renR σ)) = some b ∧ SimM n σ a b)
  | [], ms, ms', _, _, s, _ => .inr ⟨ms, ms', rfl, rfl, s⟩
  | r :: S, ms, ms', k, k', s, h => by
    obtain ⟨h1, h2⟩ := h r (by simp)
    have iff := s r.1 r.2.1 h1 h2
    rw [List.map_cons]
    unfold marksF
    by_cases e : ms.getD r.1 0 = ms.getD r.2.1 0
    · rw [if_pos e, if_pos (show ms'.getD (renR σ r).1 0 = ms'.getD (renR σ r).2.1 0 from iff.mp e)]
      exact .inl ⟨rfl, rfl⟩
    · rw [if_neg e, if_neg (show ¬ ms'.getD (renR σ r).1 0 = ms'.getD (renR σ r).2.1 0 from fun z => e (iff.mpr z))]
      exact marks_sim hσ (k.join h1) (k'.join (hσ _ h1)) (s.join hσ k k' h1 h2) fun r hr => h r (by simp [hr])
theorem sim0 {n : Nat} {σ : Nat → Nat} (hσ : ∀ i, i < n → σ i < n) (inj : ∀ i j, i < n → j < n → σ i = σ j → i = j) : SimM n σ (List.range n) (List.range n) := fun i j hi hj => by
  rw [range_getD hi, range_getD hj, range_getD (hσ i hi), range_getD (hσ j hj)]
  exact ⟨fun z => by rw [z], inj i j hi hj⟩
end Wd
namespace Wd
open Mth
theorem wg_false : ∀ (S : List Bool) (v : Vec) (w : Frm), (∀ T, w (T ++ [false]) = w T) → wg v w (S ++ [false]) = wg v w S
  | [], v, w, h => by simp [wg]
  | b :: S, v, w, h => by
    have h0 : ∀ T, at0 w (T ++ [false]) = at0 w T := fun T => h (false :: T)
    have h1 : ∀ T, at1 w (T ++ [false]) = at1 w T := fun T => h (true :: T)
    have i0 := wg_false S (sh v) (at0 w) h0
    have i1 := wg_false S (sh v) (at1 w) h1
    have hS := h (false :: S)
    cases b <;> simp_all [wg, at0, at1]
theorem one_false : ∀ T, one (T ++ [false]) = one T
  | [] => rfl
  | b :: T => by
    have := one_false T
    cases b <;> simp_all [one]
theorem wn_false (V : Nat → Vec) : ∀ (i : Nat) (S : List Bool), wn V i (S ++ [false]) = wn V i S
  | 0, S => one_false S
  | i+1, S => wg_false S (V i) (wn V i) (wn_false V i)
theorem dF_last {n : Nat} {V : Nat → Vec} (h : V n = chi n) : dF (n+1) V = dF n V := by
  unfold dF
  show ld (n+1) (n+1) (wg (V n) (wn V n)) = _
  rw [h, ld_wg (c := n) (m := n+1) (wn V n) (fun i hi => by unfold chi; rw [if_neg (by (first | lia | omega))]) (by (first | lia | omega))]
  have e : chi n n = 1 := by unfold chi; rw [if_pos rfl]
  rw [e]
  unfold ld Tk
  rw [show n + 1 - n = 0 + 1 by (first | lia | omega), Nat.sub_self]
  have := wn_false V n (List.replicate n true)
  simp only [List.replicate, List.append_nil]
  rw [this]; grind
end Wd
namespace Wd
open Mth
theorem wn_cols {n : Nat} {V W : Nat → Vec} (h : ∀ i j, i < n → j < n → V i j = W i j) : ∀ i, i ≤ n → ∀ S : List Bool, S.length = n → wn V i S = wn W i S
  | 0, _, _, _ => rfl
  | i+1, hi, S, hS => by
    show wg (V i) (wn V i) S = wg (W i) (wn W i) S
    rw [wg_cols S (V i) (W i) _ (fun j hj => h i j (by (first | lia | omega)) (by (first | lia | omega)))]
    exact wg_len S _ _ _ (fun T hT => wn_cols h i (by (first | lia | omega)) T (by (first | lia | omega)))
theorem dF_cols {n : Nat} {V W : Nat → Vec} (h : ∀ i j, i < n → j < n → V i j = W i j) : dF n V = dF n W := by
  unfold dF ld
  rw [wn_cols h n (Nat.le_refl _) _ (by unfold Tk; simp)]
structure Ren (N : Nat) (σ τ : Nat → Nat) : Prop where
  lt : ∀ i, i < N → σ i < N
  tlt : ∀ i, i < N → τ i < N
  ts : ∀ i, i < N → τ (σ i) = i
  st : ∀ i, i < N → σ (τ i) = i
theorem chi_ren {N : Nat} {σ τ : Nat → Nat} (k : Ren N σ τ) {u i : Nat} (hu : u < N) (hi : i < N) : chi (σ u) i = chi u (τ i) := by
  unfold chi
  by_cases e : i = σ u
  · rw [if_pos e, if_pos (by rw [e, k.ts u hu])]
  · rw [if_neg e, if_neg (fun z => e (by rw [← z, k.st i hi]))]
theorem lap_ren {N : Nat} {σ τ : Nat → Nat} (k : Ren N σ τ) {rs : List Rope} (hb : ∀ r ∈ rs, r.1 < N ∧ r.2.1 < N) {i j : Nat} (hi : i < N) (hj : j < N) : lapV (rs.map (renR σ)) i j = lapV rs (τ i) (τ j) := by
  unfold lapV
  rw [List.map_map]
  congr 1
  refine List.map_congr_left fun r hr => ?_
  obtain ⟨h1, h2⟩ := hb r hr
  show lapR (renR σ r) i j = _
  rw [lapR_eq, lapR_eq]
  show r.2.2 * (chi (σ r.1) i - chi (σ r.2.1) i) * (chi (σ r.1) j - chi (σ r.2.1) j) = _
  rw [chi_ren k h1 hi, chi_ren k h2 hi, chi_ren k h1 hj, chi_ren k h2 hj]
theorem dF_tail {n : Nat} {V : Nat → Vec} : ∀ d, (∀ i, n ≤ i → i < n + d → V i = chi i) → dF (n + d) V = dF n V
  | 0, _ => rfl
  | d+1, h => by
    rw [show n + (d + 1) = (n + d) + 1 by (first | lia | omega), dF_last (h (n + d) (by (first | lia | omega)) (by (first | lia | omega)))]
    exact dF_tail d fun i h1 h2 => h i h1 (by (first | lia | omega))
theorem rooted0 {N : Nat} {root : Nat → Bool} {i : Nat} (hi : i < N) : rooted N root (List.range N) i = root i := by
  rw [Bool.eq_iff_iff, rooted_iff]
  constructor
  · rintro ⟨k, hk, hr, e⟩
    rw [range_getD hk] at e
    rw [← e]; exact hr
  · intro h
    exact ⟨i, hi, h, range_getD hi⟩
theorem cls0 {N : Nat} {rs : List Rope} {i : Nat} (hi : i < N) : clsV N (List.range N) rs i = lapV rs i := by
  funext j
  unfold clsV
  rw [sumQ_one hi]
  · rw [range_getD hi, if_pos rfl]
  · intro l hl ne
    rw [range_getD hl, if_neg ne]
theorem xV_first {n d : Nat} {root : Nat → Bool} (h0 : ∀ i, i < n → root i = false) (h1 : ∀ i, n ≤ i → i < n + d → root i = true) (rs : List Rope) : dF (n + d) (xV (n + d) root (List.range (n + d)) rs) = dF n (lapV rs) := by
  rw [dF_tail d (V := xV (n + d) root (List.range (n + d)) rs) fun i a b => xV_root (range_getD b) (by rw [rooted0 b]; exact h1 i a b)]
  refine dF_congr fun i hi => ?_
  have hN : i < n + d := by (first | lia | omega)
  rw [xV_cls (range_getD hN) (by rw [rooted0 hN]; exact h0 i hi), cls0 hN]
theorem wth_ren (σ : Nat → Nat) : ∀ S : List Rope, wth (S.map (renR σ)) = wth S
  | [] => rfl
  | r :: S => by
    show (renR σ r).2.2 * wth (S.map (renR σ)) = r.2.2 * wth S
    rw [wth_ren σ S]; rfl
theorem subS_map (g : Rope → Rope) : ∀ (rs : List Rope) (f : List Rope → Rat), subS f (rs.map g) = subS (fun S => f (S.map g)) rs
  | [], _ => rfl
  | r :: rs, f => by
    rw [List.map_cons]
    show subS f (rs.map g) + subS (fun S => f (g r :: S)) (rs.map g) = _
    rw [subS_map g rs, subS_map g rs]
    rfl
noncomputable def setT (s : Nat) (t : List Rope → Bool) (rs : List Rope) : Rat := subS (fun S => if S.length = s ∧ t S = true then wth S else 0) rs
theorem setT_rise {s : Nat} {t : List Rope → Bool} {rs : List Rope} : setT s t rs = sumL (fun row => wth (pickR rs row)) ((riseR rs.length s).filter fun row => t (pickR rs row)) := by
  rw [← sumL_filter (fun row => t (pickR rs row)) (fun row => wth (pickR rs row)), rise_sub (fun S => if t S = true then wth S else 0) s]
  unfold setT
  refine subS_congr (fun S => ?_) rs
  by_cases h1 : S.length = s
  · by_cases h2 : t S = true
    · rw [if_pos ⟨h1, h2⟩, if_pos h1, if_pos h2]
    · rw [if_neg (fun z => h2 z.2), if_pos h1, if_neg h2]
  · rw [if_neg (fun z => h1 z.1), if_neg h1]
theorem dF_setT {n d s : Nat} {σ τ : Nat → Nat} (k : Ren (n + d) σ τ) {rs : List Rope} (hb : ∀ r ∈ rs, r.1 < n + d ∧ r.2.1 < n + d) {root : Nat → Bool} (h0 : ∀ i, i < n → root i = false) (h1 : ∀ i, n ≤ i → i < n + d → root i = true) (t : List Rope → Bool)
    (hg : ∀ S : List Rope, (∀ r ∈ S, r ∈ rs) → (good (n + d) root (List.range (n + d)) (S.map (renR σ)) = true ↔ S.length = s ∧ t S = true)) :
    dF n (fun i j => lapV rs (τ i) (τ j)) = setT s t rs := by
  have e1 : dF n (fun i j => lapV rs (τ i) (τ j)) = dF n (lapV (rs.map (renR σ))) := dF_cols fun i j hi hj => (lap_ren k hb (by (first | lia | omega)) (by (first | lia | omega))).symm
  rw [e1, ← xV_first h0 h1, dF_sets (mark0 _) (lab0 _) (fun r hr => by
    obtain ⟨q, hq, rfl⟩ := List.mem_map.mp hr
    exact ⟨k.lt _ (hb q hq).1, k.lt _ (hb q hq).2⟩), setS_sub, subS_map]
  unfold setT
  refine subS_congr_mem fun S hS => ?_
  have := hg S hS
  rw [wth_ren]
  by_cases h : good (n + d) root (List.range (n + d)) (S.map (renR σ)) = true
  · rw [if_pos h, if_pos (this.mp h)]
  · rw [if_neg h, if_neg (fun z => h (this.mpr z))]
end Wd
namespace Wd
open Mth
noncomputable def treeB (n : Nat) (cs : List Rope) : Bool := (marksF (List.range n) cs).isSome
noncomputable def halfB (n : Nat) (cs : List Rope) : Bool := match marksF (List.range n) cs with
  | some ms => decide (ms.getD 0 0 ≠ ms.getD 1 0)
  | none => false
theorem good_two {n a b : Nat} (ha : a < n) (hb' : b < n) (nab : a ≠ b) {S : List Rope} (hb : ∀ r ∈ S, r.1 < n ∧ r.2.1 < n) : good n (fun i => i == a || i == b) (List.range n) S = true ↔ S.length + 2 = n ∧ ∃ ms, marksF (List.range n) S = some ms ∧ ms.getD a 0 ≠ ms.getD b 0 := by
  rw [good_iff (mark0 n) sep0 hb]
  have f := kinds_first n
  have kt := markT_k (mark0 n) hb
  have ab : ∀ {i : Nat}, (i == a || i == b) = true → i = a ∨ i = b := fun h => by simpa using h
  constructor
  · rintro ⟨ms', e, al, s⟩
    obtain ⟨rfl, z⟩ := marks_some (mark0 n) hb e
    have ne : (marksT (List.range n) S).getD a 0 ≠ (marksT (List.range n) S).getD b 0 := fun w => nab (s a b ha hb' (by simp) (by simp) w)
    have two : kinds n (marksT (List.range n) S) = 2 := (kinds_two kt ha hb' ne).mpr fun u hu => by
      obtain ⟨i, _, ri, ei⟩ := rooted_iff.mp (allR_iff.mp al u hu)
      rcases ab ri with rfl | rfl
      · exact .inl ei.symm
      · exact .inr ei.symm
    exact ⟨by (first | lia | omega), _, e, ne⟩
  · rintro ⟨hl, ms, e, ne⟩
    obtain ⟨rfl, z⟩ := marks_some (mark0 n) hb e
    have all := (kinds_two kt ha hb' ne).mp (by (first | lia | omega))
    refine ⟨_, e, allR_iff.mpr fun i hi => rooted_iff.mpr ?_, fun i j _ _ ri rj w => ?_⟩
    · rcases all i hi with y | y
      · exact ⟨a, ha, by simp, y.symm⟩
      · exact ⟨b, hb', by simp, y.symm⟩
    · rcases ab ri with rfl | rfl <;> rcases ab rj with rfl | rfl
      · rfl
      · exact absurd w ne
      · exact absurd w.symm ne
      · rfl
theorem Ren.inj {N : Nat} {σ τ : Nat → Nat} (k : Ren N σ τ) : ∀ i j, i < N → j < N → σ i = σ j → i = j := fun i j hi hj e => by rw [← k.ts i hi, e, k.ts j hj]
theorem ren_ends {N : Nat} {σ τ : Nat → Nat} (k : Ren N σ τ) {S : List Rope} (h : ∀ r ∈ S, r.1 < N ∧ r.2.1 < N) : ∀ r ∈ S.map (renR σ), r.1 < N ∧ r.2.1 < N := fun r hr => by
  obtain ⟨q, hq, rfl⟩ := List.mem_map.mp hr
  exact ⟨k.lt _ (h q hq).1, k.lt _ (h q hq).2⟩
theorem lapT_en {n : Nat} {rs : List Rope} (h : ∀ r ∈ rs, r.1 < n ∧ r.2.1 < n) (i j : Nat) : en (lapT n rs) i j = lapV rs i j := by
  unfold lapT lapV
  rw [(lapT_ok rs (zero_sq n) h).2, en_zero]; grind
noncomputable def sH (n i : Nat) : Nat := if i = 0 then n else if i = 1 then n + 1 else i - 2
noncomputable def tH (n i : Nat) : Nat := if i < n then i + 2 else i - n
theorem renH (n : Nat) : Ren (n + 2) (sH n) (tH n) := by
  refine ⟨fun i hi => ?_, fun i hi => ?_, fun i hi => ?_, fun i hi => ?_⟩ <;> simp only [sH, tH] <;> grind
theorem half_dt {n : Nat} {rs : List Rope} (h : ∀ r ∈ rs, r.1 < n + 2 ∧ r.2.1 < n + 2) : dt n n (cutT (lapT (n+2) rs)) = setT n (halfB (n+2)) rs := by
  have sq := (lapT_ok rs (zero_sq (n+2)) h).1
  rw [dt_wn _ (cut_len (T := lapT (n+2) rs) sq).1]
  show dF n (rowF (cutT (lapT (n+2) rs))) = _
  have e : dF n (rowF (cutT (lapT (n+2) rs))) = dF n (fun i j => lapV rs (tH n i) (tH n j)) := dF_cols fun i j hi hj => by
    have t : ∀ k, k < n → tH n k = k + 2 := fun k hk => by unfold tH; rw [if_pos hk]
    show _ = lapV rs (tH n i) (tH n j)
    rw [t i hi, t j hj, ← lapT_en h, rowF_en]
    unfold en
    rw [List.getD_eq_getElem?_getD (l := cutT (lapT (n+2) rs)), cut_row (T := lapT (n+2) rs) sq hi, Option.getD_some, List.getD_eq_getElem?_getD, List.getElem?_drop, Nat.add_comm 2 j, ← List.getD_eq_getElem?_getD]
  rw [e]
  refine dF_setT (d := 2) (renH n) h (root := fun i => i == n || i == n + 1) (fun i hi => ?_) (fun i h1 h2 => ?_) (halfB (n+2)) fun S hS => ?_
  · simp; (first | lia | omega)
  · simp; (first | lia | omega)
  · have hS' : ∀ r ∈ S, r.1 < n + 2 ∧ r.2.1 < n + 2 := fun r hr => h r (hS r hr)
    rw [good_two (show n < n + 2 by (first | lia | omega)) (show n + 1 < n + 2 by (first | lia | omega)) (by (first | lia | omega)) (ren_ends (renH n) hS'), List.length_map]
    have s0 : sH n 0 = n := rfl
    have s1 : sH n 1 = n + 1 := rfl
    unfold halfB
    rcases marks_sim (renH n).lt (mark0 _) (mark0 _) (sim0 (renH n).lt (renH n).inj) hS' with ⟨a, b⟩ | ⟨x, y, a, b, s⟩
    · rw [a, b]
      constructor
      · rintro ⟨_, ms, z, _⟩; cases z
      · rintro ⟨_, z⟩; cases z
    · rw [a, b]
      have := s 0 1 (by (first | lia | omega)) (by (first | lia | omega))
      rw [s0, s1] at this
      constructor
      · rintro ⟨l, ms, z, ne⟩
        cases z
        exact ⟨by (first | lia | omega), decide_eq_true fun z => ne (this.mp z)⟩
      · rintro ⟨l, z⟩
        exact ⟨by (first | lia | omega), y, rfl, fun w => of_decide_eq_true z (this.mpr w)⟩
noncomputable def sT (n i : Nat) : Nat := if i = 0 then 0 else if i = 1 then n + 1 else i - 1
noncomputable def tT (n i : Nat) : Nat := if i = 0 then 0 else if i = n + 1 then 1 else i + 1
theorem renT (n : Nat) : Ren (n + 2) (sT n) (tT n) := by
  refine ⟨fun i hi => ?_, fun i hi => ?_, fun i hi => ?_, fun i hi => ?_⟩ <;> simp only [sT, tT] <;> grind
noncomputable def cut1 (T : List (List Rat)) : List (List Rat) := (T.take 1 ++ T.drop 2).map fun r => r.take 1 ++ r.drop 2
theorem out1 {α : Type} {l : List α} (h : 2 ≤ l.length) (i : Nat) : (l.take 1 ++ l.drop 2)[i]? = l[if i = 0 then 0 else i + 1]? := by
  match l, h with
  | a :: b :: l, _ =>
    cases i with
    | zero => rfl
    | succ i =>
      show (a :: l)[i+1]? = _
      rw [if_neg (by (first | lia | omega))]
      rfl
theorem cut1_len {n : Nat} {T : List (List Rat)} (q : Sq (n+2) T) : (cut1 T).length = n + 1 ∧ ∀ r ∈ cut1 T, r.length = n + 1 := by
  have l : ∀ {α : Type} (m : List α), m.length = n + 2 → (m.take 1 ++ m.drop 2).length = n + 1 := fun m hm => by rw [List.length_append, List.length_take, List.length_drop]; (first | lia | omega)
  refine ⟨by unfold cut1; rw [List.length_map]; exact l _ q.len, fun r hr => ?_⟩
  obtain ⟨x, hx, rfl⟩ := List.mem_map.mp hr
  refine l x (q.col x ?_)
  rcases List.mem_append.mp hx with z | z
  · exact List.mem_of_mem_take z
  · exact List.mem_of_mem_drop z
theorem cut1_en {n : Nat} {T : List (List Rat)} (q : Sq (n+2) T) {i j : Nat} (hi : i < n + 1) (hj : j < n + 1) : en (cut1 T) i j = en T (tT n i) (tT n j) := by
  have t : ∀ k, k < n + 1 → (if k = 0 then 0 else k + 1) = tT n k := fun k hk => by unfold tT; split; rfl; rw [if_neg (by (first | lia | omega))]
  have lt : ∀ k, k < n + 1 → tT n k < n + 2 := fun k hk => (renT n).tlt k (by (first | lia | omega))
  obtain ⟨rl, re⟩ := q.row (lt i hi)
  have e1 : (cut1 T)[i]? = some ((T.getD (tT n i) []).take 1 ++ (T.getD (tT n i) []).drop 2) := by
    unfold cut1
    rw [List.getElem?_map, out1 (by rw [q.len]; (first | lia | omega)), t i hi, re]; rfl
  unfold en
  rw [List.getD_eq_getElem?_getD (l := cut1 T), e1, Option.getD_some, List.getD_eq_getElem?_getD, out1 (by rw [rl]; (first | lia | omega)), t j hj, ← List.getD_eq_getElem?_getD]
theorem tree_dt {n : Nat} {rs : List Rope} (h : ∀ r ∈ rs, r.1 < n + 2 ∧ r.2.1 < n + 2) : dt (n+1) (n+1) (cut1 (lapT (n+2) rs)) = setT (n+1) (treeB (n+2)) rs := by
  have sq := (lapT_ok rs (zero_sq (n+2)) h).1
  rw [dt_wn _ (cut1_len (T := lapT (n+2) rs) sq).1]
  show dF (n+1) (rowF (cut1 (lapT (n+2) rs))) = _
  have e : dF (n+1) (rowF (cut1 (lapT (n+2) rs))) = dF (n+1) (fun i j => lapV rs (tT n i) (tT n j)) := dF_cols fun i j hi hj => by
    show _ = lapV rs (tT n i) (tT n j)
    rw [rowF_en, cut1_en (T := lapT (n+2) rs) sq hi hj, lapT_en h]
  rw [e]
  refine dF_setT (d := 1) (renT n) h (root := fun i => i == n + 1) (fun i hi => ?_) (fun i h1 h2 => ?_) (treeB (n+2)) fun S hS => ?_
  · simp; (first | lia | omega)
  · simp; (first | lia | omega)
  · have hS' : ∀ r ∈ S, r.1 < n + 2 ∧ r.2.1 < n + 2 := fun r hr => h r (hS r hr)
    show good (n + 2) _ (List.range (n + 2)) _ = true ↔ _
    rw [good_tree (show n + 1 < n + 2 by (first | lia | omega)) (ren_ends (renT n) hS'), List.length_map]
    unfold treeB
    rcases marks_sim (renT n).lt (mark0 _) (mark0 _) (sim0 (renT n).lt (renT n).inj) hS' with ⟨a, b⟩ | ⟨x, y, a, b, s⟩
    · rw [a, b]
      constructor
      · rintro ⟨_, z⟩; exact absurd rfl z
      · rintro ⟨_, z⟩; cases z
    · rw [a, b]
      constructor
      · rintro ⟨l, z⟩; exact ⟨by (first | lia | omega), rfl⟩
      · rintro ⟨l, z⟩; exact ⟨by (first | lia | omega), by simp⟩
end Wd
namespace Wd
open Mth
noncomputable def endsR (S : List Rope) : List (Nat × Nat) := S.map fun r => (r.1, r.2.1)
noncomputable def Blind (t : List Rope → Bool) : Prop := ∀ S S' : List Rope, endsR S = endsR S' → t S = t S'
theorem marks_ends : ∀ (S S' : List Rope) (ms : List Nat), endsR S = endsR S' → marksF ms S = marksF ms S'
  | [], [], _, _ => rfl
  | [], _ :: _, _, h => by cases h
  | _ :: _, [], _, h => by cases h
  | r :: S, r' :: S', ms, h => by
    unfold endsR at h
    rw [List.map_cons, List.map_cons, List.cons.injEq, Prod.mk.injEq] at h
    obtain ⟨⟨h1, h2⟩, h3⟩ := h
    have j : joinM ms r = joinM ms r' := by unfold joinM; rw [h1, h2]
    show (if _ then _ else _) = (if _ then _ else _)
    rw [h1, h2, j, marks_ends S S' _ h3]
theorem blind_tree (n : Nat) : Blind (treeB n) := fun S S' h => by unfold treeB; rw [marks_ends S S' _ h]
theorem blind_half (n : Nat) : Blind (halfB n) := fun S S' h => by unfold halfB; rw [marks_ends S S' _ h]
theorem subS_nn : ∀ {rs : List Rope} {f : List Rope → Rat}, (∀ S, (∀ r ∈ S, r ∈ rs) → 0 ≤ f S) → 0 ≤ subS f rs
  | [], f, h => h [] (by simp)
  | r :: rs, f, h => by
    have a := subS_nn (rs := rs) (f := f) fun S hS => h S fun x hx => List.mem_cons_of_mem _ (hS x hx)
    have b := subS_nn (rs := rs) (f := fun S => f (r :: S)) fun S hS => h (r :: S) fun x hx => by
      rcases List.mem_cons.mp hx with z | z
      · rw [z]; exact List.mem_cons_self
      · exact List.mem_cons_of_mem _ (hS x z)
    show 0 ≤ subS f rs + subS (fun S => f (r :: S)) rs
    grind
theorem wth_nn : ∀ {S : List Rope}, (∀ r ∈ S, 0 ≤ r.2.2) → 0 ≤ wth S
  | [], _ => by show (0 : Rat) ≤ 1; decide
  | r :: S, h => Rat.mul_nonneg (h r (by simp)) (wth_nn fun x hx => h x (by simp [hx]))
noncomputable abbrev tst (t : List Rope → Bool) (c : Rat) : List Rope → Rat := fun S => if t S = true then c * wth S else 0
theorem even_sub {B : List Rope} (hB : ∀ r ∈ B, 0 ≤ r.2.2) (u v : Nat) : ∀ (A : List Rope) (t : List Rope → Bool) (c : Rat), Blind t → 0 ≤ c → (∀ r ∈ A, 0 ≤ r.2.2) → ∃ a b : Rat, 0 ≤ b ∧ ∀ q, subS (tst t c) (A ++ (u, v, q) :: B) = a + q * b
  | [], t, c, bl, hc, _ => by
    refine ⟨subS (tst t c) B, subS (tst (fun S => t ((u, v, 0) :: S)) c) B, subS_nn fun S hS => ?_, fun q => ?_⟩
    · show 0 ≤ (if t ((u, v, 0) :: S) = true then c * wth S else 0)
      split
      · exact Rat.mul_nonneg hc (wth_nn fun r hr => hB r (hS r hr))
      · exact Rat.le_refl
    · rw [List.nil_append]
      show subS (tst t c) B + subS (fun S => tst t c ((u, v, q) :: S)) B = _
      rw [← subS_smul]
      congr 1
      refine subS_congr (fun S => ?_) B
      have e : t ((u, v, q) :: S) = t ((u, v, 0) :: S) := bl _ _ rfl
      show (if t ((u, v, q) :: S) = true then c * (q * wth S) else 0) = q * (if t ((u, v, 0) :: S) = true then c * wth S else 0)
      rw [e]
      split <;> grind
  | x :: A, t, c, bl, hc, hA => by
    have hx := hA x (by simp)
    have hA' : ∀ r ∈ A, 0 ≤ r.2.2 := fun r hr => hA r (by simp [hr])
    obtain ⟨a1, b1, n1, e1⟩ := even_sub hB u v A t c bl hc hA'
    obtain ⟨a2, b2, n2, e2⟩ := even_sub hB u v A (fun S => t (x :: S)) (c * x.2.2) (fun S S' h => bl _ _ (by unfold endsR at *; rw [List.map_cons, List.map_cons, h])) (Rat.mul_nonneg hc hx) hA'
    refine ⟨a1 + a2, b1 + b2, by grind, fun q => ?_⟩
    rw [List.cons_append]
    show subS (tst t c) (A ++ (u, v, q) :: B) + subS (fun S => tst t c (x :: S)) (A ++ (u, v, q) :: B) = _
    have e3 : (fun S => tst t c (x :: S)) = tst (fun S => t (x :: S)) (c * x.2.2) := by
      funext S
      show (if _ then c * (x.2.2 * wth S) else 0) = (if _ then c * x.2.2 * wth S else 0)
      rw [Rat.mul_assoc]
    rw [e1, e3, e2]; grind
theorem setT_tst (s : Nat) (t : List Rope → Bool) (rs : List Rope) : setT s t rs = subS (tst (fun S => decide (S.length = s) && t S) 1) rs := by
  unfold setT
  refine subS_congr (fun S => ?_) rs
  show _ = (if (decide (S.length = s) && t S) = true then 1 * wth S else 0)
  rw [Rat.one_mul]
  congr 1
  simp
theorem setT_even {s : Nat} {t : List Rope → Bool} (bl : Blind t) {rs : List Rope} {k u v : Nat} {q0 : Rat} (h : rs[k]? = some (u, v, q0)) (p : ∀ r ∈ rs, 0 ≤ r.2.2) : ∃ a b : Rat, 0 ≤ b ∧ ∀ q, setT s t (rs.set k (u, v, q)) = a + q * b := by
  obtain ⟨hk, e⟩ := List.getElem?_eq_some_iff.mp h
  have es : ∀ q, rs.set k (u, v, q) = rs.take k ++ (u, v, q) :: rs.drop (k+1) := fun q => by rw [List.set_eq_take_append_cons_drop, if_pos hk]
  obtain ⟨a, b, nb, hab⟩ := even_sub (B := rs.drop (k+1)) (fun r hr => p r (List.mem_of_mem_drop hr)) u v (rs.take k) (fun S => decide (S.length = s) && t S) 1 (fun S S' hS => by
    have l : S.length = S'.length := by
      have := congrArg List.length hS
      unfold endsR at this
      rwa [List.length_map, List.length_map] at this
    show (decide (S.length = s) && t S) = (decide (S'.length = s) && t S')
    rw [bl S S' hS, l]) (by decide) (fun r hr => p r (List.mem_of_mem_take hr))
  exact ⟨a, b, nb, fun q => by rw [setT_tst, es, hab]⟩
theorem sub_size {α : Nat} : ∀ (rs : List Rope) (t : List Rope → Bool) (c : Rat) (M v : Nat), (∀ r ∈ rs, Vb α r.2.2) → IsI ((M : Nat) * c) → Vb v c → IsI (((M * denP rs : Nat) : Rat) * subS (tst t c) rs) ∧ Vb (v + (α + 1) * rs.length) (subS (tst t c) rs)
  | [], t, c, M, v, _, hi, hv => by
    have e : subS (tst t c) [] = if t [] = true then c * 1 else 0 := rfl
    rw [e]
    split
    · rw [Rat.mul_one]; exact ⟨by show IsI (((M * 1 : Nat) : Rat) * c); rw [Nat.mul_one]; exact hi, hv⟩
    · refine ⟨⟨0, by grind⟩, ?_⟩
      have := hv.nn
      constructor <;> grind
  | r :: rs, t, c, M, v, h, hi, hv => by
    have hr := h r (by simp)
    have h' : ∀ r ∈ rs, Vb α r.2.2 := fun x hx => h x (by simp [hx])
    obtain ⟨i1, v1⟩ := sub_size rs t c M v h' hi hv
    have i0 : IsI (((M * r.2.2.den : Nat) : Rat) * (c * r.2.2)) := by
      obtain ⟨z, hz⟩ := hi
      refine ⟨z * r.2.2.num, ?_⟩
      have d : ((r.2.2.den : Nat) : Rat) * r.2.2 = r.2.2.num := by rw [Rat.mul_comm]; exact rat_num r.2.2
      rw [Rat.natCast_mul, Rat.intCast_mul, ← hz, ← d]; grind
    obtain ⟨i2, v2⟩ := sub_size rs (fun S => t (r :: S)) (c * r.2.2) (M * r.2.2.den) (v + α) h' i0 (hv.mul hr)
    have e3 : (fun S => tst t c (r :: S)) = tst (fun S => t (r :: S)) (c * r.2.2) := by
      funext S
      show (if _ then c * (r.2.2 * wth S) else 0) = (if _ then c * r.2.2 * wth S else 0)
      rw [Rat.mul_assoc]
    have e4 : subS (tst t c) (r :: rs) = subS (tst t c) rs + subS (tst (fun S => t (r :: S)) (c * r.2.2)) rs := by rw [← e3]; rfl
    rw [e4]
    constructor
    · obtain ⟨z1, hz1⟩ := i1
      obtain ⟨z2, hz2⟩ := i2
      refine ⟨r.2.2.den * z1 + z2, ?_⟩
      have d : denP (r :: rs) = r.2.2.den * denP rs := rfl
      rw [d, Rat.intCast_add, Rat.intCast_mul, ← hz1, ← hz2, Rat.natCast_mul, Rat.natCast_mul, Rat.natCast_mul, Rat.natCast_mul, Rat.natCast_mul, ic]
      grind
    · have := (v1.mono (u := v + α + (α + 1) * rs.length) (by (first | lia | omega))).add v2
      exact this.mono (by rw [List.length_cons, Nat.mul_succ]; (first | lia | omega))
theorem setT_size {s α : Nat} {t : List Rope → Bool} {rs : List Rope} (h : ∀ r ∈ rs, Vb α r.2.2) : IsI (((denP rs : Nat) : Rat) * setT s t rs) ∧ Vb ((α + 1) * rs.length) (setT s t rs) := by
  rw [setT_tst]
  have := sub_size rs (fun S => decide (S.length = s) && t S) 1 1 0 h ⟨1, by grind⟩ (by constructor <;> decide)
  rwa [Nat.one_mul, Nat.zero_add] at this
theorem sb_ratio {W k : Int} {q : Rat} {a b : Nat} (w0 : W ≠ 0) (e : (W : Rat) * q = k) (h1 : k.natAbs ≤ 2 ^ b) (h2 : W.natAbs ≤ 2 ^ a) : Sb b a q := by
  refine sb_of w0 h1 h2 ?_
  rw [frac_rat k W w0]
  have w1 : (W : Rat) ≠ 0 := by exact_mod_cast w0
  have : (k : Rat) / (W : Rat) = q := by
    rw [← e, Rat.mul_comm]
    rw [Rat.div_def, Rat.mul_assoc, Rat.mul_inv_cancel _ w1, Rat.mul_one]
  rw [this]; rfl
theorem sb_vb {M : Nat} {q : Rat} {D v : Nat} (m0 : 0 < M) (hi : IsI ((M : Nat) * q)) (hM : M ≤ 2 ^ D) (hv : Vb v q) : Sb (D + v) D q := by
  obtain ⟨k, hk⟩ := hi
  have ab : Ab ((2 ^ D : Nat) : Rat) ((M : Nat) : Rat) := nat_ab (x := (M : Int)) (by rw [Int.natAbs_natCast]; exact hM)
  have := ab.mul hv
  rw [hk, ← Rat.natCast_mul, ← Nat.pow_add] at this
  exact sb_ratio (W := (M : Int)) (by (first | lia | omega)) (by rw [ic]; exact hk) (ab_nat this) (by rw [Int.natAbs_natCast]; exact hM)
theorem setT_sb {s α β m : Nat} {t : List Rope → Bool} {rs : List Rope} (h : ∀ r ∈ rs, Sb α β r.2.2) (hm : rs.length ≤ m) : Sb (β * m + (α + 1) * m) (β * m) (setT s t rs) := by
  obtain ⟨a, b⟩ := setT_size (s := s) (t := t) (rs := rs) fun r hr => (h r hr).vb
  have hd : denP rs ≤ 2 ^ (β * m) := Nat.le_trans (denP_le fun r hr => (h r hr).2) (Nat.pow_le_pow_right (by decide) (Nat.mul_le_mul_left _ hm))
  exact (sb_vb (denP_pos rs) a hd b).mono (by have := Nat.mul_le_mul_left (α + 1) hm; (first | lia | omega)) (Nat.le_refl _)
theorem rise_small : ∀ m, m < 8 → ∀ s, s < 8 → (17 * s + 1) * (riseR m s).length + 30 * s ≤ 3900 := by decide +kernel
end Wd
namespace My
open PySem L2 Mth
theorem same_new {H : Hp} {p : Addr} (h : H p = none) (o : HO) : Same H (upd H p o) := fun b u q => by rw [upd_ne (ne_of_none q h)]; exact q
noncomputable def SameB (x : Addr) (H H' : Hp) : Prop := ∀ b o, b ≠ x → H b = some o → H' b = some o
theorem SameB.refl (x : Addr) (H : Hp) : SameB x H H := fun _ _ _ h => h
theorem SameB.put {x : Addr} {H H' : Hp} (h : SameB x H H') (o : HO) : SameB x H (upd H' x o) := fun b u n q => by rw [upd_ne n]; exact h b u n q
theorem SameB.trans {x : Addr} {H H1 H2 : Hp} (a : SameB x H H1) (b : SameB x H1 H2) : SameB x H H2 := fun c o n h => b c o n (a c o n h)
theorem _root_.L2.Same.b {x : Addr} {H H' : Hp} (h : Same H H') : SameB x H H' := fun b o _ q => h b o q
theorem SameB.same {x : Addr} {H0 H H' : Hp} (h : SameB x H H') (s : Same H0 H) (n : H0 x = none) : Same H0 H' := fun b o q => h b o (ne_of_none q n) (s b o q)
theorem SameB.one {x : Addr} {H : Hp} {o : HO} : SameB x H (upd H x o) := (SameB.refl x H).put o
theorem _root_.L2.Same.up {x : Addr} {H0 H : Hp} (s : Same H0 H) (n : H0 x = none) (o : HO) : Same H0 (upd H x o) := SameB.one.same s n
theorem iteNN {c A B : Prop} [Decidable c] (hc : ¬ c) (h : A) : if (!decide c) = true then A else B := by
  rw [decide_eq_false hc]
  exact iteT h
theorem iteDT {c A B : Prop} [Decidable c] (hc : c) (h : A) : if decide c = true then A else B := by
  rw [decide_eq_true hc]
  exact iteT h
theorem iteDF {c A B : Prop} [Decidable c] (hc : ¬ c) (h : B) : if decide c = true then A else B := by
  rw [decide_eq_false hc]
  exact iteF h
theorem iv {a b : Int} (h : a = b) : V.int a = V.int b := by rw [h]
theorem ivn {a b : Int} (h : a ≠ b) : ¬ V.int a = V.int b := fun z => h (V.int.inj z)
theorem szl {n : Nat} (h : n ≤ 100000) : n < sizeLine := by rw [sizeLine_eq]; (first | lia | omega)
theorem t3_0 (x y z : V) : atI [x, y, z] 0 = some x := atI_nat (j := 0) rfl
theorem t3_1 (x y z : V) : atI [x, y, z] 1 = some y := atI_nat (j := 1) rfl
theorem t3_2 (x y z : V) : atI [x, y, z] 2 = some z := atI_nat (j := 2) rfl
theorem at0 {x y : V} : atI [x, y] 0 = some x := atI_nat (j := 0) rfl
theorem at1 {x y : V} : atI [x, y] 1 = some y := atI_nat (j := 1) rfl
theorem cut_take (xs : List V) {j : Nat} (h : j ≤ xs.length) : cutV xs none (some (j : Int)) = xs.take j := by
  unfold cutV
  have e1 : HT.sIx xs.length 0 none = 0 := rfl
  have e2 : HT.sIx xs.length xs.length (some (j : Int)) = j := by simp [HT.sIx]; rw [if_neg (by (first | lia | omega))]; (first | lia | omega)
  rw [e1, e2]; simp
theorem cut_drop (xs : List V) {j : Nat} (h : j ≤ xs.length) : cutV xs (some (j : Int)) none = xs.drop j := by
  unfold cutV
  have e1 : HT.sIx xs.length 0 (some (j : Int)) = j := by simp [HT.sIx]; rw [if_neg (by (first | lia | omega))]; (first | lia | omega)
  have e2 : HT.sIx xs.length xs.length none = xs.length := rfl
  rw [e1, e2, List.take_of_length_le]; simp
theorem szle {n : Nat} (h : n ≤ 100000) : n ≤ sizeLine := Nat.le_of_lt (szl h)
noncomputable abbrev natV (hs : List Nat) : List V := hs.map fun x : Nat => V.int (x : Int)
theorem nat_at {hs : List Nat} {i p : Nat} (h : hs[i]? = some p) : atI (natV hs) ((i : Nat) : Int) = some (.int (p : Int)) := atI_nat (by rw [List.getElem?_map, h]; rfl)
theorem name_go {i : Nat} {v : V} {σ : L2.St} {H : Hp} {k : L2.St → Hp → Prop} (h : k (σ.set i (some v)) H) : gName i v σ H k := h
theorem nx_go {D : Ends} {f : L2.St → Hp → Prop} {σ : L2.St} {H : Hp} (h : f σ H) : ({ D with nx := f } : Ends).nx σ H := h
theorem seq_join {t u : L2.TS} {D : Ends} {σ : L2.St} {H : Hp} {G : L2.St → Hp → Prop} (m : (∀ σ H, G σ H → u D σ H) → t { D with nx := u D } σ H) (r : ∀ σ H, G σ H → u D σ H) : tSeq t u D σ H := m r
noncomputable abbrev ScA (K : PySem.W.Frag) (H : Hp) (a : Addr) (ns : List Int) : Prop := SqL K H a (ns.map V.int) ∧ ns.length ≤ 63

end My
namespace My
open PySem
noncomputable def top (i : Nat) : Stmt := PySem.Challenge.pw_currentfloor_k21_sums_of_trees.main.body.getD i (.Pass ⟨0, 0, 0, 0⟩)
noncomputable abbrev sCommon : Stmt := top 4
noncomputable abbrev sFraction : Stmt := top 5
noncomputable abbrev sPlus : Stmt := top 6
noncomputable abbrev sMinus : Stmt := top 7
noncomputable abbrev sCBot : Stmt := top 8
noncomputable abbrev sWholes : Stmt := top 9
noncomputable abbrev sLed : Stmt := top 11
noncomputable abbrev sSweptRow : Stmt := top 12
noncomputable abbrev sSwept : Stmt := top 13
noncomputable abbrev sMeasure : Stmt := top 14
noncomputable abbrev sEaseTable : Stmt := top 16
noncomputable abbrev sPoleless : Stmt := top 17
noncomputable abbrev s_tree_sum : Stmt := top 19
noncomputable abbrev s_half_sum : Stmt := top 20
noncomputable abbrev sCellAt : Stmt := top 22
noncomputable abbrev sLow : Stmt := top 23
noncomputable abbrev sLAdd : Stmt := top 24
noncomputable abbrev sLTake : Stmt := top 25
noncomputable abbrev sLMul : Stmt := top 26
noncomputable abbrev sWhole : Stmt := top 27
noncomputable abbrev sLFrac : Stmt := top 28
noncomputable abbrev sLFracs : Stmt := top 29
noncomputable abbrev sLEase : Stmt := top 30
noncomputable abbrev sSpot : Stmt := top 31
noncomputable abbrev sNext : Stmt := top 32
noncomputable abbrev sPut : Stmt := top 33
noncomputable abbrev sGrow : Stmt := top 34
noncomputable abbrev sNet : Stmt := top 35
noncomputable abbrev sSomeNet : Stmt := top 36
noncomputable abbrev s_law_rising : Stmt := top 37
noncomputable abbrev s_law_marks : Stmt := top 38
noncomputable abbrev s_law_trees : Stmt := top 39
noncomputable abbrev s_law_halves : Stmt := top 40
noncomputable abbrev s_law_worth : Stmt := top 41
noncomputable abbrev s_law_sum : Stmt := top 42
noncomputable abbrev sIs : Stmt := top 43
noncomputable abbrev s_law_with : Stmt := top 44
noncomputable abbrev s_law_even : Stmt := top 45
noncomputable abbrev sLaw : Stmt := top 46
end My
namespace My
open PySem L2 Mth
section
variable {P : Program} {w : World} {K : PySem.W.Frag} {mg : Str → Option Value} {base : Heap}

noncomputable def spGcd : Sp := fun vs H Q _ => ∃ a b : Int, vs = [.int a, .int b] ∧ Q (.int (Int.gcd a b : Int)) H
theorem abs_gcd {x : Int} {n : Nat} (h : Int.gcd x 0 = n) : (if x < 0 then -x else x) = (n : Int) := by
  rw [← h, Int.gcd_zero_right]
  split <;> (first | lia | omega)
theorem scCP : FnScope ["one", "other", "rest"] ["one", "other"] (defScope sCommon) := ⟨rfl, rfl, rfl, by decide +kernel, rfl, by decide +kernel, by decide +kernel⟩
theorem ok_common {f : Addr} {fd : FuncData} (F : Fun K "common_part" "common_part" sCommon f fd) (ma : mg "abs" = none) : FnOk P w K mg base CX0 1 f fd ["one", "other"] spGcd := by
  refine F.ok scCP (fun vs H Q E h => ?_) (fun cdv A outer s H vs Q E hr h => ?_)
  · obtain ⟨a, b, rfl, _⟩ := h
    rfl
  obtain ⟨a, b, rfl, q⟩ := h
  refine ⟨_, pss_cons (ps_while PassesOwn.never (pt_cmpR op_ne (pv 1) pe_int (nomark _))
      (pss_cons (ps_set (i := 2) scCP.nd rfl (Or.inl rfl) (pe_op op_modN (pv 0) (pv 1)))
      (pss_cons (ps_set (i := 0) scCP.nd rfl (Or.inl rfl) (pv 1))
      (pss_one (ps_set (i := 1) scCP.nd rfl (Or.inl rfl) (pv 2))))))
    (pss_one (ps_ret (pe_callB call_abs (by rfl) ma PyProof.Rows.boot_abs (pa_cons (pv 0) pa_nil)))), ?_⟩
  refine while_by (fun σ H2 => ∃ x y r, σ = [some (.int x), some (.int y), r] ∧ H2 = H ∧ Int.gcd x y = Int.gcd a b) (fun σ _ => match σ with | [_, some (.int y), _] => y.natAbs | _ => 0) ⟨a, b, none, rfl, rfl, rfl⟩ ?_ ?_
  · rintro σ H2 ⟨x, y, r, rfl, rfl, g⟩
    refine ⟨_, rfl, rfl, _, rfl, ?_⟩
    by_cases hy : y = 0
    · refine iteNS (iv hy) ?_
      subst hy
      refine ⟨_, rfl, x, rfl, ?_⟩
      rw [abs_gcd g]
      exact q
    · refine iteNN (ivn hy) ?_
      exact ⟨_, rfl, _, rfl, _, _, rfl, rfl, hy, _, rfl, _, rfl, ⟨y, x.fmod y, some (.int (x.fmod y)), rfl, rfl, (gcd_fmod x y).trans g⟩, fmod_lt x y hy⟩
  · rintro σ H2 Q1 Q2 hq ⟨v, e, sc, b, eb, z⟩
    exact ⟨v, e, sc, b, eb, hq _ _ z⟩

noncomputable def spFrac (C : Addr) : Sp := fun vs H Q E => ∃ t b : Int, vs = [.int t, .int b] ∧ Big b ∧ (b = 0 → E (.ref C) none H) ∧ (b ≠ 0 → ∀ p, H p = none → Q (.ref p) (upd H p (.tup [.int (frac t b).1, .int (frac t b).2])))
theorem scF : FnScope ["top", "bottom", "part"] ["top", "bottom"] (defScope sFraction) := ⟨rfl, rfl, rfl, by decide +kernel, rfl, by decide +kernel, by decide +kernel⟩
theorem ok_fraction {f g C : Addr} {fd gd : FuncData} {bm : List Value} (F : Fun K "fraction" "fraction" sFraction f fd) (G : FnOk P w K mg base CX0 1 g gd ["one", "other"] spGcd) (bG : Binds K gd ["one", "other"] []) (kG : PySem.W.keepIn K (.ref g) = true) (mG : mg "common_part" = some (.ref g))
    (mC : mg "NoNumber" = some (.ref C)) (xC : PySem.W.excIn K C [.type "ValueError", .type "Exception", .type "BaseException", .type "object"] "ValueError.__new__" = true) : FnOk P w K mg base (CXr P w) 2 f fd ["top", "bottom"] (spFrac C) := by
  refine okX F scF (fun vs H Q E h => ?_) (fun cdv A outer s H vs Q E hr h => ?_)
  · obtain ⟨a, b, rfl, _⟩ := h
    rfl
  obtain ⟨t, b, rfl, hb, h0, h1⟩ := h
  refine ⟨_, pss_cons (ps_if (pt_cmpR op_eq (pv 1) pe_int (nomark _)) (pss_one (ps_raise (by rfl) mC xC PySem.F.excBase_ValueError rfl raise_out (pa_cons pe_str pa_nil))) pss_nil)
    (pss_cons (ps_set (i := 2) scF.nd rfl (Or.inl rfl) (pe_call (CX := CX0) G hr (by rfl) mG kG bG .nil (pass0 (X := _)) (pa_cons (pv 0) (pa_cons (pv 1) pa_nil))))
    (pss_cons (ps_if (pt_cmpR op_lt (pv 1) pe_int (nomark _)) (pss_one (ps_set (i := 2) scF.nd rfl (Or.inl rfl) (pe_un un_neg (pv 2)))) pss_nil)
    (pss_one (ps_ret (pe_tup (pa_cons (pe_op op_fdivB (pv 0) (pv 2)) (pa_cons (pe_op op_fdivB (pv 1) (pv 2)) pa_nil))))))), ?_⟩
  refine ⟨_, rfl, rfl, _, rfl, ?_⟩
  by_cases hz : b = 0
  · refine iteDT (iv hz) ?_
    exact ⟨by show 1 ≤ sizeLine; decide, h0 hz⟩
  refine iteDF (ivn hz) ?_
  refine ⟨_, rfl, _, rfl, t, b, rfl, ?_⟩
  refine ⟨_, rfl, _, _, rfl, rfl, _, rfl, ?_⟩
  have fin : ∀ part, part = Mth.part t b → tRet (tTup (tCons (tOp (rI CDivB fun i j => V.int (i.fdiv j)) (tVar 0) (tVar 2)) (tCons (tOp (rI CDivB fun i j => V.int (i.fdiv j)) (tVar 1) (tVar 2)) tNil)))
      { nx := fun _ H' => Q .non H', rt := Q } [some (.int t), some (.int b), some (.int part)] H := by
    rintro part rfl
    have hp : CDivB t (Mth.part t b) := ⟨part_ne t b hz, Nat.lt_of_le_of_lt (part_le t b hz) hb⟩
    exact ⟨_, rfl, _, rfl, _, _, rfl, rfl, hp, _, rfl, _, rfl, _, _, rfl, rfl, hp, by show 2 ≤ sizeLine; decide, h1 hz⟩
  by_cases hn : b < 0
  · refine iteDT hn ?_
    exact ⟨_, rfl, _, rfl, fin _ (by unfold Mth.part; rw [if_pos hn])⟩
  · refine iteDF hn ?_
    exact fin _ (by unfold Mth.part; rw [if_neg hn])
end
end My
namespace My
open PySem L2 Mth Wd
theorem same_up {x : Addr} {H0 H : Hp} (s : Same H0 H) (n : H0 x = none) (o : HO) : Same H0 (upd H x o) := fun b u q => by rw [upd_ne (ne_of_none q n)]; exact s b u q
theorem big2 {i : Int} {n : Nat} (h : i.natAbs ≤ 2 ^ n) (hn : n < 8000) : Big i := Nat.lt_of_le_of_lt h (Nat.pow_lt_pow_right (by decide) hn)
theorem ints_at {ns : List Int} {i : Nat} {v : V} (h : (ns.map V.int)[i]? = some v) : ∃ e, v = .int e ∧ ns[i]? = some e := by
  rw [List.getElem?_map] at h
  cases q : ns[i]? with
  | none => rw [q] at h; cases h
  | some e => rw [q] at h; exact ⟨e, (Option.some.inj h).symm, rfl⟩
theorem at_ints {ns : List Int} {i : Nat} (h : i < ns.length) : atI (ns.map V.int) (i : Int) = some (.int (ns.getD i 0)) := by
  refine atI_nat ?_
  rw [List.getElem?_map, List.getElem?_eq_getElem h, List.getD_eq_getElem?_getD, List.getElem?_eq_getElem h]; rfl
theorem take_succ_of {α : Type} {xs : List α} {i : Nat} {x : α} (h : xs[i]? = some x) : xs.take (i + 1) = xs.take i ++ [x] := by
  rw [List.take_add_one, h]; rfl
section
variable {P : Program} {w : World} {K : PySem.W.Frag} {mg : Str → Option Value} {base : Heap} {f g h C : Addr} {fd gd hd : FuncData}

noncomputable def spCB : Sp := fun vs H Q _ => ∃ (a : Addr) (qs : List Rat) (d : Nat), vs = [.ref a] ∧ TupR FrR H a qs ∧ (∀ q ∈ qs, q.den ≤ 2 ^ d) ∧ d * qs.length + d < 8000 ∧ Q (.int (cb qs)) H
theorem scCB : FnScope ["row", "common", "one"] ["row"] (defScope sCBot) := ⟨rfl, rfl, rfl, by decide +kernel, rfl, by decide +kernel, by decide +kernel⟩
theorem ok_cbot (F : Fun K "common_bottom" "common_bottom" sCBot f fd) (G : FnOk P w K mg base CX0 1 g gd ["one", "other"] spGcd) (bG : Binds K gd ["one", "other"] []) (kG : PySem.W.keepIn K (.ref g) = true) (mG : mg "common_part" = some (.ref g)) :
    FnOk P w K mg base CX0 2 f fd ["row"] spCB := by
  refine F.ok scCB (fun vs H Q E h => ?_) (fun cdv A outer s H vs Q E hr h => ?_)
  · obtain ⟨a, qs, d, rfl, _⟩ := h
    rfl
  obtain ⟨a, qs, d, rfl, ⟨bs, ha, hA⟩, hd, hsz, q⟩ := h
  refine ⟨_, pss_cons (ps_set (i := 1) scCB.nd rfl (Or.inl rfl) pe_int)
    (pss_cons (ps_for PassesOwn.never rfl (pi_tup (pv 0)) (pg_name (i := 2) scCB.nd rfl (Or.inl rfl))
      (pss_one (ps_set (i := 1) scCB.nd rfl (Or.inl rfl) (pe_op op_mulB (pe_op op_fdivB (pv 1) (pe_call G hr (by rfl) mG kG bG .nil pass0 (pa_cons (pv 1) (pa_cons (pe_ix ix_tup (pv 2) pe_int (fun _ _ => rfl)) pa_nil)))) (pe_ix ix_tup (pv 2) pe_int (fun _ _ => rfl))))))
    (pss_one (ps_ret (pv 1)))), ?_⟩
  refine ⟨_, rfl, a, rfl, ⟨_, SqT.of ha⟩, ?_⟩
  refine for_tup (xs := bs.map V.ref) (fun i σ H2 => ∃ u, H2 = H ∧ σ = [some (.ref a), some (.int ((qs.take i).foldl cb1 1)), u]) ⟨none, rfl, rfl⟩ (fun i σ H2 _ ⟨_, e, _⟩ => by rw [e]; exact SqT.of ha) ?_ ?_
  · rintro i x σ H2 hx ⟨u, rfl, rfl⟩
    obtain ⟨b, y, rfl, _, hy, hB⟩ := hA.ref hx
    have hi : i < qs.length := (List.getElem?_eq_some_iff.mp hy).1
    have ym : y ∈ qs := List.mem_of_getElem? hy
    obtain ⟨c1, c2, c3, c4⟩ := cb_ok (qs.take i) (c := 1) (D := 0) (d := d) (by decide) (by decide) (fun p hp => hd p (List.mem_of_mem_take hp))
    generalize hc : (qs.take i).foldl cb1 1 = c at *
    have lt : (qs.take i).length ≤ qs.length := by simp; (first | lia | omega)
    have mle : d * (qs.take i).length ≤ d * qs.length := Nat.mul_le_mul_left d lt
    have hdn : y.den ≤ 2 ^ d := hd y ym
    have hg0 : (Int.gcd c y.den : Int) ≠ 0 := by have := Int.gcd_pos_of_ne_zero_left (y.den : Int) (show c ≠ 0 by (first | lia | omega)); (first | lia | omega)
    have hgb : Big (Int.gcd c y.den : Int) := by
      refine big2 (n := d) ?_ (by (first | lia | omega))
      rw [Int.natAbs_natCast]
      refine Nat.le_trans (Nat.le_of_dvd ?_ (Int.ofNat_dvd_left.mp (Int.gcd_dvd_right c (y.den : Int)))) ?_
      · have := y.den_nz; (first | lia | omega)
      · simpa using hdn
    have hb1 : Big (c.fdiv (Int.gcd c y.den : Int)) := by
      refine big2 (n := 0 + d * (qs.take i).length) (Nat.le_trans ?_ c4) (by (first | lia | omega))
      rw [Int.fdiv_eq_ediv_of_dvd (Int.gcd_dvd_left c _)]
      exact Int.natAbs_ediv_le_natAbs c _
    have hb2 : Big (y.den : Int) := big2 (n := d) (by simpa using hdn) (by (first | lia | omega))
    refine ⟨_, rfl, _, rfl, _, rfl, b, _, _, _, rfl, rfl, SqT.of hB, at1, c, y.den, rfl, _, _, rfl, rfl, ⟨hg0, hgb⟩, _, rfl, b, _, _, _, rfl, rfl, SqT.of hB, at1, _, _, rfl, rfl, ⟨hb1, hb2⟩, ?_⟩
    refine ⟨some (.ref b), rfl, ?_⟩
    rw [take_succ_of hy, List.foldl_append]
    show _ = [some (V.ref a), some (.int (cb1 ((qs.take i).foldl cb1 1) y)), some (.ref b)]
    rw [hc]; rfl
  · rintro σ H2 ⟨u, rfl, rfl⟩
    refine ⟨_, rfl, ?_⟩
    rw [List.length_map, hA.1, List.take_length]
    exact q

noncomputable def spWholes : Sp := fun vs H Q _ => ∃ (a : Addr) (qs : List Rat) (b : Int), vs = [.ref a, .int b] ∧ TupR FrR H a qs ∧ qs.length ≤ 1000 ∧ (∀ q ∈ qs, Big q.num ∧ Big (q.den : Int) ∧ Big (b.fdiv q.den)) ∧
  ∀ p H', Same H H' → H p = none → IntsL H' p (qs.map (wh b)) → Q (.ref p) H'
theorem scWs : FnScope ["row", "bottom"] ["row", "bottom"] (defScope sWholes) := ⟨rfl, rfl, rfl, by decide +kernel, rfl, by decide +kernel, by decide +kernel⟩
theorem ndWs : (["one", "bottom"] : List Str).Nodup := by decide +kernel
theorem ok_wholes (F : Fun K "wholes" "wholes" sWholes f fd) : FnOk P w K mg base CX0 1 f fd ["row", "bottom"] spWholes := by
  refine F.ok scWs (fun vs H Q E h => ?_) (fun cdv A outer s H vs Q E hr h => ?_)
  · obtain ⟨a, qs, b, rfl, _⟩ := h
    rfl
  obtain ⟨a, qs, b, rfl, ⟨bs, ha, hA⟩, hn, hsz, q⟩ := h
  refine ⟨_, pss_one (ps_ret (pe_comp (Nc := ["one", "bottom"]) (cap := [(1, 1)]) (g := gName 0) (te := tOp (rI CMulB fun i j => .int (i * j)) (tOp (rIxT K) (tVar 0) (tC (.int 0))) (tOp (rI CDivB fun i j => .int (i.fdiv j)) (tVar 1) (tOp (rIxT K) (tVar 0) (tC (.int 1))))) rfl (pi_tup (pv 0))
      (comp_mk rfl rfl (by decide +kernel) (by decide +kernel) (List.forall_mem_cons.mpr ⟨⟨rfl, rfl⟩, List.forall_mem_nil _⟩) rfl (List.forall_mem_cons.mpr ⟨⟨_, _, rfl, rfl, rfl, rfl, rfl⟩, List.forall_mem_nil _⟩))
      (fun C fp pins s' H' => pg_name (i := 0) ndWs rfl (Or.inl rfl)) (fun C fp pins s' H' => pe_op op_mulB (pe_ix ix_tup (pv 0) pe_int (fun _ _ => rfl)) (pe_op op_fdivB (pv 1) (pe_ix ix_tup (pv 0) pe_int (fun _ _ => rfl)))))), ?_⟩
  refine ⟨_, rfl, a, rfl, ⟨_, SqT.of ha⟩, fun acc hacc => ?_⟩
  refine comp_run (run_tup ha) (by rw [List.length_map, hA.1]; exact hn) hacc (fun i ys σ _ => ys = ((qs.take i).map (wh b)).map V.int ∧ ∃ u, σ = [u, some (.int b)]) ⟨rfl, none, rfl⟩ ?_ ?_
  · rintro i ys σ H2 x H3 hi sm hacc2 ⟨hys, u, rfl⟩ ⟨rfl, hx⟩ C hC
    obtain ⟨c, y, rfl, _, hy, hB⟩ := hA.ref hx
    obtain ⟨s1, s2, s3⟩ := hsz y (List.mem_of_getElem? hy)
    have hB3 := mo_fr sm hB
    have yd := y.den_nz
    refine ⟨_, rfl, c, _, _, _, rfl, rfl, SqT.of hB3, at0, _, rfl, _, rfl, c, _, _, _, rfl, rfl, SqT.of hB3, at1, _, _, rfl, rfl, ⟨by (first | lia | omega), s2⟩, _, _, rfl, rfl, ⟨s1, s3⟩, ?_⟩
    refine hC _ _ _ (Same.refl _) ⟨?_, _, rfl⟩
    rw [hys, take_succ_of hy, List.map_append, List.map_append]; rfl
  · rintro ys σ H2 sm ha2 hl ⟨hys, _⟩
    refine q acc H2 sm hacc ?_
    rw [List.length_map, hA.1, List.take_length] at hys
    unfold IntsL
    rw [ha2, hys]

noncomputable def spLed : Sp := fun vs H Q _ => ∃ (a : Addr) (R : List (List Int)) (k m : Nat), vs = [.ref a, .int k] ∧ LstR IntsL H a R ∧ k < R.length ∧ R.length ≤ 1000 ∧ (∀ r ∈ R, r.length = m) ∧ k < m ∧ m ≤ 1000 ∧
  ((∀ i, k ≤ i → i < R.length → (R.getD i []).getD k 0 = 0) → Q .non H) ∧ ∀ i p H', k ≤ i → i < R.length → (R.getD i []).getD k 0 ≠ 0 → Same H H' → H p = none → LstR IntsL H' p (ledR R k i) → Q (.ref p) H'
theorem scLe : FnScope ["rows", "k", "place", "exchanged"] ["rows", "k"] (defScope sLed) := ⟨rfl, rfl, rfl, by decide +kernel, rfl, by decide +kernel, by decide +kernel⟩
theorem ndNu : (["number"] : List Str).Nodup := by decide +kernel
theorem getD_some {α : Type} {xs : List α} {i : Nat} {x d : α} (h : xs[i]? = some x) : xs.getD i d = x := by rw [List.getD_eq_getElem?_getD, h]; rfl
theorem bt_list : bootBuiltins "list" = some (.type "list") := by decide +kernel
theorem ixN_nat {n j : Nat} (h : j < n) : ixN n (j : Int) = some j := by
  unfold ixN
  rw [if_pos (by (first | lia | omega)), if_pos (by (first | lia | omega))]; simp
theorem ok_led (F : Fun K "led" "led" sLed f fd) (ml : mg "len" = none) (mr : mg "range" = none) (mli : mg "list" = none) : FnOk P w K mg base CX0 1 f fd ["rows", "k"] spLed := by
  refine F.ok scLe (fun vs H Q E h => ?_) (fun cdv A outer s H vs Q E hr h => ?_)
  · obtain ⟨a, R, k, m, rfl, _⟩ := h
    rfl
  obtain ⟨a, R, k, m, rfl, ⟨bs, ha, hA⟩, hk, hR, hm, hkm, hm1, qn, qs⟩ := h
  refine ⟨_, pss_cons (ps_for PassesOwn.never rfl (pi_range2 (by rfl) mr (pa_cons (pv 1) (pa_cons (pe_callB call_len_seq (by rfl) ml bt_len (pa_cons (pv 0) pa_nil)) pa_nil))) (pg_name (i := 2) scLe.nd rfl (Or.inl rfl))
      (pss_one (ps_if (pt_cmpR op_ne (pe_ix ix_list (pe_ix ix_list (pv 0) (pv 2) (fun _ _ => rfl)) (pv 1) (fun _ _ => rfl)) pe_int (nomark _))
        (pss_cons (ps_set (i := 3) scLe.nd rfl (Or.inl rfl) (pe_callTy call_list_of (by rfl) mli bt_list (pa_cons (pv 0) pa_nil)))
        (pss_cons (ps_if (pt_cmpR op_ne (pv 2) (pv 1) (nomark _))
          (pss_cons (ps_asg (pe_ix ix_list (pv 0) (pv 2) (fun _ _ => rfl)) (pg_sub (pv 3) (pv 1) set_list))
          (pss_one (ps_asg (pe_comp (Nc := ["number"]) (cap := []) (g := gName 0) (te := tUn (rU fun i => .int (-i)) (tVar 0)) rfl (pi_list (pe_ix ix_list (pv 0) (pv 1) (fun _ _ => rfl)))
            (comp_mk rfl rfl (by decide +kernel) (by decide +kernel) (List.forall_mem_nil _) rfl (List.forall_mem_nil _)) (fun C fp pins s' H' => pg_name (i := 0) ndNu rfl (Or.inl rfl)) (fun C fp pins s' H' => pe_un un_neg (pv 0))) (pg_sub (pv 3) (pv 2) set_list)))) pss_nil)
        (pss_one (ps_ret (pv 3))))) pss_nil)))
    (pss_one (ps_ret pe_non)), ?_⟩
  have hbl : bs.length = R.length := hA.1
  refine ⟨_, rfl, _, rfl, a, _, rfl, .inl (SqL.of ha), _, _, rfl, ⟨by (first | lia | omega), by (first | lia | omega), by rw [List.length_map]; (first | lia | omega), by rw [List.length_map]; (first | lia | omega)⟩, ?_⟩
  rw [List.length_map, show ((bs.length : Int) - (k : Int)).toNat = R.length - k by (first | lia | omega)]
  refine for_range (n := R.length - k) (fun i σ H2 => H2 = H ∧ (∃ u v, σ = [some (.ref a), some (.int k), u, v]) ∧ ∀ j, k ≤ j → j < k + i → (R.getD j []).getD k 0 = 0) ⟨rfl, ⟨none, none, rfl⟩, fun j h1 h2 => by (first | lia | omega)⟩ ?_ ?_
  · rintro i σ H2 hi ⟨rfl, ⟨u, v, rfl⟩, hz⟩
    have hki : k + i < R.length := by (first | lia | omega)
    have ei : R[k + i]? = some R[k + i] := List.getElem?_eq_getElem hki
    obtain ⟨b, hb, hB⟩ := hA.get ei
    have rl : R[k + i].length = m := hm _ (List.getElem_mem hki)
    have gi : R.getD (k + i) [] = R[k + i] := getD_some ei
    have cst : (k : Int) + (i : Int) = ((k + i : Nat) : Int) := by (first | lia | omega)
    refine ⟨_, rfl, _, rfl, a, _, _, _, rfl, rfl, SqL.of ha, by rw [cst]; exact atI_nat (ref_at hb), _, rfl, b, _, _, _, rfl, rfl, SqL.of hB, at_ints (by (first | lia | omega)), rfl, _, rfl, ?_⟩
    by_cases hv : R[k + i].getD k 0 = 0
    · refine iteNS (iv hv) ⟨rfl, ⟨_, _, rfl⟩, fun j h1 h2 => ?_⟩
      rcases Nat.lt_or_ge j (k + i) with h3 | h3
      · exact hz j h1 h3
      · obtain rfl : j = k + i := by (first | lia | omega)
        rw [gi]; exact hv
    · refine iteNN (ivn hv) ?_
      refine ⟨_, rfl, a, _, rfl, .inl (SqL.of ha), fun l hl => ?_⟩
      refine ⟨_, rfl, _, rfl, rfl, _, rfl, ?_⟩
      by_cases hi0 : i = 0
      · subst hi0
        refine iteNS (iv (by (first | lia | omega))) ?_
        refine ⟨_, rfl, qs (k + 0) l _ (by (first | lia | omega)) hki (by rw [gi]; exact hv) (same_new hl _) hl ?_⟩
        unfold ledR
        rw [if_pos (by (first | lia | omega))]
        exact ⟨bs, upd_same, hA.keep mo_ints (same_new hl _)⟩
      · refine iteNN (ivn (by (first | lia | omega))) ?_
        have ek : R[k]? = some R[k] := List.getElem?_eq_getElem hk
        obtain ⟨c, hc, hCk⟩ := hA.get ek
        have gk : R.getD k [] = R[k] := getD_some ek
        have al : a ≠ l := ne_of_none ha hl
        have s1 : Same H2 (upd H2 l (.lst (bs.map V.ref))) := same_new hl _
        refine ⟨_, rfl, _, rfl, a, _, _, _, rfl, rfl, SqL.of (s1 _ _ ha), by rw [cst]; exact atI_nat (ref_at hb), _, rfl, _, rfl, l, _, _, _, rfl, rfl, upd_same, ixN_nat (j := k) (by rw [List.length_map]; (first | lia | omega)), ?_⟩
        have s2 : Same H2 (upd (upd H2 l (.lst (bs.map V.ref))) l (.lst ((bs.map V.ref).set k (.ref b)))) := same_up s1 hl _
        refine ⟨_, rfl, _, rfl, a, _, _, _, rfl, rfl, SqL.of (s2 _ _ ha), atI_nat (ref_at hc), c, rfl, ⟨_, SqL.of (s2 _ _ hCk)⟩, fun acc hacc => ?_⟩
        have hCk2 := s2 _ _ hCk
        generalize hH3 : upd (upd H2 l (.lst (bs.map V.ref))) l (.lst ((bs.map V.ref).set k (.ref b))) = H3 at *
        have hl3 : H3 l = some (.lst ((bs.map V.ref).set k (.ref b))) := by rw [← hH3]; exact upd_same
        have rk : R[k].length = m := hm _ (List.getElem_mem hk)
        refine comp_run (run_list hCk2) (by rw [List.length_map]; (first | lia | omega)) hacc (fun j ys σ _ => ys = ((R[k].take j).map fun x => -x).map V.int ∧ ∃ u, σ = [u]) ⟨rfl, none, rfl⟩ ?_ ?_
        · rintro j ys σ H4 x H5 hj sm hacc2 ⟨hys, u4, rfl⟩ ⟨rfl, hx⟩ C hC
          obtain ⟨e, rfl, he⟩ := ints_at hx
          refine ⟨_, rfl, _, rfl, hC _ _ _ (Same.refl _) ⟨?_, _, rfl⟩⟩
          rw [hys, take_succ_of he, List.map_append, List.map_append]; rfl
        · rintro ys σ H4 sm ha4 hlen ⟨hys, _⟩
          rw [List.length_map, List.take_length] at hys
          refine ⟨_, rfl, _, rfl, l, _, _, _, rfl, rfl, sm _ _ hl3, by rw [cst]; exact ixN_nat (j := k + i) (by rw [List.length_set, List.length_map]; (first | lia | omega)), ?_⟩
          have acl : acc ≠ l := fun z => by rw [z, hl3] at hacc; cases hacc
          have s5 : Same H2 (upd H4 l (.lst (((bs.map V.ref).set k (.ref b)).set (k + i) (.ref acc)))) := same_up (s2.trans sm) hl _
          refine ⟨_, rfl, qs (k + i) l _ (by (first | lia | omega)) hki (by rw [gi]; exact hv) s5 hl ?_⟩
          unfold ledR
          rw [if_neg (by (first | lia | omega)), gi, gk]
          refine ⟨(bs.set k b).set (k + i) acc, ?_, ?_⟩
          · rw [upd_same, List.map_set, List.map_set]
          · refine ((hA.keep mo_ints s5).set k (mo_ints s5 hB)).set (k + i) ?_
            show upd H4 l _ acc = _
            rw [upd_ne acl, ha4, hys]
  · rintro σ H2 ⟨rfl, ⟨u, v, rfl⟩, hz⟩
    exact qn fun i h1 h2 => hz i h1 (by (first | lia | omega))

noncomputable def spSwr : Sp := fun vs H Q _ => ∃ (a b : Addr) (row lead : List Int) (k m : Nat) (p : Int), vs = [.ref a, .ref b, .int k, .int p] ∧ IntsL H a row ∧ IntsL H b lead ∧ row.length = m ∧ lead.length = m ∧ k < m ∧ m ≤ 1000 ∧ p ≠ 0 ∧ Big p ∧ (∀ x ∈ row, Big x) ∧ (∀ x ∈ lead, Big x) ∧
  ∀ q H', Same H H' → H q = none → IntsL H' q (swr row lead k p) → Q (.ref q) H'
theorem scSr : FnScope ["row", "lead", "k", "before"] ["row", "lead", "k", "before"] (defScope sSweptRow) := ⟨rfl, rfl, rfl, by decide +kernel, rfl, by decide +kernel, by decide +kernel⟩
theorem ndSr : (["number", "other", "row", "lead", "k", "before"] : List Str).Nodup := by decide +kernel
noncomputable def teSr (K : PySem.W.Frag) : TE := tOp (rI CDivB fun i j => .int (i.fdiv j)) (tOp (rI0 fun i j => .int (i - j)) (tOp (rI CMulB fun i j => .int (i * j)) (tOp (rIxL K) (tVar 3) (tVar 4)) (tVar 0)) (tOp (rI CMulB fun i j => .int (i * j)) (tOp (rIxL K) (tVar 2) (tVar 4)) (tVar 1))) (tVar 5)
theorem ok_sweptRow (F : Fun K "swept_row" "swept_row" sSweptRow f fd) (mz : mg "zip" = none) : FnOk P w K mg base CX0 1 f fd ["row", "lead", "k", "before"] spSwr := by
  refine F.ok scSr (fun vs H Q E h => ?_) (fun cdv A outer s H vs Q E hr h => ?_)
  · obtain ⟨a, b, row, lead, k, m, p, rfl, _⟩ := h
    rfl
  obtain ⟨a, b, row, lead, k, m, p, rfl, ha, hb, hr1, hl1, hk, hm, hp, bp, br, bl, q⟩ := h
  refine ⟨_, pss_one (ps_ret (pe_compT (Nc := ["number", "other", "row", "lead", "k", "before"]) (cap := [(2, 0), (3, 1), (4, 2), (5, 3)]) (g := gTup K 2 (gCons (gName 0) (gCons (gName 1) gNil))) (te := teSr K) rfl (pi_zipK (t1 := false) (t2 := false) (by rfl) mz (pa_cons (pv 0) (pa_cons (pv 1) pa_nil)))
      (comp_mk rfl rfl (by decide +kernel) (by decide +kernel) (List.forall_mem_cons.mpr ⟨⟨rfl, rfl⟩, List.forall_mem_cons.mpr ⟨⟨rfl, rfl⟩, List.forall_mem_cons.mpr ⟨⟨rfl, rfl⟩, List.forall_mem_cons.mpr ⟨⟨rfl, rfl⟩, List.forall_mem_nil _⟩⟩⟩⟩) rfl
        (List.forall_mem_cons.mpr ⟨⟨_, _, rfl, rfl, rfl, rfl, rfl⟩, List.forall_mem_cons.mpr ⟨⟨_, _, rfl, rfl, rfl, rfl, rfl⟩, List.forall_mem_cons.mpr ⟨⟨_, _, rfl, rfl, rfl, rfl, rfl⟩, List.forall_mem_cons.mpr ⟨⟨_, _, rfl, rfl, rfl, rfl, rfl⟩, List.forall_mem_nil _⟩⟩⟩⟩))
      (fun C fp pins s' H' => pg_tup rfl (pgs_cons (pg_name (i := 0) ndSr rfl (Or.inl rfl)) (pgs_cons (pg_name (i := 1) ndSr rfl (Or.inl rfl)) pgs_nil)))
      (fun C fp pins s' H' => pe_op op_fdivB (pe_op op_sub (pe_op op_mulB (pe_ix ix_list (pv 3) (pv 4) (fun _ _ => rfl)) (pv 0)) (pe_op op_mulB (pe_ix ix_list (pv 2) (pv 4) (fun _ _ => rfl)) (pv 1))) (pv 5)))), ?_⟩
  refine ⟨_, rfl, _, rfl, a, b, rfl, ⟨_, SqS.l ha⟩, ⟨_, SqS.l hb⟩, fun acc hacc => ?_⟩
  refine comp_run (run_zip (xs := row.map V.int) (ys := lead.map V.int) (fun H2 s => SqS.l (s _ _ ha)) (fun H2 s => SqS.l (s _ _ hb)) (by rw [List.length_map, List.length_map]; (first | lia | omega))) (by rw [List.length_map]; (first | lia | omega)) hacc
    (fun i ys σ _ => ys = ((swr row lead k p).take i).map V.int ∧ ∃ u v, σ = [u, v, some (.ref a), some (.ref b), some (.int k), some (.int p)]) ⟨rfl, none, none, rfl⟩ ?_ ?_
  · rintro i ys σ H2 x H3 hi sm hacc2 ⟨hys, u, v, rfl⟩ ⟨t, n1, n2, rfl, ht, rfl, hn1, hn2⟩ C hC
    obtain ⟨x1, rfl, hx1⟩ := ints_at hn1
    obtain ⟨x2, rfl, hx2⟩ := ints_at hn2
    have s3 : Same H2 (upd H2 t (.tup [.int x1, .int x2])) := same_new ht _
    have gm : ∀ (l : List Int) (j : Nat), j < l.length → (∀ x ∈ l, Big x) → Big (l.getD j 0) := fun l j hj hb => by
      rw [List.getD_eq_getElem?_getD, List.getElem?_eq_getElem hj]; exact hb _ (List.getElem_mem hj)
    refine ⟨t, _, rfl, SqT.of upd_same, rfl, _, _, rfl, _, _, rfl, rfl, ?_⟩
    refine ⟨_, rfl, _, rfl, b, _, _, _, rfl, rfl, SqL.of (s3 _ _ (sm _ _ hb)), at_ints (by (first | lia | omega)), _, rfl, _, _, rfl, rfl, ⟨gm _ _ (by (first | lia | omega)) bl, br _ (List.mem_of_getElem? hx1)⟩,
      _, rfl, _, rfl, a, _, _, _, rfl, rfl, SqL.of (s3 _ _ (sm _ _ ha)), at_ints (by (first | lia | omega)), _, rfl, _, _, rfl, rfl, ⟨gm _ _ (by (first | lia | omega)) br, bl _ (List.mem_of_getElem? hx2)⟩, _, _, rfl, rfl, _, rfl, _, _, rfl, rfl, ⟨hp, bp⟩, ?_⟩
    refine hC _ _ _ s3 ⟨?_, _, _, rfl⟩
    have e : (swr row lead k p)[i]? = some ((lead.getD k 0 * x1 - row.getD k 0 * x2).fdiv p) := by
      unfold swr
      rw [List.getElem?_zipWith, hx1, hx2]
    rw [hys, take_succ_of e, List.map_append]; rfl
  · rintro ys σ H2 sm ha2 hl ⟨hys, _⟩
    refine q acc H2 sm hacc ?_
    rw [List.length_map] at hys
    have : (swr row lead k p).length = m := swr_len hr1 hl1
    rw [List.take_of_length_le (by (first | lia | omega))] at hys
    unfold IntsL
    rw [ha2, hys]
end
end My
namespace My
open PySem L2 Mth Wd
section
variable {P : Program} {w : World} {K : PySem.W.Frag} {mg : Str → Option Value} {base : Heap} {f g h C : Addr} {fd gd hd : FuncData}
noncomputable def spSwept : Sp := fun vs H Q _ => ∃ (a : Addr) (R : List (List Int)) (n m B0 : Nat), vs = [.ref a] ∧ LstR IntsL H a R ∧ R.length = n ∧ n ≤ m ∧ m ≤ 100 ∧ (∀ r ∈ R, r.length = m) ∧ 1 ≤ B0 ∧ (∀ r ∈ R, ∀ x ∈ r, x.natAbs ≤ B0) ∧ (m * B0) ^ n < 2 ^ 8000 ∧
  (∀ H', Same H H' → ld n m (wgs (R.map vr) one) = 0 → Q .non H') ∧ ∀ p H' T, Same H H' → LstR IntsL H' p T → (∃ Z c v, Bi B0 n m n (R.map vr) T Z c v) → Q (.ref p) H'
theorem scSw : FnScope ["rows", "size", "before", "k", "lead"] ["rows"] (defScope sSwept) := ⟨rfl, rfl, rfl, by decide +kernel, rfl, by decide +kernel, by decide +kernel⟩
theorem ndSw : (["row", "lead", "k", "before"] : List Str).Nodup := by decide +kernel
theorem big_row {B0 n m k : Nat} {A0 : List Vec} {top : List (List Int)} {Z : List (List Int × Vec)} {p : Int} {v : Frm} (B : Bi B0 n m k A0 top Z p v) (hb : (m * B0) ^ n < 2 ^ 8000) {z : List Int × Vec} (hz : z ∈ Z) : ∀ x ∈ z.1, Big x := by
  intro x hx
  obtain ⟨j, rfl⟩ := Wd.mem_getD hx
  have h := ab_nat (B.ent hz j)
  have hl := B.lenZ
  have hp : 0 < Z.length := List.length_pos_of_mem hz
  have h1 : 1 ≤ m * B0 := Nat.mul_pos (by have := B.nm; (first | lia | omega)) B.b1
  exact Nat.lt_of_le_of_lt (Nat.le_trans h (pow_up h1 (by (first | lia | omega)))) hb
theorem big_p {B0 n m k : Nat} {A0 : List Vec} {top : List (List Int)} {Z : List (List Int × Vec)} {p : Int} {v : Frm} (B : Bi B0 n m k A0 top Z p v) (hb : (m * B0) ^ n < 2 ^ 8000) : Big p := by
  rcases Nat.eq_zero_or_pos k with rfl | hk
  · have h1 := B.pl
    have : (p : Rat) = ld 0 m v := h1.symm
    have hw := B.bdw (Tk 0 m)
    have e : ld 0 m v = v (Tk 0 m) := by simp [ld, tri]
    rw [← e, ← this] at hw
    have := ab_nat hw
    have z : (1 : Nat) < 2 ^ 8000 := by
      have := Nat.one_lt_two_pow (n := 8000) (by decide)
      exact this
    rw [Nat.pow_zero] at this
    exact Nat.lt_of_le_of_lt this z
  · have hl := B.last hk
    have ht := B.lenT
    have hm : top.getD (k-1) [] ∈ top := by
      rw [List.getD_eq_getElem?_getD, List.getElem?_eq_getElem (by (first | lia | omega))]; exact List.getElem_mem _
    have := ab_nat (B.bdt _ hm (k-1))
    rw [hl] at this
    exact Nat.lt_of_le_of_lt this hb
theorem ok_swept (F : Fun K "swept" "swept" sSwept f fd) (G : FnOk P w K mg base CX0 1 g gd ["rows", "k"] spLed) (bG : Binds K gd ["rows", "k"] []) (kG : PySem.W.keepIn K (.ref g) = true) (mG : mg "led" = some (.ref g))
    (G2 : FnOk P w K mg base CX0 1 h hd ["row", "lead", "k", "before"] spSwr) (bG2 : Binds K hd ["row", "lead", "k", "before"] []) (kG2 : PySem.W.keepIn K (.ref h) = true) (mG2 : mg "swept_row" = some (.ref h))
    (ml : mg "len" = none) (mr : mg "range" = none) : FnOk P w K mg base CX0 2 f fd ["rows"] spSwept := by
  refine F.ok scSw (fun vs H Q E h => ?_) (fun cdv A outer s H vs Q E hr h => ?_)
  · obtain ⟨a, R, n, m, B0, rfl, _⟩ := h
    rfl
  obtain ⟨a, R, n, m, B0, rfl, hA, hn, hnm, hm, hcol, hb1, hbd, hbig, qn, qs⟩ := h
  refine ⟨_, pss_cons (ps_set (i := 1) scSw.nd rfl (Or.inl rfl) (pe_callB call_len_seq (by rfl) ml bt_len (pa_cons (pv 0) pa_nil)))
    (pss_cons (ps_set (i := 2) scSw.nd rfl (Or.inr rfl) pe_int)
    (pss_cons (ps_for PassesOwn.never rfl (pi_range1 (by rfl) mr (pa_cons (pv 1) pa_nil)) (pg_name (i := 3) scSw.nd rfl (Or.inr rfl))
      (pss_cons (ps_set (i := 0) scSw.nd rfl (Or.inl rfl) (pe_call G hr (by rfl) mG kG bG .nil pass0 (pa_cons (pv 0) (pa_cons (pv 3) pa_nil))))
      (pss_cons (ps_if (pt_cmpR op_isN (pv 0) pe_non (nomark _)) (pss_one (ps_ret pe_non)) pss_nil)
      (pss_cons (ps_set (i := 4) scSw.nd rfl (Or.inr rfl) (pe_ix ix_list (pv 0) (pv 3) (fun _ _ => rfl)))
      (pss_cons (ps_set (i := 0) scSw.nd rfl (Or.inl rfl) (pe_op op_cat (pe_slice sl_list (pv 0) po_none (po_some (pe_op op_add (pv 3) pe_int)))
        (pe_comp (Nc := ["row", "lead", "k", "before"]) (cap := [(1, 4), (2, 3), (3, 2)]) (g := gName 0) (te := tCall spSwr [] E0 (tCons (tVar 0) (tCons (tVar 1) (tCons (tVar 2) (tCons (tVar 3) tNil))))) rfl (pi_list (pe_slice sl_list (pv 0) (po_some (pe_op op_add (pv 3) pe_int)) po_none))
          (comp_mk rfl rfl (by decide +kernel) (by decide +kernel) (List.forall_mem_cons.mpr ⟨⟨rfl, rfl⟩, List.forall_mem_cons.mpr ⟨⟨rfl, rfl⟩, List.forall_mem_cons.mpr ⟨⟨rfl, rfl⟩, List.forall_mem_nil _⟩⟩⟩) rfl
            (List.forall_mem_cons.mpr ⟨⟨_, _, rfl, rfl, rfl, rfl, rfl⟩, List.forall_mem_cons.mpr ⟨⟨_, _, rfl, rfl, rfl, rfl, rfl⟩, List.forall_mem_cons.mpr ⟨⟨_, _, rfl, rfl, rfl, rfl, rfl⟩, List.forall_mem_nil _⟩⟩⟩))
          (fun C fp pins s' H' => pg_name (i := 0) ndSw rfl (Or.inl rfl)) (fun C fp pins s' H' => pe_call G2 hr (by rfl) mG2 kG2 bG2 .nil pass0 (pa_cons (pv 0) (pa_cons (pv 1) (pa_cons (pv 2) (pa_cons (pv 3) pa_nil))))))))
      (pss_one (ps_set (i := 2) scSw.nd rfl (Or.inr rfl) (pe_ix ix_list (pv 4) (pv 3) (fun _ _ => rfl)))))))))
    (pss_one (ps_ret (pv 0))))), ?_⟩
  obtain ⟨bs, ha, hAt⟩ := id hA
  refine ⟨_, rfl, a, _, rfl, .inl (SqL.of ha), ?_⟩
  refine ⟨_, rfl, (((bs.map V.ref).length : Nat) : Int), rfl, by rw [List.length_map, hAt.1]; (first | lia | omega), by rw [List.length_map, hAt.1]; (first | lia | omega), ?_⟩
  rw [show ((((bs.map V.ref).length : Nat) : Int)).toNat = n by rw [List.length_map, hAt.1]; (first | lia | omega)]
  refine for_range (n := n) (fun k σ H2 => Same H H2 ∧ ∃ (c : Addr) (top : List (List Int)) (Z : List (List Int × Vec)) (p : Int) (v : Frm) (u1 u2 : Option V), σ = [some (.ref c), some (.int (((bs.map V.ref).length : Nat) : Int)), some (.int p), u1, u2] ∧ LstR IntsL H2 c (top ++ Z.map (·.1)) ∧ Bi B0 n m k (R.map vr) top Z p v)
    ⟨Same.refl _, a, [], R.map fun r => (r, vr r), 1, one, none, none, rfl, by simp [Function.comp_def]; exact hA, Bi.mk0 hb1 (fun r hr j => nat_ab (getD_abs (hbd r hr) j)) hn hnm hcol⟩ ?_ ?_
  · rintro k σ H2 hk ⟨sm, c, top, Z, p, v, u1, u2, rfl, hL, B⟩
    have lT := B.lenT
    have lZ := B.lenZ
    have lall : (top ++ Z.map (·.1)).length = n := by simp; (first | lia | omega)
    have zk : (0 : Int) + (k : Nat) = ((k : Nat) : Int) := by (first | lia | omega)
    refine ⟨_, rfl, _, rfl, c, top ++ Z.map (·.1), k, m, by rw [zk]; rfl, hL, by (first | lia | omega), by (first | lia | omega), ?_, by (first | lia | omega), by (first | lia | omega), ?_, ?_⟩
    · intro r hr
      rcases List.mem_append.mp hr with h1 | h1
      · exact B.colT r h1
      · obtain ⟨z, hz, rfl⟩ := List.mem_map.mp h1
        exact B.colZ z hz
    · -- no row leads
      intro h0
      refine ⟨_, rfl, rfl, _, rfl, ?_⟩
      refine iteDT rfl ?_
      refine qn H2 sm (B.none hk fun z hz => ?_)
      obtain ⟨j, hj, e⟩ := List.getElem_of_mem hz
      have hh := h0 (k + j) (by (first | lia | omega)) (by (first | lia | omega))
      have : (top ++ Z.map (·.1)).getD (k + j) [] = z.1 := by
        rw [List.getD_eq_getElem?_getD, List.getElem?_append_right (by (first | lia | omega)), show k + j - top.length = j by (first | lia | omega), List.getElem?_map, List.getElem?_eq_getElem hj, e]; rfl
      rw [this] at hh
      exact hh
    · intro i c2 H3 h1 h2 h3 s3 nc2 hL3
      obtain ⟨z, Z', B2, eR, hz⟩ := B.led h1 (by (first | lia | omega)) h3
      rw [eR] at hL3
      refine ⟨_, rfl, rfl, _, rfl, ?_⟩
      refine iteDF (fun z => by cases z) ?_
      obtain ⟨cs, hc2, hAt2⟩ := id hL3
      have lZ2 := B2.lenZ
      simp at lZ2
      have lcs : cs.length = n := by rw [hAt2.1]; simp; (first | lia | omega)
      have ek : (top ++ z.1 :: Z'.map (·.1))[k]? = some z.1 := by rw [List.getElem?_append_right (by (first | lia | omega)), lT]; simp
      obtain ⟨b, hb, hB⟩ := hAt2.get ek
      refine ⟨_, rfl, _, rfl, c2, _, _, _, rfl, rfl, SqL.of hc2, by rw [zk]; exact atI_nat (ref_at hb), ?_⟩
      have k1 : ((0 : Int) + (k : Nat)) + 1 = ((k + 1 : Nat) : Int) := by (first | lia | omega)
      -- the first part
      refine ⟨_, rfl, _, rfl, _, _, rfl, rfl, _, rfl, c2, _, rfl, SqL.of hc2, fun p1 hp1 => ?_⟩
      dsimp only
      rw [k1, cut_take _ (by rw [List.length_map]; (first | lia | omega))]
      have s4 : Same H3 (upd H3 p1 (.lst ((cs.map V.ref).take (k + 1)))) := same_new hp1 _
      have hp14 : (upd H3 p1 (.lst ((cs.map V.ref).take (k + 1)))) p1 = some (.lst ((cs.map V.ref).take (k + 1))) := upd_same
      generalize upd H3 p1 (.lst ((cs.map V.ref).take (k + 1))) = H4 at s4 hp14
      refine ⟨_, rfl, _, rfl, _, _, rfl, rfl, _, rfl, c2, _, rfl, SqL.of (s4 _ _ hc2), fun p2 hp2 => ?_⟩
      dsimp only
      rw [k1, cut_drop _ (by rw [List.length_map]; (first | lia | omega))]
      have s5 : Same H4 (upd H4 p2 (.lst ((cs.map V.ref).drop (k + 1)))) := same_new hp2 _
      have hp25 : (upd H4 p2 (.lst ((cs.map V.ref).drop (k + 1)))) p2 = some (.lst ((cs.drop (k + 1)).map V.ref)) := by rw [upd_same, List.map_drop]
      generalize upd H4 p2 (.lst ((cs.map V.ref).drop (k + 1))) = H5 at s5 hp25
      refine ⟨p2, rfl, ⟨_, SqL.of hp25⟩, fun acc hacc => ?_⟩
      have s35 : Same H3 H5 := s4.trans s5
      have hAd : At IntsL H5 (cs.drop (k + 1)) (Z'.map (·.1)) := by
        have := (hAt2.drop (k + 1)).keep mo_ints s35
        have e : (top ++ z.1 :: Z'.map (·.1)).drop (k + 1) = Z'.map (·.1) := by
          rw [List.drop_append, List.drop_of_length_le (by (first | lia | omega)), show k + 1 - top.length = 1 by (first | lia | omega)]; rfl
        rw [e] at this
        exact this
      have hzm : z ∈ z :: Z' := by simp
      refine comp_run (run_list hp25) (by rw [List.length_map, List.length_drop]; (first | lia | omega)) hacc
        (fun i ys σ hp => ∃ ds : List Addr, ys = ds.map V.ref ∧ At IntsL hp ds ((Z'.map fun y => swr y.1 z.1 k p).take i) ∧ ∃ u, σ = [u, some (.ref b), some (.int ((0 : Int) + (k : Nat))), some (.int p)]) ⟨[], rfl, At.nil, none, rfl⟩ ?_ ?_
      · rintro i ys σ H6 x H7 hi sm6 hacc6 ⟨ds, rfl, hD, u, rfl⟩ ⟨rfl, hx⟩ C hC
        obtain ⟨e, r, rfl, he, hr', hE⟩ := hAd.ref hx
        rw [List.getElem?_map] at hr'
        cases q : Z'[i]? with
        | none => rw [q] at hr'; cases hr'
        | some y =>
          rw [q] at hr'
          obtain rfl : y.1 = r := Option.some.inj hr'
          have ym : y ∈ z :: Z' := List.mem_cons_of_mem _ (List.mem_of_getElem? q)
          refine ⟨_, rfl, _, rfl, _, rfl, _, rfl, e, b, y.1, z.1, k, m, p, by rw [zk]; rfl, sm6 _ _ hE, sm6 _ _ (s35 _ _ hB), B2.colZ y ym, B2.colZ z hzm, by (first | lia | omega), by (first | lia | omega), B.pz, big_p B hbig, big_row B2 hbig ym, big_row B2 hbig hzm, ?_⟩
          intro r2 H8 s8 nr2 hr2
          refine hC _ _ _ s8 ⟨ds ++ [r2], by simp, ?_, _, rfl⟩
          have ne : r2 ≠ acc := fun z => by rw [z, hacc6] at nr2; cases nr2
          have e3 : (Z'.map fun y => swr y.1 z.1 k p)[i]? = some (swr y.1 z.1 k p) := by rw [List.getElem?_map, q]; rfl
          rw [take_succ_of e3]
          exact (hD.keep mo_ints (del_mono acc s8)).snoc (del_at hr2 ne)
      · rintro ys σ H6 sm6 hacc6 hl6 ⟨ds, rfl, hD, u, rfl⟩
        rw [List.length_map, List.length_drop, List.take_of_length_le (by simp; (first | lia | omega))] at hD
        have hp16 := sm6 _ _ (s5 _ _ hp14)
        have hlen : (cs.map V.ref).length = n := by rw [List.length_map]; exact lcs
        have hdl : ds.length = Z'.length := by rw [hD.1]; simp
        refine ⟨p1, acc, _, _, rfl, rfl, hp16, hacc6, by rw [List.length_take, List.length_map, List.length_map]; exact szle (by (first | lia | omega)), fun c3 hc3 => ?_⟩
        have s7 : Same H6 (upd H6 c3 (.lst ((cs.map V.ref).take (k + 1) ++ ds.map V.ref))) := same_new hc3 _
        have s37 := (s35.trans sm6).trans s7
        have b1 : z.1.length = m := B2.colZ z hzm
        refine ⟨_, rfl, _, rfl, b, _, _, _, rfl, rfl, SqL.of (s37 _ _ hB), by rw [zk]; exact at_ints (by (first | lia | omega)), ?_⟩
        have B3 := B2.step hz
        refine ⟨sm.trans (s3.trans s37), c3, top ++ [z.1], _, z.1.getD k 0, _, _, _, rfl, ⟨cs.take (k + 1) ++ ds, ?_, ?_⟩, B3⟩
        · rw [upd_same, List.map_append, List.map_take]
        · have t1 := (hAt2.take (k + 1)).keep mo_ints s37
          have e : (top ++ z.1 :: Z'.map (·.1)).take (k + 1) = top ++ [z.1] := by
            rw [List.take_append, List.take_of_length_le (by (first | lia | omega)), show k + 1 - top.length = 1 by (first | lia | omega)]; rfl
          rw [e] at t1
          have t2 := (hD.keep mo_ints (del_sub H6 acc)).keep mo_ints s7
          have e2 : List.map (·.1) (Z'.map fun y => (swr y.1 z.1 k p, y.2)) = Z'.map fun y => swr y.1 z.1 k p := by simp [Function.comp_def]
          rw [e2]
          exact t1.app t2
  · rintro σ H2 ⟨sm, c, top, Z, p, v, u1, u2, rfl, hL, B⟩
    obtain ⟨rfl, _⟩ := B.fin
    rw [List.map_nil, List.append_nil] at hL
    exact ⟨_, rfl, qs c H2 top sm hL ⟨[], p, v, B⟩⟩
end
end My
namespace My
open PySem L2 Mth Wd
section
variable {P : Program} {w : World} {K : PySem.W.Frag} {mg : Str → Option Value} {base : Heap} {f g h C f1 f2 f3 f4 : Addr} {fd gd hd d1 d2 d3 d4 : FuncData}
structure TK (n m d E D : Nat) (T : List (List Rat)) : Prop where
  len : T.length = n
  col : ∀ r ∈ T, r.length = m
  nm : n ≤ m
  m15 : m ≤ 15
  den : ∀ r ∈ T, ∀ q ∈ r, q.den ≤ 2 ^ d
  num : ∀ r ∈ T, ∀ q ∈ r, Big q.num
  cbD : ∀ r ∈ T, (cb r).natAbs ≤ 2 ^ D
  whE : ∀ r ∈ T, ∀ q ∈ r, (wh (cb r) q).natAbs ≤ 2 ^ E
  bd : (4 + E) * n < 7990 ∧ D < 7990 ∧ d * m + d < 7990
theorem TK.hcb {n m d E D : Nat} {T : List (List Rat)} (h : TK n m d E D T) {r : List Rat} (hr : r ∈ T) : 0 < cb r ∧ (∀ q ∈ r, (q.den : Int) ∣ cb r) ∧ (cb r).natAbs ≤ 2 ^ D :=
  ⟨(cb_pos r).1, (cb_pos r).2, h.cbD r hr⟩
noncomputable def whR (T : List (List Rat)) : List (List Int) := T.map fun r => r.map (wh (cb r))
theorem TK.hwh {n m d E D : Nat} {T : List (List Rat)} (h : TK n m d E D T) : ∀ r ∈ whR T, r.length = m ∧ ∀ x ∈ r, x.natAbs ≤ 2 ^ E := by
  intro r hr
  obtain ⟨s, hs, rfl⟩ := List.mem_map.mp hr
  refine ⟨by rw [List.length_map]; exact h.col s hs, fun x hx => ?_⟩
  obtain ⟨q, hq, rfl⟩ := List.mem_map.mp hx
  exact h.whE s hs q hq
theorem TK.big {n m d E D : Nat} {T : List (List Rat)} (h : TK n m d E D T) : (m * 2 ^ E) ^ n < 2 ^ 8000 := by
  have h1 : m * 2 ^ E ≤ 2 ^ (4 + E) := by
    rw [Nat.pow_add 2 4]
    exact Nat.mul_le_mul_right _ (by have := h.m15; (first | lia | omega))
  have h2 := Nat.pow_le_pow_left h1 n
  rw [← Nat.pow_mul] at h2
  exact Nat.lt_of_le_of_lt h2 (Nat.pow_lt_pow_right (by decide) (by have := h.bd; (first | lia | omega)))
theorem TK.wb {n m d E D : Nat} {T : List (List Rat)} (h : TK n m d E D T) {r : List Rat} (hr : r ∈ T) : ∀ q ∈ r, Big q.num ∧ Big (q.den : Int) ∧ Big ((cb r).fdiv q.den) := by
  intro q hq
  obtain ⟨c1, c2, c3⟩ := h.hcb hr
  have := h.bd
  refine ⟨h.num r hr q hq, big2 (n := d) (by simpa using h.den r hr q hq) (by (first | lia | omega)), big2 (n := D) (Nat.le_trans ?_ c3) (by (first | lia | omega))⟩
  rw [Int.fdiv_eq_ediv_of_dvd (c2 q hq)]
  exact Int.natAbs_ediv_le_natAbs _ _
theorem ndRo : (["row"] : List Str).Nodup := by decide +kernel
theorem ndRB : (["row", "bottom"] : List Str).Nodup := by decide +kernel
theorem at_last {α : Type} {xs : List α} {v : α} (h : xs[xs.length - 1]? = some v) : atI xs (-1) = some v := by
  have hl : 0 < xs.length := by have := (List.getElem?_eq_some_iff.mp h).1; (first | lia | omega)
  have e : ixN xs.length (-1) = some (xs.length - 1) := by
    unfold ixN
    rw [if_neg (by decide), if_pos (by (first | lia | omega))]
    congr 1; (first | lia | omega)
  unfold atI
  rw [e]; exact h
theorem mo_tf : Mo (TupR FrR) := fun s h => mo_tup (R := FrR) (fun s h => mo_fr s h) s h
end
end My
namespace My
open PySem L2 Mth Wd
section
variable {P : Program} {w : World} {K : PySem.W.Frag} {mg : Str → Option Value} {base : Heap} {f g h C f1 f2 f3 f4 : Addr} {fd gd hd d1 d2 d3 d4 : FuncData}
noncomputable def spMeasure : Sp := fun vs H Q _ => ∃ (a : Addr) (T : List (List Rat)) (n d E D : Nat), vs = [.ref a] ∧ TupR (TupR FrR) H a T ∧ TK n n d E D T ∧ D * n < 7990 ∧ ∀ p H', Same H H' → FrR H' p (dt n n T) → Q (.ref p) H'
theorem scMe : FnScope ["table", "bottoms", "rows", "product", "bottom"] ["table"] (defScope sMeasure) := ⟨rfl, rfl, rfl, by decide +kernel, rfl, by decide +kernel, by decide +kernel⟩
theorem ok_measure (F : Fun K "measure" "measure" sMeasure f fd) (G1 : FnOk P w K mg base CX0 2 f1 d1 ["row"] spCB) (b1 : Binds K d1 ["row"] []) (k1 : PySem.W.keepIn K (.ref f1) = true) (m1 : mg "common_bottom" = some (.ref f1))
    (G2 : FnOk P w K mg base CX0 1 f2 d2 ["row", "bottom"] spWholes) (b2 : Binds K d2 ["row", "bottom"] []) (k2 : PySem.W.keepIn K (.ref f2) = true) (m2 : mg "wholes" = some (.ref f2))
    (G3 : FnOk P w K mg base CX0 2 f3 d3 ["rows"] spSwept) (b3 : Binds K d3 ["rows"] []) (k3 : PySem.W.keepIn K (.ref f3) = true) (m3 : mg "swept" = some (.ref f3))
    (G4 : FnOk P w K mg base (CXr P w) 2 f4 d4 ["top", "bottom"] (spFrac C)) (b4 : Binds K d4 ["top", "bottom"] []) (k4 : PySem.W.keepIn K (.ref f4) = true) (m4 : mg "fraction" = some (.ref f4))
    (ml : mg "len" = none) (mz : mg "zip" = none) : FnOk P w K mg base CX0 3 f fd ["table"] spMeasure := by
  refine F.ok scMe (fun vs H Q E h => ?_) (fun cdv A outer s H vs Q E hr h => ?_)
  · obtain ⟨a, T, n, d, E', D, rfl, _⟩ := h
    rfl
  obtain ⟨a, T, n, d, E', D, rfl, ⟨bs, ha, hA⟩, ok, hdn, q⟩ := h
  have hr1 := hr.mono (show 1 ≤ 2 by decide)
  refine ⟨_, pss_cons (ps_if (pt_cmpR op_eq (pe_callB call_len_seq (by rfl) ml bt_len (pa_cons (pv 0) pa_nil)) pe_int (nomark _)) (pss_one (ps_ret (pe_tup (pa_cons pe_int (pa_cons pe_int pa_nil))))) pss_nil)
    (pss_cons (ps_setComp (i := 1) scMe.nd rfl (Or.inl rfl) (Nc := ["row"]) (cap := []) (g := gName 0) (te := tCall spCB [] E0 (tCons (tVar 0) tNil)) rfl (pi_tup (pv 0))
      (comp_mk rfl rfl (by decide +kernel) (by decide +kernel) (List.forall_mem_nil _) rfl (List.forall_mem_nil _)) (fun C fp pins s' H' => pg_name (i := 0) ndRo rfl (Or.inl rfl)) (fun C fp pins s' H' => pe_call G1 hr (by rfl) m1 k1 b1 .nil pass0 (pa_cons (pv 0) pa_nil)))
    (pss_cons (ps_set (i := 2) scMe.nd rfl (Or.inl rfl) (pe_call G3 hr (by rfl) m3 k3 b3 .nil pass0 (pa_cons (pe_compT (Nc := ["row", "bottom"]) (cap := []) (g := gTup K 2 (gCons (gName 0) (gCons (gName 1) gNil))) (te := tCall spWholes [] E0 (tCons (tVar 0) (tCons (tVar 1) tNil))) rfl (pi_zipK (t1 := true) (t2 := false) (by rfl) mz (pa_cons (pv 0) (pa_cons (pv 1) pa_nil)))
      (comp_mk rfl rfl (by decide +kernel) (by decide +kernel) (List.forall_mem_nil _) rfl (List.forall_mem_nil _)) (fun C fp pins s' H' => pg_tup rfl (pgs_cons (pg_name (i := 0) ndRB rfl (Or.inl rfl)) (pgs_cons (pg_name (i := 1) ndRB rfl (Or.inl rfl)) pgs_nil)))
      (fun C fp pins s' H' => pe_call G2 hr1 (by rfl) m2 k2 b2 .nil pass0 (pa_cons (pv 0) (pa_cons (pv 1) pa_nil)))) pa_nil)))
    (pss_cons (ps_if (pt_cmpR op_isN (pv 2) pe_non (nomark _)) (pss_one (ps_ret (pe_tup (pa_cons pe_int (pa_cons pe_int pa_nil))))) pss_nil)
    (pss_cons (ps_set (i := 3) scMe.nd rfl (Or.inl rfl) pe_int)
    (pss_cons (ps_for PassesOwn.never rfl (pi_list (pv 1)) (pg_name (i := 4) scMe.nd rfl (Or.inl rfl)) (pss_one (ps_set (i := 3) scMe.nd rfl (Or.inl rfl) (pe_op op_mulB (pv 3) (pv 4)))))
    (pss_one (ps_ret (pe_call (CX := CXr P w) G4 hr (by rfl) m4 k4 b4 .nil passR0 (pa_cons (pe_ix ix_list (pe_ix ix_list (pv 2) (pe_un un_neg pe_int) (fun _ _ => rfl)) (pe_un un_neg pe_int) (fun _ _ => rfl)) (pa_cons (pv 3) pa_nil)))))))))), ?_⟩
  have lb : bs.length = n := by rw [hA.1]; exact ok.len
  have n15 := ok.m15
  refine ⟨_, rfl, a, _, rfl, .inr (SqT.of ha), rfl, _, rfl, ?_⟩
  by_cases hn0 : n = 0
  · subst hn0
    refine iteDT (iv (by rw [List.length_map, lb]; rfl)) ?_
    refine ⟨by show 2 ≤ sizeLine; decide, fun p hp => q p _ (same_new hp _) ?_⟩
    have : T = [] := List.length_eq_zero_iff.mp ok.len
    subst this
    have e1 : dt 0 0 [] = 1 := by unfold dt; exact ld_one 0
    rw [e1]
    exact upd_same
  refine iteDF (ivn (by rw [List.length_map, lb]; (first | lia | omega))) ?_
  -- the bottoms
  refine ⟨_, rfl, a, rfl, ⟨_, SqT.of ha⟩, fun acc hacc => ?_⟩
  refine comp_run (run_tup ha) (by rw [List.length_map]; (first | lia | omega)) hacc (fun i ys σ _ => ys = ((T.take i).map cb).map V.int ∧ ∃ u, σ = [u]) ⟨rfl, none, rfl⟩ ?_ ?_
  · rintro i ys σ H2 x H3 hi sm hacc2 ⟨hys, u, rfl⟩ ⟨rfl, hx⟩ C hC
    obtain ⟨c, r, rfl, _, hy, hB⟩ := hA.ref hx
    have rm : r ∈ T := List.mem_of_getElem? hy
    have := ok.bd
    refine ⟨_, rfl, c, r, d, rfl, mo_tf sm hB, fun q hq => ok.den r rm q hq, by rw [ok.col r rm]; (first | lia | omega), hC _ _ _ (Same.refl _) ⟨?_, _, rfl⟩⟩
    rw [hys, take_succ_of hy, List.map_append, List.map_append]; rfl
  rintro ys σ1 H2 s2 hacc2 hl2 ⟨hys, u, rfl⟩
  rw [List.length_map, hA.1, List.take_length] at hys
  subst hys
  have ha2 := s2 _ _ ha
  -- the whole rows
  refine ⟨_, rfl, _, rfl, a, acc, rfl, ⟨_, SqS.t ha2⟩, ⟨_, SqS.l hacc2⟩, fun ac2 hac2 => ?_⟩
  refine comp_run (run_zip (xs := bs.map V.ref) (ys := (T.map cb).map V.int) (fun H3 s => SqS.t (s _ _ ha2)) (fun H3 s => SqS.l (s _ _ hacc2)) (by rw [List.length_map, List.length_map, List.length_map, hA.1])) (by rw [List.length_map]; (first | lia | omega)) hac2
    (fun i ys σ hp => ∃ ds : List Addr, ys = ds.map V.ref ∧ At IntsL hp ds ((whR T).take i) ∧ ∃ u v, σ = [u, v]) ⟨[], rfl, At.nil, none, none, rfl⟩ ?_ ?_
  · rintro i ys σ H3 x H4 hi sm hac3 ⟨ds, rfl, hD, u, v, rfl⟩ ⟨t, n1, n2, rfl, ht, rfl, hn1, hn2⟩ C hC
    obtain ⟨c, r, rfl, _, hy, hB⟩ := hA.ref hn1
    have rm : r ∈ T := List.mem_of_getElem? hy
    have e2 : n2 = .int (cb r) := by
      rw [List.getElem?_map, List.getElem?_map, hy] at hn2
      exact (Option.some.inj hn2).symm
    subst e2
    have s3 : Same H3 (upd H3 t (.tup [.ref c, .int (cb r)])) := same_new ht _
    refine ⟨t, _, rfl, SqT.of upd_same, rfl, _, _, rfl, _, _, rfl, rfl, ?_⟩
    refine ⟨_, rfl, _, rfl, c, r, cb r, rfl, mo_tf (s2.trans (sm.trans s3)) hB, by rw [ok.col r rm]; (first | lia | omega), ok.wb rm, fun p H5 s5 np hp => ?_⟩
    refine hC _ _ _ (s3.trans s5) ⟨ds ++ [p], by simp, ?_, _, _, rfl⟩
    have ne : p ≠ ac2 := fun z => by rw [z, s3 _ _ hac3] at np; cases np
    have e3 : (whR T)[i]? = some (r.map (wh (cb r))) := by unfold whR; rw [List.getElem?_map, hy]; rfl
    rw [take_succ_of e3]
    exact (hD.keep mo_ints (del_mono ac2 (s3.trans s5))).snoc (del_at hp ne)
  rintro ys σ2 H3 s3 hac3 hl3 ⟨ds, rfl, hD, u', v', rfl⟩
  have lw : (whR T).length = n := by unfold whR; rw [List.length_map]; exact ok.len
  rw [List.length_map, lb, List.take_of_length_le (by (first | lia | omega))] at hD
  have hac3' := s3 _ _ hacc2
  refine ⟨ac2, whR T, n, n, 2 ^ E', rfl, ⟨ds, hac3, hD.keep mo_ints (del_sub H3 ac2)⟩, lw, Nat.le_refl _, by (first | lia | omega), fun r hr => (ok.hwh r hr).1, Nat.one_le_two_pow, fun r hr => (ok.hwh r hr).2, ok.big, ?_, ?_⟩
  all_goals
    have sc := dt_scaled (n := n) (m := n) T cb (fun r hr => (ok.hcb hr).2.1)
    obtain ⟨pp, pl⟩ := prodB_ok (T.map cb) (d := D) (fun b hb => by
      obtain ⟨r, hr, rfl⟩ := List.mem_map.mp hb
      exact ⟨(ok.hcb hr).1, (ok.hcb hr).2.2⟩)
    have pq : ((prodB (T.map cb) : Int) : Rat) ≠ 0 := by
      have : prodB (T.map cb) ≠ 0 := by (first | lia | omega)
      exact_mod_cast this
  · intro H4 s4 h0
    refine ⟨_, rfl, rfl, _, rfl, iteDT rfl ?_⟩
    refine ⟨by show 2 ≤ sizeLine; decide, fun p hp => q p _ ((s2.trans (s3.trans s4)).trans (same_new hp _)) ?_⟩
    have : dt n n T = 0 := by
      have h1 : ((prodB (T.map cb) : Int) : Rat) * dt n n T = 0 := by rw [← sc]; exact h0
      grind
    rw [this]
    exact upd_same
  · intro p H4 T2 s4 hL ⟨Z, c, v, B⟩
    refine ⟨_, rfl, rfl, _, rfl, iteDF (fun z => by cases z) ?_⟩
    obtain ⟨_, eD⟩ := B.fin
    have h4 := s4 _ _ hac3'
    refine ⟨_, rfl, acc, rfl, ⟨_, SqL.of h4⟩, ?_⟩
    refine for_list (xs := (T.map cb).map V.int) (fun i σ H5 => H5 = H4 ∧ ∃ u, σ = [some (.ref a), some (.ref acc), some (.ref p), some (.int (((T.map cb).take i).foldl (fun p b => p * b) 1)), u]) ⟨rfl, none, rfl⟩ (fun i σ H5 _ ⟨e, _⟩ => by rw [e]; exact SqL.of h4) ?_ ?_
    · rintro i x σ H5 hx ⟨rfl, u, rfl⟩
      obtain ⟨b, rfl, hb⟩ := ints_at hx
      have hbm : b ∈ T.map cb := List.mem_of_getElem? hb
      obtain ⟨r, hr, hrb⟩ := List.mem_map.mp hbm
      have tb := prodB_ok ((T.map cb).take i) (d := D) (fun b hb => by
        obtain ⟨r, hr, rfl⟩ := List.mem_map.mp (List.mem_of_mem_take hb)
        exact ⟨(ok.hcb hr).1, (ok.hcb hr).2.2⟩)
      have hln : D * ((T.map cb).take i).length ≤ D * n := Nat.mul_le_mul_left _ (by simp; have := ok.len; (first | lia | omega))
      have := ok.bd
      refine ⟨_, rfl, _, rfl, _, _, rfl, rfl, ⟨?_, ?_⟩, rfl, some (.int b), ?_⟩
      · rw [prodB_foldl, Int.one_mul]
        exact big2 tb.2 (by (first | lia | omega))
      · rw [← hrb]
        exact big2 (n := D) (ok.hcb hr).2.2 (by (first | lia | omega))
      · rw [take_succ_of hb, List.foldl_append]; rfl
    · rintro σ H5 ⟨rfl, u, rfl⟩
      rw [List.length_map, List.take_length]
      obtain ⟨cs, hp, hC⟩ := hL
      have lT := B.lenT
      have el : T2[n - 1]? = some T2[n - 1] := List.getElem?_eq_getElem (by (first | lia | omega))
      obtain ⟨b, hb, hB⟩ := hC.get el
      have col : T2[n - 1].length = n := B.colT _ (List.getElem_mem _)
      have hcl : cs.length = n := by rw [hC.1]; exact lT
      have hlast := B.last (by (first | lia | omega))
      rw [getD_some el] at hlast
      have e1 : (T2[n - 1].map V.int)[(T2[n - 1].map V.int).length - 1]? = some (.int c) := by
        rw [List.length_map, col, List.getElem?_map, List.getElem?_eq_getElem (by (first | lia | omega))]
        rw [List.getD_eq_getElem?_getD, List.getElem?_eq_getElem (by (first | lia | omega))] at hlast
        simp at hlast ⊢
        exact hlast
      refine ⟨_, rfl, _, rfl, p, _, _, _, rfl, rfl, SqL.of hp, at_last (by rw [List.length_map, hcl]; exact ref_at hb), _, rfl, b, _, _, _, rfl, rfl, SqL.of hB, at_last e1, _, rfl, c, _, rfl, ?_⟩
      rw [prodB_foldl, Int.one_mul]
      have ln : (T.map cb).length = n := by rw [List.length_map]; exact ok.len
      rw [ln] at pl
      refine ⟨big2 pl (by (first | lia | omega)), fun z => absurd z (by (first | lia | omega)), fun _ t ht => q t _ ((s2.trans (s3.trans s4)).trans (same_new ht _)) ?_⟩
      have ef : frac c (prodB (T.map cb)) = fr (dt n n T) := by
        rw [frac_rat _ _ (by (first | lia | omega))]
        have : ((c : Int) : Rat) / ((prodB (T.map cb) : Int) : Rat) = dt n n T := by
          have h1 : ((prodB (T.map cb) : Int) : Rat) * dt n n T = c := by rw [← sc]; exact eD
          grind
        rw [this]; rfl
      unfold FrR
      rw [upd_same, ef]; rfl
end
end My
namespace My
open PySem L2 Mth Wd
section
variable {P : Program} {w : World} {K : PySem.W.Frag} {mg : Str → Option Value} {base : Heap} {f g C : Addr} {fd gd : FuncData}
noncomputable abbrev GivQ (H : Hp) (Q : VK) (q : Rat) : Prop := ∀ p, H p = none → Q (.ref p) (upd H p (.tup [.int q.num, .int q.den]))
noncomputable abbrev Sf (q : Rat) : Prop := Sb 3900 3900 q
theorem Sf.n {q : Rat} (h : Sf q) : Big q.num := big2 h.1 (by decide)
theorem Sf.d {q : Rat} (h : Sf q) : Big (q.den : Int) := big2 (n := 3900) (by simpa using h.2) (by decide)
theorem Sf.dd {p q : Rat} (h : Sf p) (g : Sf q) : Big ((p.den : Int) * (q.den : Int)) := by
  refine big2 (n := 7800) ?_ (by decide)
  rw [Int.natAbs_mul, Int.natAbs_natCast, Int.natAbs_natCast]
  exact pmul h.2 g.2
noncomputable def spBin (op : Rat → Rat → Rat) : Sp := fun vs H Q _ => ∃ (p q : Addr) (x y : Rat), vs = [.ref p, .ref q] ∧ FrR H p x ∧ FrR H q y ∧ Sf x ∧ Sf y ∧ GivQ H Q (op x y)
theorem scPlu : FnScope ["one", "other"] ["one", "other"] (defScope sPlus) := ⟨rfl, rfl, rfl, by decide +kernel, rfl, by decide +kernel, by decide +kernel⟩
theorem ok_plus (F : Fun K "plus" "plus" sPlus f fd) (G : FnOk P w K mg base (CXr P w) 2 g gd ["top", "bottom"] (spFrac C)) (bG : Binds K gd ["top", "bottom"] []) (kG : PySem.W.keepIn K (.ref g) = true) (mG : mg "fraction" = some (.ref g)) :
    FnOk P w K mg base CX0 3 f fd ["one", "other"] (spBin fun x y => x + y) := by
  refine F.ok scPlu (fun vs H Q E h => ?_) (fun cdv A outer s H vs Q E hr h => ?_)
  · obtain ⟨p, q, x, y, rfl, _⟩ := h
    rfl
  obtain ⟨p, q, x, y, rfl, hp, hq, sx, sy, k⟩ := h
  refine ⟨_, pss_one (ps_ret (pe_call (CX := CXr P w) G hr (by rfl) mG kG bG .nil passR0 (pa_cons (pe_op op_add (pe_op op_mulB (pe_ix ix_tup (pv 0) pe_int (fun _ _ => rfl)) (pe_ix ix_tup (pv 1) pe_int (fun _ _ => rfl))) (pe_op op_mulB (pe_ix ix_tup (pv 1) pe_int (fun _ _ => rfl)) (pe_ix ix_tup (pv 0) pe_int (fun _ _ => rfl)))) (pa_cons (pe_op op_mulB (pe_ix ix_tup (pv 0) pe_int (fun _ _ => rfl)) (pe_ix ix_tup (pv 1) pe_int (fun _ _ => rfl))) pa_nil)))), ?_⟩
  refine ⟨_, rfl, p, _, _, _, rfl, rfl, SqT.of hp, at0, _, rfl, q, _, _, _, rfl, rfl, SqT.of hq, at1, _, _, rfl, rfl, ⟨sx.n, sy.d⟩, _, rfl, q, _, _, _, rfl, rfl, SqT.of hq, at0, _, rfl, p, _, _, _, rfl, rfl, SqT.of hp, at1, _, _, rfl, rfl, ⟨sy.n, sx.d⟩, _, _, rfl, rfl,
    _, rfl, p, _, _, _, rfl, rfl, SqT.of hp, at1, _, rfl, q, _, _, _, rfl, rfl, SqT.of hq, at1, _, _, rfl, rfl, ⟨sx.d, sy.d⟩, _, _, rfl, Sf.dd sx sy, fun z => absurd z (dnz x y), fun _ t ht => ?_⟩
  have e := fr_add x y
  have q1 := k t ht
  have e1 := congrArg Prod.fst e
  have e2 := congrArg Prod.snd e
  simp only [fr] at e1 e2
  rw [e1, e2]
  exact q1
theorem scMin : FnScope ["one", "other"] ["one", "other"] (defScope sMinus) := ⟨rfl, rfl, rfl, by decide +kernel, rfl, by decide +kernel, by decide +kernel⟩
theorem ok_minus (F : Fun K "minus" "minus" sMinus f fd) (G : FnOk P w K mg base (CXr P w) 2 g gd ["top", "bottom"] (spFrac C)) (bG : Binds K gd ["top", "bottom"] []) (kG : PySem.W.keepIn K (.ref g) = true) (mG : mg "fraction" = some (.ref g)) :
    FnOk P w K mg base CX0 3 f fd ["one", "other"] (spBin fun x y => x - y) := by
  refine F.ok scMin (fun vs H Q E h => ?_) (fun cdv A outer s H vs Q E hr h => ?_)
  · obtain ⟨p, q, x, y, rfl, _⟩ := h
    rfl
  obtain ⟨p, q, x, y, rfl, hp, hq, sx, sy, k⟩ := h
  refine ⟨_, pss_one (ps_ret (pe_call (CX := CXr P w) G hr (by rfl) mG kG bG .nil passR0 (pa_cons (pe_op op_sub (pe_op op_mulB (pe_ix ix_tup (pv 0) pe_int (fun _ _ => rfl)) (pe_ix ix_tup (pv 1) pe_int (fun _ _ => rfl))) (pe_op op_mulB (pe_ix ix_tup (pv 1) pe_int (fun _ _ => rfl)) (pe_ix ix_tup (pv 0) pe_int (fun _ _ => rfl)))) (pa_cons (pe_op op_mulB (pe_ix ix_tup (pv 0) pe_int (fun _ _ => rfl)) (pe_ix ix_tup (pv 1) pe_int (fun _ _ => rfl))) pa_nil)))), ?_⟩
  refine ⟨_, rfl, p, _, _, _, rfl, rfl, SqT.of hp, at0, _, rfl, q, _, _, _, rfl, rfl, SqT.of hq, at1, _, _, rfl, rfl, ⟨sx.n, sy.d⟩, _, rfl, q, _, _, _, rfl, rfl, SqT.of hq, at0, _, rfl, p, _, _, _, rfl, rfl, SqT.of hp, at1, _, _, rfl, rfl, ⟨sy.n, sx.d⟩, _, _, rfl, rfl,
    _, rfl, p, _, _, _, rfl, rfl, SqT.of hp, at1, _, rfl, q, _, _, _, rfl, rfl, SqT.of hq, at1, _, _, rfl, rfl, ⟨sx.d, sy.d⟩, _, _, rfl, Sf.dd sx sy, fun z => absurd z (dnz x y), fun _ t ht => ?_⟩
  have e := fr_sub x y
  have q1 := k t ht
  have e1 := congrArg Prod.fst e
  have e2 := congrArg Prod.snd e
  simp only [fr] at e1 e2
  rw [e1, e2]
  exact q1
end
end My
namespace My
open PySem L2 Mth Wd
noncomputable abbrev LF : Hp → Addr → List Rat → Prop := LstR FrR
theorem mo_lf : Mo LF := fun s h => mo_lst (R := FrR) (fun s h => mo_fr s h) s h
theorem lf_del {H : Hp} {a b : Addr} {r : List Rat} {ys : List V} (h : LF H b r) (n : b ≠ a) (e : H a = some (.lst ys)) : LF (del H a) b r := by
  obtain ⟨cs, h1, h2⟩ := h
  exact ⟨cs, del_at h1 n, at_del e h2⟩
theorem fr_upd {H : Hp} {a : Addr} {bs : List Addr} {qs : List Rat} {ys : List V} (h : At FrR H bs qs) (e : H a = some (.lst ys)) (o : HO) : At FrR (upd H a o) bs qs := (at_del e h).keep mo_fr (del_up H a o)
noncomputable def RopeR (H : Hp) (b : Addr) (r : Rope) : Prop := ∃ e, H b = some (.tup [.int (r.1 : Int), .int (r.2.1 : Int), .ref e]) ∧ FrR H e r.2.2
theorem mo_rope : Mo RopeR := fun s ⟨e, h1, h2⟩ => ⟨e, s _ _ h1, s _ _ h2⟩
noncomputable def NetR (H : Hp) (a : Addr) (n : Nat) (rs : List Rope) : Prop := ∃ (r : Addr) (t : V), H a = some (.tup [.int (n : Int), .ref r, t]) ∧ TupR RopeR H r rs
theorem mo_net {H H' : Hp} {a : Addr} {n : Nat} {rs : List Rope} (s : Same H H') (h : NetR H a n rs) : NetR H' a n rs := by
  obtain ⟨r, t, h1, h2⟩ := h
  exact ⟨r, t, s _ _ h1, mo_tup (R := RopeR) (fun s h => mo_rope s h) s h2⟩
structure Mat (H : Hp) (R : Addr) (bs : List Addr) (T : List (List Rat)) : Prop where
  h1 : H R = some (.lst (bs.map V.ref))
  rows : At LF H bs T
  nd : (R :: bs).Nodup
theorem Mat.keep {H H' : Hp} {R : Addr} {bs : List Addr} {T : List (List Rat)} (M : Mat H R bs T) (s : Same H H') : Mat H' R bs T := ⟨s _ _ M.h1, M.rows.keep mo_lf s, M.nd⟩
theorem nd_at {l : List Addr} (h : l.Nodup) {i j : Nat} {b : Addr} (h1 : l[i]? = some b) (h2 : l[j]? = some b) : i = j := by
  obtain ⟨i1, e1⟩ := List.getElem?_eq_some_iff.mp h1
  obtain ⟨j1, e2⟩ := List.getElem?_eq_some_iff.mp h2
  have hp := List.pairwise_iff_getElem.mp h
  rcases Nat.lt_trichotomy i j with z | z | z
  · exact absurd (e1.trans e2.symm) (hp i j i1 j1 z)
  · exact z
  · exact absurd (e2.trans e1.symm) (hp j i j1 i1 z)
theorem Mat.put {H : Hp} {R b p : Addr} {bs cs : List Addr} {T : List (List Rat)} {i j : Nat} {v : Rat} (M : Mat H R bs T) (hb : bs[i]? = some b) (hc : H b = some (.lst (cs.map V.ref))) (hr : At FrR H cs (T.getD i [])) (hp : FrR H p v) :
    Mat (upd H b (.lst ((cs.map V.ref).set j (.ref p)))) R bs (setE T i j v) := by
  have bm : b ∈ bs := List.mem_of_getElem? hb
  obtain ⟨n1, n2⟩ := List.nodup_cons.mp M.nd
  have e1 : R ≠ b := fun z => n1 (by rw [z]; exact bm)
  refine ⟨by rw [upd_ne e1]; exact M.h1, ⟨by unfold setE; rw [List.length_set]; exact M.rows.1, fun k c x q1 q2 => ?_⟩, M.nd⟩
  unfold setE at q2
  by_cases hk : i = k
  · subst hk
    rw [hb] at q1
    cases q1
    have hl : i < T.length := by rw [← M.rows.1]; exact (List.getElem?_eq_some_iff.mp hb).1
    rw [List.getElem?_set_self hl] at q2
    cases q2
    refine ⟨cs.set j p, by rw [upd_same, List.map_set], fr_upd (hr.set j hp) hc _⟩
  · rw [List.getElem?_set_ne hk] at q2
    have ne : c ≠ b := fun z => hk (nd_at n2 hb (by rw [q1, z]))
    exact mo_lf (del_up H b _) (lf_del (M.rows.2 k c x q1 q2) ne hc)
theorem Mat.get {H : Hp} {R : Addr} {bs : List Addr} {T : List (List Rat)} {n i j : Nat} (M : Mat H R bs T) (q : Sq n T) (hi : i < n) (hj : j < n) : ∃ b cs c, bs[i]? = some b ∧ H b = some (.lst (cs.map V.ref)) ∧ At FrR H cs (T.getD i []) ∧ cs[j]? = some c ∧ FrR H c (en T i j) ∧ cs.length = n := by
  obtain ⟨l, e⟩ := q.row hi
  obtain ⟨b, hb, cs, h1, h2⟩ := M.rows.get e
  have ej : (T.getD i [])[j]? = some ((T.getD i [])[j]'(by (first | lia | omega))) := List.getElem?_eq_getElem _
  obtain ⟨c, h3, h4⟩ := h2.get ej
  refine ⟨b, cs, c, hb, h1, h2, h3, ?_, by rw [h2.1]; exact l⟩
  have : en T i j = (T.getD i [])[j]'(by (first | lia | omega)) := by unfold en; rw [List.getD_eq_getElem?_getD, ej]; rfl
  rw [this]; exact h4
theorem rep_ref (n : Nat) (t : Addr) : (List.replicate n [V.ref t]).flatten = (List.replicate n t).map V.ref := by
  induction n with
  | zero => rfl
  | succ n ih => rw [List.replicate_succ, List.flatten_cons, ih, List.replicate_succ]; rfl
section
variable {P : Program} {w : World} {K : PySem.W.Frag} {mg : Str → Option Value} {base : Heap} {f g h C f1 f2 : Addr} {fd gd hd d1 d2 : FuncData}
theorem rd_put {σ : St} {H H0 : Hp} {D : Ends} {op : Rat → Rat → Rat} {R e : Addr} {bs : List Addr} {T : List (List Rat)} {n i j a b : Nat} {q : Rat} (hR : σ[1]? = some (some (.ref R))) (ha : σ[a]? = some (some (.int (i : Int)))) (hb : σ[b]? = some (some (.int (j : Int)))) (he : σ[4]? = some (some (.ref e)))
    (M : Mat H R bs T) (sq : Sq n T) (hi : i < n) (hj : j < n) (fe : FrR H e q) (s1 : Sf (en T i j)) (s2 : Sf q) (sm : Same H0 H) (fr : ∀ b ∈ bs, H0 b = none)
    (k : ∀ H', Same H0 H' → Mat H' R bs (setE T i j (op (en T i j) q)) → FrR H' e q → D.nx σ H') :
    tAsg (tCall (spBin op) [] E0 (tCons (tOp (rIxL K) (tOp (rIxL K) (tVar 1) (tVar a)) (tVar b)) (tCons (tVar 4) tNil))) (gSub (tOp (rIxL K) (tVar 1) (tVar a)) (tVar b) rSetL) D σ H := by
  obtain ⟨b1, cs, c, h1, h2, h3, h4, h5, h6⟩ := M.get sq hi hj
  refine ⟨_, hR, _, ha, R, _, _, _, rfl, rfl, SqL.of M.h1, atI_nat (ref_at h1), _, hb, b1, _, _, _, rfl, rfl, SqL.of h2, atI_nat (ref_at h4), _, he, c, e, _, _, rfl, h5, fe, s1, s2, fun p hp => ?_⟩
  have s3 := same_new hp (.tup [.int (op (en T i j) q).num, .int (op (en T i j) q).den])
  refine ⟨_, hR, _, ha, R, _, _, _, rfl, rfl, SqL.of (s3 _ _ M.h1), atI_nat (ref_at h1), _, hb, b1, _, _, _, rfl, rfl, s3 _ _ h2, ixN_nat (by rw [List.length_map]; (first | lia | omega)), ?_⟩
  have bn : H0 b1 = none := fr b1 (List.mem_of_getElem? h1)
  refine k _ (same_up (sm.trans s3) bn _) ((M.keep s3).put h1 (s3 _ _ h2) (h3.keep mo_fr s3) upd_same) ?_
  exact mo_fr (del_up _ b1 _) (FrR.del (s3 _ _ fe) (s3 _ _ h2))
noncomputable def spETab : Sp := fun vs H Q _ => ∃ (a : Addr) (n α β : Nat) (rs : List Rope), vs = [.ref a] ∧ NetR H a n rs ∧ n ≤ 100 ∧ rs.length ≤ 100 ∧ (∀ r ∈ rs, r.1 < n ∧ r.2.1 < n ∧ Sb α β r.2.2) ∧ α + (β + 1) * rs.length ≤ 3900 ∧ β * rs.length ≤ 3900 ∧
  ∀ p H', Same H H' → TupR (TupR FrR) H' p (lapT n rs) → Q (.ref p) H'
theorem scET : FnScope ["net", "rows", "one", "other", "ease"] ["net"] (defScope sEaseTable) := ⟨rfl, rfl, rfl, by decide +kernel, rfl, by decide +kernel, by decide +kernel⟩
theorem ndPN : (["place", "net"] : List Str).Nodup := by decide +kernel
theorem ndRo' : (["row"] : List Str).Nodup := by decide +kernel
noncomputable def rTupOf (K : PySem.W.Frag) : List V → Hp → VK → Prop := fun xs H Q => ∃ p ys, xs = [.ref p] ∧ ((SqL K H p ys ∧ ∀ l, H l = none → Q (.ref l) (upd H l (.tup ys))) ∨ (SqT K H p ys ∧ Q (.ref p) H))
theorem tfd' {H : Hp} {a b : Addr} {r : List Rat} {ys : List V} (h : TupR FrR H b r) (e : H a = some (.lst ys)) : TupR FrR (del H a) b r := by
  obtain ⟨cs, h1, h2⟩ := h
  exact ⟨cs, del_at h1 (fun z => by rw [z, e] at h1; cases h1), at_del e h2⟩
theorem mo_tf' : Mo (TupR FrR) := fun s h => mo_tup (R := FrR) (fun s h => mo_fr s h) s h
theorem lapR_sb {α β : Nat} {r : Rope} (h : Sb α β r.2.2) (i j : Nat) : lapR r i j = 0 ∨ lapR r i j = r.2.2 ∨ lapR r i j = -r.2.2 := by
  unfold lapR
  by_cases e : r.1 = r.2.1
  · rw [if_pos e]; exact .inl rfl
  · rw [if_neg e]
    by_cases a : i = r.1 ∧ j = r.1
    · have b : ¬ (i = r.2.1 ∧ j = r.2.1) := fun z => e (a.1.symm.trans z.1)
      have c : ¬ (i = r.1 ∧ j = r.2.1) := fun z => e (a.2.symm.trans z.2)
      have d : ¬ (i = r.2.1 ∧ j = r.1) := fun z => e (a.1.symm.trans z.1)
      rw [if_pos a, if_neg b, if_neg c, if_neg d]; right; left; grind
    · rw [if_neg a]
      by_cases b : i = r.2.1 ∧ j = r.2.1
      · have c : ¬ (i = r.1 ∧ j = r.2.1) := fun z => e (z.1.symm.trans b.1)
        have d : ¬ (i = r.2.1 ∧ j = r.1) := fun z => e (z.2.symm.trans b.2)
        rw [if_pos b, if_neg c, if_neg d]; right; left; grind
      · rw [if_neg b]
        by_cases c : i = r.1 ∧ j = r.2.1
        · have d : ¬ (i = r.2.1 ∧ j = r.1) := fun z => e (c.1.symm.trans z.1)
          rw [if_pos c, if_neg d]; right; right; grind
        · rw [if_neg c]
          by_cases d : i = r.2.1 ∧ j = r.1
          · rw [if_pos d]; right; right; grind
          · rw [if_neg d]; left; grind
noncomputable def TS (n α β k : Nat) (T : List (List Rat)) : Prop := Sq n T ∧ ∀ i j, Sb (α + (β + 1) * k) (β * k) (en T i j)
theorem TS.zero (n α β : Nat) : TS n α β 0 (zeroT n) := ⟨zero_sq n, fun i j => by rw [en_zero]; exact Sb.zero.mono (Nat.zero_le _) (Nat.zero_le _)⟩
theorem TS.one {n α β k : Nat} {T : List (List Rat)} (h : TS n α β k T) {q : Rat} (hq : Sb α β q) (i j : Nat) : Sb (α + (β + 1) * (k + 1)) (β * (k + 1)) (en T i j + q) ∧ Sb (α + (β + 1) * (k + 1)) (β * (k + 1)) (en T i j - q) := by
  have m1 : β * k ≤ (β + 1) * k := Nat.mul_le_mul_right _ (by (first | lia | omega))
  constructor
  · have := (h.2 i j).add hq (N := α + (β + 1) * k + β) (by (first | lia | omega)) (by (first | lia | omega))
    exact this.mono (by rw [Nat.mul_succ]; (first | lia | omega)) (by rw [Nat.mul_succ]; (first | lia | omega))
  · have := (h.2 i j).sub hq (N := α + (β + 1) * k + β) (by (first | lia | omega)) (by (first | lia | omega))
    exact this.mono (by rw [Nat.mul_succ]; (first | lia | omega)) (by rw [Nat.mul_succ]; (first | lia | omega))
theorem TS.step {n α β k : Nat} {T : List (List Rat)} (h : TS n α β k T) {r : Rope} (h1 : r.1 < n) (h2 : r.2.1 < n) (hq : Sb α β r.2.2) : TS n α β (k + 1) (lapStep T r) := by
  obtain ⟨a, b⟩ := lapStep_ok h.1 h1 h2
  refine ⟨a, fun i j => ?_⟩
  rw [b]
  have o := h.one hq i j
  rcases lapR_sb hq i j with e | e | e
  · rw [e, Rat.add_zero]
    exact (h.2 i j).mono (by rw [Nat.mul_succ]; (first | lia | omega)) (by rw [Nat.mul_succ]; (first | lia | omega))
  · rw [e]; exact o.1
  · rw [e, ← Rat.sub_eq_add_neg]; exact o.2
theorem ok_etab (F : Fun K "ease_table" "ease_table" sEaseTable f fd) (G1 : FnOk P w K mg base CX0 3 f1 d1 ["one", "other"] (spBin fun x y => x + y)) (b1 : Binds K d1 ["one", "other"] []) (k1 : PySem.W.keepIn K (.ref f1) = true) (m1 : mg "plus" = some (.ref f1))
    (G2 : FnOk P w K mg base CX0 3 f2 d2 ["one", "other"] (spBin fun x y => x - y)) (b2 : Binds K d2 ["one", "other"] []) (k2 : PySem.W.keepIn K (.ref f2) = true) (m2 : mg "minus" = some (.ref f2)) (mr : mg "range" = none) (mt : mg "tuple" = none) :
    FnOk P w K mg base CX0 4 f fd ["net"] spETab := by
  refine F.ok scET (fun vs H Q E h => ?_) (fun cdv A outer s H vs Q E hr h => ?_)
  · obtain ⟨a, n, α, β, rs, rfl, _⟩ := h
    rfl
  obtain ⟨a, n, α, β, rs, rfl, ⟨ra, tv, ha, bs, hra, hRs⟩, hn, hm, hrs, z1, z2, q⟩ := h
  refine ⟨_, pss_cons (ps_setComp (i := 1) scET.nd rfl (Or.inl rfl) (Nc := ["place", "net"]) (cap := [(1, 0)]) (g := gName 0) (te := tOp rRep (tLst (tCons (tTup (tCons (tC (.int 0)) (tCons (tC (.int 1)) tNil))) tNil)) (tOp (rIxT K) (tVar 1) (tC (.int 0)))) rfl (pi_range1 (by rfl) mr (pa_cons (pe_ix ix_tup (pv 0) pe_int (fun _ _ => rfl)) pa_nil))
      (comp_mk rfl rfl (by decide +kernel) (by decide +kernel) (List.forall_mem_cons.mpr ⟨⟨rfl, rfl⟩, List.forall_mem_nil _⟩) rfl (List.forall_mem_cons.mpr ⟨⟨_, _, rfl, rfl, rfl, rfl, rfl⟩, List.forall_mem_nil _⟩))
      (fun C fp pins s' H' => pg_name (i := 0) ndPN rfl (Or.inl rfl)) (fun C fp pins s' H' => pe_op op_rep (pe_lst (pa_cons (pe_tup (pa_cons pe_int (pa_cons pe_int pa_nil))) pa_nil)) (pe_ix ix_tup (pv 1) pe_int (fun _ _ => rfl))))
    (pss_cons (ps_for PassesOwn.never rfl (pi_tup (pe_ix ix_tup (pv 0) pe_int (fun _ _ => rfl))) (pg_tup rfl (pgs_cons (pg_name (i := 2) scET.nd rfl (Or.inl rfl)) (pgs_cons (pg_name (i := 3) scET.nd rfl (Or.inl rfl)) (pgs_cons (pg_name (i := 4) scET.nd rfl (Or.inl rfl)) pgs_nil))))
      (pss_one (ps_if (pt_cmpR op_ne (pv 2) (pv 3) (nomark _))
        (pss_cons (ps_asg (pe_call G1 hr (by rfl) m1 k1 b1 .nil pass0 (pa_cons (pe_ix ix_list (pe_ix ix_list (pv 1) (pv 2) (fun _ _ => rfl)) (pv 2) (fun _ _ => rfl)) (pa_cons (pv 4) pa_nil))) (pg_sub (pe_ix ix_list (pv 1) (pv 2) (fun _ _ => rfl)) (pv 2) set_list))
        (pss_cons (ps_asg (pe_call G1 hr (by rfl) m1 k1 b1 .nil pass0 (pa_cons (pe_ix ix_list (pe_ix ix_list (pv 1) (pv 3) (fun _ _ => rfl)) (pv 3) (fun _ _ => rfl)) (pa_cons (pv 4) pa_nil))) (pg_sub (pe_ix ix_list (pv 1) (pv 3) (fun _ _ => rfl)) (pv 3) set_list))
        (pss_cons (ps_asg (pe_call G2 hr (by rfl) m2 k2 b2 .nil pass0 (pa_cons (pe_ix ix_list (pe_ix ix_list (pv 1) (pv 2) (fun _ _ => rfl)) (pv 3) (fun _ _ => rfl)) (pa_cons (pv 4) pa_nil))) (pg_sub (pe_ix ix_list (pv 1) (pv 2) (fun _ _ => rfl)) (pv 3) set_list))
        (pss_one (ps_asg (pe_call G2 hr (by rfl) m2 k2 b2 .nil pass0 (pa_cons (pe_ix ix_list (pe_ix ix_list (pv 1) (pv 3) (fun _ _ => rfl)) (pv 2) (fun _ _ => rfl)) (pa_cons (pv 4) pa_nil))) (pg_sub (pe_ix ix_list (pv 1) (pv 3) (fun _ _ => rfl)) (pv 2) set_list)))))) pss_nil)))
    (pss_one (ps_ret (pe_callTy call_tuple_of (by rfl) mt bt_tuple (pa_cons (pe_comp (Nc := ["row"]) (cap := []) (g := gName 0) (te := tCB (rTupOf K) (tCons (tVar 0) tNil)) rfl (pi_list (pv 1))
      (comp_mk rfl rfl (by decide +kernel) (by decide +kernel) (List.forall_mem_nil _) rfl (List.forall_mem_nil _)) (fun C fp pins s' H' => pg_name (i := 0) ndRo' rfl (Or.inl rfl)) (fun C fp pins s' H' => pe_callTy call_tuple_of (by rfl) mt bt_tuple (pa_cons (pv 0) pa_nil))) pa_nil))))), ?_⟩
  have at0' : ∀ x y z : V, atI [x, y, z] 0 = some x := fun x y z => atI_nat (j := 0) rfl
  have at1' : ∀ x y z : V, atI [x, y, z] 1 = some y := fun x y z => atI_nat (j := 1) rfl
  -- rows of noughts
  refine ⟨_, rfl, a, _, _, _, rfl, rfl, SqT.of ha, at0' _ _ _, ((n : Nat) : Int), rfl, by (first | lia | omega), by (first | lia | omega), fun acc hacc => ?_⟩
  rw [show ((n : Nat) : Int).toNat = n by (first | lia | omega)]
  refine comp_run run_range (by (first | lia | omega)) hacc (fun i ys σ hp => ∃ ds : List Addr, ys = ds.map V.ref ∧ At LF hp ds (List.replicate i (List.replicate n 0)) ∧ ds.Nodup ∧ (∀ d ∈ ds, H d = none) ∧ ∃ u, σ = [u, some (.ref a)]) ⟨[], rfl, At.nil, by simp, by simp, none, rfl⟩ ?_ ?_
  · rintro i ys σ H2 x H3 hi sm hacc2 ⟨ds, rfl, hD, nd, fr, u, rfl⟩ ⟨rfl, rfl⟩ Cc hC
    refine ⟨by show 2 ≤ sizeLine; decide, fun t ht => ⟨by show 1 ≤ sizeLine; decide, fun l hl => ?_⟩⟩
    have s1 := same_new ht (.tup [.int 0, .int 1])
    have e1 : FrR (upd H3 t (.tup [.int 0, .int 1])) t 0 := upd_same
    generalize upd H3 t (.tup [.int 0, .int 1]) = H4 at s1 e1 hl
    have s2 := same_new hl (.lst [.ref t])
    have e2 : (upd H4 l (.lst [.ref t])) l = some (.lst [.ref t]) := upd_same
    generalize upd H4 l (.lst [.ref t]) = H5 at s2 e2
    have s12 := s1.trans s2
    refine ⟨_, rfl, a, _, _, _, rfl, rfl, SqT.of (s12 _ _ (sm _ _ ha)), at0' _ _ _, l, ((n : Nat) : Int), [.ref t], rfl, rfl, e2, by (first | lia | omega), by (first | lia | omega), by simp; exact szle (by (first | lia | omega)), fun p hp => ?_⟩
    rw [show ((n : Nat) : Int).toNat = n by (first | lia | omega)]
    rw [rep_ref]
    have s3 := same_new hp (.lst ((List.replicate n t).map V.ref))
    have s13 := s12.trans s3
    have pacc : p ≠ acc := fun z => by rw [z, s12 _ _ hacc2] at hp; cases hp
    have pf : H p = none := (sm.trans s12).free hp
    refine hC _ _ _ s13 ⟨ds ++ [p], by simp, ?_, ?_, ?_, _, rfl⟩
    · rw [List.replicate_succ']
      refine (hD.keep mo_lf (del_mono acc s13)).snoc (lf_del ⟨List.replicate n t, upd_same, ⟨by simp, fun k c y e3 e4 => ?_⟩⟩ pacc (s13 _ _ hacc2))
      rw [List.getElem?_replicate] at e3 e4
      split at e3
      · rename_i hk
        rw [if_pos hk] at e4
        cases e3; cases e4
        exact mo_fr (s2.trans s3) e1
      · cases e3
    · rw [List.nodup_append]
      refine ⟨nd, by simp, fun x hx y hy z => ?_⟩
      rw [List.mem_singleton] at hy
      subst hy
      subst z
      obtain ⟨k, hk, ek⟩ := List.getElem_of_mem hx
      have hl2 : k < (List.replicate i (List.replicate n (0 : Rat))).length := by rw [← hD.1]; exact hk
      obtain ⟨cs, h1, _⟩ := hD.2 k x _ (by rw [List.getElem?_eq_getElem hk, ek]) (List.getElem?_eq_getElem hl2)
      have := s12 _ _ (del_sub _ _ _ _ h1)
      rw [this] at hp; cases hp
    · intro d hd'
      rcases List.mem_append.mp hd' with h' | h'
      · exact fr d h'
      · rw [List.mem_singleton] at h'; rw [h']; exact pf
  rintro ys σ1 H2 s2 hacc2 hl2 ⟨ds, rfl, hD, nd, fr, u, rfl⟩
  have M0 : Mat H2 acc ds (zeroT n) := by
    refine ⟨hacc2, hD.keep mo_lf (del_sub H2 acc), List.nodup_cons.mpr ⟨fun z => ?_, nd⟩⟩
    obtain ⟨k, hk, ek⟩ := List.getElem_of_mem z
    have hl2 : k < (List.replicate n (List.replicate n (0 : Rat))).length := by rw [← hD.1]; exact hk
    obtain ⟨cs, h1, _⟩ := hD.2 k acc _ (by rw [List.getElem?_eq_getElem hk, ek]) (List.getElem?_eq_getElem hl2)
    rw [del_self] at h1; cases h1
  have fr2 : ∀ b ∈ ds, H b = none := fr
  refine ⟨_, rfl, a, _, _, _, rfl, rfl, SqT.of (s2 _ _ ha), at1' _ _ _, ra, rfl, ⟨_, SqT.of (s2 _ _ hra)⟩, ?_⟩
  refine for_tup (xs := bs.map V.ref) (fun k σ H3 => Same H H3 ∧ (∃ u2 u3 u4, σ = [some (.ref a), some (.ref acc), u2, u3, u4]) ∧ Mat H3 acc ds ((rs.take k).foldl lapStep (zeroT n)) ∧ TS n α β k ((rs.take k).foldl lapStep (zeroT n)))
    ⟨s2, ⟨none, none, none, rfl⟩, M0, TS.zero n α β⟩ (fun k σ H3 _ ⟨s3, _⟩ => SqT.of (s3 _ _ hra)) ?_ ?_
  · rintro k x σ H3 hx ⟨s3, ⟨u2, u3, u4, rfl⟩, M, ts⟩
    obtain ⟨c, r, rfl, _, hr', e, hc, he⟩ := hRs.ref hx
    have rm : r ∈ rs := List.mem_of_getElem? hr'
    obtain ⟨r1, r2, rq⟩ := hrs r rm
    have hk : k < rs.length := (List.getElem?_eq_some_iff.mp hr').1
    have stp := ts.step r1 r2 rq
    rw [take_succ_of hr', List.foldl_append]
    show gTup K 3 _ _ _ _ _
    refine ⟨c, _, rfl, SqT.of (s3 _ _ hc), rfl, _, _, rfl, _, _, rfl, _, _, rfl, rfl, ?_⟩
    have fin : ∀ (T' : List (List Rat)), T' = lapStep ((rs.take k).foldl lapStep (zeroT n)) r → List.foldl lapStep (List.foldl lapStep (zeroT n) (List.take k rs)) [r] = T' := fun T' h => h.symm
    refine ⟨_, rfl, _, rfl, rfl, _, rfl, ?_⟩
    generalize hT : (rs.take k).foldl lapStep (zeroT n) = T at M ts stp
    have zk1 : (β + 1) * (k + 1) ≤ (β + 1) * rs.length := Nat.mul_le_mul_left _ hk
    have zk2 : β * (k + 1) ≤ β * rs.length := Nat.mul_le_mul_left _ hk
    have zk3 : β * rs.length + rs.length = (β + 1) * rs.length := by rw [Nat.add_mul, Nat.one_mul]
    have up : ∀ {x : Rat}, Sb (α + (β + 1) * (k + 1)) (β * (k + 1)) x → Sf x := fun h => h.mono (by (first | lia | omega)) (by (first | lia | omega))
    have lo : ∀ i j, Sf (en T i j) := fun i j => up ((ts.2 i j).mono (by rw [Nat.mul_succ]; (first | lia | omega)) (by rw [Nat.mul_succ]; (first | lia | omega)))
    have sq : Sf r.2.2 := by
      have b1' : β ≤ β * rs.length := Nat.le_mul_of_pos_right _ (by (first | lia | omega))
      exact rq.mono (by (first | lia | omega)) (by (first | lia | omega))
    by_cases eq : r.1 = r.2.1
    · refine iteNS (iv (by rw [eq])) ⟨s3, ⟨_, _, _, rfl⟩, ?_, ?_⟩
      · have : List.foldl lapStep T [r] = T := by show lapStep T r = T; unfold lapStep; rw [if_pos eq]
        rw [this]; exact M
      · show TS n α β (k + 1) (lapStep T r)
        exact stp
    · refine iteNN (ivn (by (first | lia | omega))) ?_
      have sq0 := ts.1
      refine rd_put (i := r.1) (j := r.1) (a := 2) (b := 2) (op := fun x y => x + y) rfl rfl rfl rfl M sq0 r1 r1 (s3 _ _ he) (lo _ _) sq s3 fr2 fun H4 s4 M4 f4 => ?_
      have q1 := sq0.set (j := r.1) (v := en T r.1 r.1 + r.2.2) r1
      have e1 := en_setE sq0 (v := en T r.1 r.1 + r.2.2) r1 r1
      generalize hT1 : setE T r.1 r.1 (en T r.1 r.1 + r.2.2) = T1 at M4 q1 e1
      have g1 : en T1 r.2.1 r.2.1 = en T r.2.1 r.2.1 := by rw [e1, if_neg (fun z => eq z.1.symm)]
      refine rd_put (i := r.2.1) (j := r.2.1) (a := 3) (b := 3) (op := fun x y => x + y) rfl rfl rfl rfl M4 q1 r2 r2 f4 (by rw [g1]; exact lo _ _) sq s4 fr2 fun H5 s5 M5 f5 => ?_
      have q2 := q1.set (j := r.2.1) (v := en T1 r.2.1 r.2.1 + r.2.2) r2
      have e2 := en_setE q1 (v := en T1 r.2.1 r.2.1 + r.2.2) r2 r2
      generalize hT2 : setE T1 r.2.1 r.2.1 (en T1 r.2.1 r.2.1 + r.2.2) = T2 at M5 q2 e2
      have g2 : en T2 r.1 r.2.1 = en T r.1 r.2.1 := by rw [e2, if_neg (fun z => eq z.1), e1, if_neg (fun z => eq z.2.symm)]
      refine rd_put (i := r.1) (j := r.2.1) (a := 2) (b := 3) (op := fun x y => x - y) rfl rfl rfl rfl M5 q2 r1 r2 f5 (by rw [g2]; exact lo _ _) sq s5 fr2 fun H6 s6 M6 f6 => ?_
      have q3 := q2.set (j := r.2.1) (v := en T2 r.1 r.2.1 - r.2.2) r1
      have e3 := en_setE q2 (v := en T2 r.1 r.2.1 - r.2.2) r1 r2
      generalize hT3 : setE T2 r.1 r.2.1 (en T2 r.1 r.2.1 - r.2.2) = T3 at M6 q3 e3
      have g3 : en T3 r.2.1 r.1 = en T r.2.1 r.1 := by rw [e3, if_neg (fun z => eq z.1.symm), e2, if_neg (fun z => eq z.2), e1, if_neg (fun z => eq z.1.symm)]
      refine rd_put (i := r.2.1) (j := r.1) (a := 3) (b := 2) (op := fun x y => x - y) rfl rfl rfl rfl M6 q3 r2 r1 f6 (by rw [g3]; exact lo _ _) sq s6 fr2 fun H7 s7 M7 f7 => ?_
      refine ⟨s7, ⟨_, _, _, rfl⟩, ?_, stp⟩
      have : List.foldl lapStep T [r] = setE T3 r.2.1 r.1 (en T3 r.2.1 r.1 - r.2.2) := by
        show lapStep T r = _
        unfold lapStep
        rw [if_neg eq]
        simp only [hT1, hT2, hT3]
      rw [this]
      exact M7
  · rintro σ H3 ⟨s3, ⟨u2, u3, u4, rfl⟩, M, ts⟩
    rw [List.length_map, hRs.1, List.take_length] at M ts
    have lds : ds.length = n := by rw [hD.1]; simp
    refine ⟨_, rfl, acc, rfl, ⟨_, SqL.of M.h1⟩, fun ac2 hac2 => ?_⟩
    refine comp_run (run_list M.h1) (by rw [List.length_map]; (first | lia | omega)) hac2 (fun i ys σ hp => ∃ gs : List Addr, ys = gs.map V.ref ∧ At (TupR FrR) hp gs ((rs.foldl lapStep (zeroT n)).take i) ∧ ∃ u, σ = [u]) ⟨[], rfl, At.nil, none, rfl⟩ ?_ ?_
    · rintro i ys σ H4 x H5 hi s4 hac4 ⟨gs, rfl, hG, u, rfl⟩ ⟨rfl, hx⟩ Cc hC
      obtain ⟨b, row, rfl, _, hy, cs, hB, hCs⟩ := M.rows.ref hx
      have hB2 := s4 _ _ hB
      refine ⟨_, rfl, b, _, rfl, .inl ⟨SqL.of hB2, fun p hp => ?_⟩⟩
      have sp := same_new hp (.tup (cs.map V.ref))
      refine hC _ _ _ sp ⟨gs ++ [p], by simp, ?_, _, rfl⟩
      rw [take_succ_of hy]
      exact (hG.keep mo_tf' (del_mono ac2 sp)).snoc (tfd' ⟨cs, upd_same, hCs.keep mo_fr (s4.trans sp)⟩ (sp _ _ hac4))
    · rintro ys σ H4 s4 ha4 hl4 ⟨gs, rfl, hG, u, rfl⟩
      rw [List.length_map, lds, List.take_of_length_le (by rw [ts.1.len]; exact Nat.le_refl _)] at hG
      refine ⟨ac2, _, rfl, .inl ⟨SqL.of ha4, fun p hp => ?_⟩⟩
      have sp := same_new hp (.tup (gs.map V.ref))
      exact q p _ ((s3.trans s4).trans sp) ⟨gs, upd_same, (hG.keep mo_tf' (del_sub H4 ac2)).keep mo_tf' sp⟩
end
end My
namespace My
open PySem L2 Mth Wd
section
variable {P : Program} {w : World} {K : PySem.W.Frag} {mg : Str → Option Value} {base : Heap} {f g h C C2 f1 f2 f3 f4 : Addr} {fd gd hd d1 d2 d3 d4 : FuncData}
theorem sIx2 {n : Nat} (h : 2 ≤ n) : HT.sIx n 0 (some 2) = 2 := by simp [HT.sIx]; (first | lia | omega)
noncomputable def spPole : Sp := fun vs H Q _ => ∃ (a : Addr) (T : List (List Rat)) (n : Nat), vs = [.ref a] ∧ TupR (TupR FrR) H a T ∧ Sq (n+2) T ∧ n ≤ 100 ∧ ∀ p H', Same H H' → TupR (TupR FrR) H' p (cutT T) → Q (.ref p) H'
theorem scPo : FnScope ["table"] ["table"] (defScope sPoleless) := ⟨rfl, rfl, rfl, by decide +kernel, rfl, by decide +kernel, by decide +kernel⟩
theorem ok_pole (F : Fun K "poleless" "poleless" sPoleless f fd) (mt : mg "tuple" = none) : FnOk P w K mg base CX0 1 f fd ["table"] spPole := by
  refine F.ok scPo (fun vs H Q E h => ?_) (fun cdv A outer s H vs Q E hr h => ?_)
  · obtain ⟨a, T, n, rfl, _⟩ := h
    rfl
  obtain ⟨a, T, n, rfl, ⟨bs, ha, hA⟩, sq, hn, q⟩ := h
  refine ⟨_, pss_one (ps_ret (pe_callTy call_tuple_of (by rfl) mt bt_tuple (pa_cons (pe_comp (Nc := ["row"]) (cap := []) (g := gName 0) (te := tSl (rSlT K) (tVar 0) (tPart (tC (.int 2))) tNoPart) rfl (pi_tup (pe_slice sl_tup (pv 0) (po_some pe_int) po_none))
      (comp_mk rfl rfl (by decide +kernel) (by decide +kernel) (List.forall_mem_nil _) rfl (List.forall_mem_nil _)) (fun C fp pins s' H' => pg_name (i := 0) ndRo' rfl (Or.inl rfl)) (fun C fp pins s' H' => pe_slice sl_tup (pv 0) (po_some pe_int) po_none)) pa_nil))), ?_⟩
  have lb : bs.length = n + 2 := by rw [hA.1]; exact sq.len
  refine ⟨_, rfl, 2, rfl, a, _, rfl, SqT.of ha, fun z => ?_, fun p0 hp0 => ?_⟩
  · have := z.1
    rw [sIx2 (by rw [List.length_map]; (first | lia | omega))] at this
    cases this
  rw [show cutV (bs.map V.ref) (some 2) none = (bs.drop 2).map V.ref by rw [show (some (2 : Int)) = some ((2 : Nat) : Int) from rfl, cut_drop _ (by rw [List.length_map]; (first | lia | omega)), List.map_drop]]
  have s0 := same_new hp0 (.tup ((bs.drop 2).map V.ref))
  have h0 : (upd H p0 (.tup ((bs.drop 2).map V.ref))) p0 = some (.tup ((bs.drop 2).map V.ref)) := upd_same
  generalize upd H p0 (.tup ((bs.drop 2).map V.ref)) = H1 at s0 h0
  have hA1 := (hA.keep mo_tf' s0).drop 2
  refine ⟨p0, rfl, ⟨_, SqT.of h0⟩, fun acc hacc => ?_⟩
  refine comp_run (run_tup h0) (by rw [List.length_map, List.length_drop]; (first | lia | omega)) hacc (fun i ys σ hp => ∃ ds : List Addr, ys = ds.map V.ref ∧ At (TupR FrR) hp ds ((cutT T).take i) ∧ ∃ u, σ = [u]) ⟨[], rfl, At.nil, none, rfl⟩ ?_ ?_
  · rintro i ys σ H2 x H3 hi sm hacc2 ⟨ds, rfl, hD, u, rfl⟩ ⟨rfl, hx⟩ Cc hC
    obtain ⟨b, row, rfl, _, hy, cs, hB, hCs⟩ := hA1.ref hx
    have hB2 := sm _ _ hB
    have rl : row.length = n + 2 := sq.col row (List.mem_of_mem_drop (List.mem_of_getElem? hy))
    have cl : cs.length = n + 2 := by rw [hCs.1]; exact rl
    refine ⟨_, rfl, 2, rfl, b, _, rfl, SqT.of hB2, fun z => ?_, fun p hp => ?_⟩
    · have := z.1
      rw [sIx2 (by rw [List.length_map]; (first | lia | omega))] at this
      cases this
    rw [show cutV (cs.map V.ref) (some 2) none = (cs.drop 2).map V.ref by rw [show (some (2 : Int)) = some ((2 : Nat) : Int) from rfl, cut_drop _ (by rw [List.length_map]; (first | lia | omega)), List.map_drop]]
    have sp := same_new hp (.tup ((cs.drop 2).map V.ref))
    refine hC _ _ _ sp ⟨ds ++ [p], by simp, ?_, _, rfl⟩
    have ec : (cutT T)[i]? = some (row.drop 2) := by unfold cutT; rw [List.getElem?_map, hy]; rfl
    rw [take_succ_of ec]
    exact (hD.keep mo_tf' (del_mono acc sp)).snoc (tfd' ⟨cs.drop 2, upd_same, (hCs.keep mo_fr (sm.trans sp)).drop 2⟩ (sp _ _ hacc2))
  · rintro ys σ H4 s4 ha4 hl4 ⟨gs, rfl, hG, u, rfl⟩
    rw [List.length_map, List.length_drop, List.take_of_length_le (by rw [(cut_len sq).1]; (first | lia | omega))] at hG
    refine ⟨acc, _, rfl, .inl ⟨SqL.of ha4, fun p hp => ?_⟩⟩
    have sp := same_new hp (.tup (gs.map V.ref))
    exact q p _ ((s0.trans s4).trans sp) ⟨gs, upd_same, (hG.keep mo_tf' (del_sub H4 acc)).keep mo_tf' sp⟩
end
end My
namespace My
open PySem L2 Mth Wd
section
variable {P : Program} {w : World} {K : PySem.W.Frag} {mg : Str → Option Value} {base : Heap} {f g h f1 f2 : Addr} {fd gd hd d1 d2 : FuncData}
noncomputable abbrev CellR (z : Int) : Prop := 0 ≤ z ∧ z < 2147483587
noncomputable def spCell (K : PySem.W.Frag) : Sp := fun vs H Q _ => ∃ (a : Addr) (ns : List Int) (k : Int), vs = [.ref a, .int k] ∧ ScA K H a ns ∧ 0 ≤ k ∧ ∀ z, CellR z → Q (.int z) H
theorem scCe : FnScope ["_law_script", "_law_k", "_law_cell_here"] ["_law_script", "_law_k"] (defScope sCellAt) := ⟨rfl, rfl, rfl, by decide +kernel, rfl, by decide +kernel, by decide +kernel⟩
theorem ok_cell (F : Fun K "_law_cell" "_law_cell" sCellAt f fd) (ml : mg "len" = none) : FnOk P w K mg base CX0 1 f fd ["_law_script", "_law_k"] (spCell K) := by
  refine F.ok scCe (fun vs H Q E h => ?_) (fun cdv A outer s H vs Q E hr h => ?_)
  · obtain ⟨a, ns, k, rfl, _⟩ := h
    rfl
  obtain ⟨a, ns, k, rfl, ⟨hS, hl⟩, h0, q⟩ := h
  refine ⟨_, pss_cons (ps_set (i := 2) scCe.nd rfl (Or.inl rfl) (pe_op op_add (pv 1) pe_int))
    (pss_cons (ps_if (pt_cmpR op_lt (pv 1) (pe_callB call_len_seq (by rfl) ml bt_len (pa_cons (pv 0) pa_nil)) (nomark _))
      (pss_one (ps_set (i := 2) scCe.nd rfl (Or.inl rfl) (pe_op op_add (pe_op op_add (pe_op op_mul (pe_op op_mod (pe_ix ix_list (pv 0) (pv 1) (fun _ _ => rfl)) (pe_op op_pow pe_int pe_int)) pe_int) (pv 1)) pe_int))) pss_nil)
    (pss_one (ps_ret (pe_op op_mod (pe_op op_mul (pe_op op_mod (pe_op op_mul (pv 2) pe_int) pe_int) pe_int) pe_int)))), ?_⟩
  refine ⟨_, rfl, _, _, rfl, rfl, _, rfl, _, rfl, a, _, rfl, .inl hS, _, _, rfl, rfl, _, rfl, ?_⟩
  have fin : ∀ x : Int, tRet (tOp (rI (fun _ j => 0 < j) fun i j => .int (i % j)) (tOp (rI CMul fun i j => .int (i * j)) (tOp (rI (fun _ j => 0 < j) fun i j => .int (i % j)) (tOp (rI CMul fun i j => .int (i * j)) (tVar 2) (tC (.int 40692))) (tC (.int 2147483629))) (tC (.int 48271))) (tC (.int 2147483587)))
      { nx := fun _ H' => Q .non H', rt := Q } [some (.ref a), some (.int k), some (.int x)] H := fun x =>
    ⟨_, rfl, _, _, rfl, rfl, .inr ⟨by decide, by decide⟩, _, _, rfl, rfl, (show (0 : Int) < 2147483629 by decide), _, _, rfl, rfl, .inr ⟨by decide, by decide⟩, _, _, rfl, rfl, (show (0 : Int) < 2147483587 by decide), q _ ⟨Int.emod_nonneg _ (by decide), Int.emod_lt_of_pos _ (by decide)⟩⟩
  by_cases hk : k < (((ns.map V.int).length : Nat) : Int)
  · refine iteDT hk ?_
    rw [List.length_map] at hk
    have hk' : k.toNat < ns.length := by (first | lia | omega)
    have e : atI (ns.map V.int) ((k.toNat : Nat) : Int) = some (.int ns[k.toNat]) := atI_nat (by rw [List.getElem?_map, List.getElem?_eq_getElem hk']; rfl)
    rw [show ((k.toNat : Nat) : Int) = k by (first | lia | omega)] at e
    refine ⟨_, rfl, _, rfl, a, _, _, _, rfl, rfl, hS, e, _, _, rfl, rfl, ⟨by decide, by decide, by decide⟩, _, _, rfl, rfl, (show (0 : Int) < 10 ^ ((18 : Int).toNat) by decide), _, _, rfl, rfl, .inr ⟨by decide, by decide⟩, _, rfl, _, _, rfl, rfl, _, _, rfl, rfl, fin _⟩
  · exact iteDF hk (fin _)

noncomputable def spLow : Sp := fun vs H Q _ => ∃ t b : Int, vs = [.int t, .int b] ∧ 0 < b ∧ Big b ∧ GivQ H Q ((t : Rat) / (b : Rat))
theorem scLo : FnScope ["_law_top", "_law_bottom", "_law_one", "_law_other"] ["_law_top", "_law_bottom"] (defScope sLow) := ⟨rfl, rfl, rfl, by decide +kernel, rfl, by decide +kernel, by decide +kernel⟩
theorem abs_eq (a : Int) : (if a < 0 then -a else a) = (a.natAbs : Int) := by split <;> (first | lia | omega)
theorem emod_gcd {x y : Int} (hy : 0 < y) : Int.gcd y (x % y) = Int.gcd x y := by
  have := gcd_fmod x y
  rwa [Int.fmod_eq_emod_of_nonneg x (Int.le_of_lt hy)] at this
theorem ok_low (F : Fun K "_law_low" "_law_low" sLow f fd) (ma : mg "abs" = none) : FnOk P w K mg base CX0 1 f fd ["_law_top", "_law_bottom"] spLow := by
  refine F.ok scLo (fun vs H Q E h => ?_) (fun cdv A outer s H vs Q E hr h => ?_)
  · obtain ⟨t, b, rfl, _⟩ := h
    rfl
  obtain ⟨t, b, rfl, hb, bb, q⟩ := h
  refine ⟨_, pss_cons (ps_set (i := 2) scLo.nd rfl (Or.inl rfl) (pe_callB call_abs (by rfl) ma bt_abs (pa_cons (pv 0) pa_nil)))
    (pss_cons (ps_set (i := 3) scLo.nd rfl (Or.inl rfl) (pv 1))
    (pss_cons (ps_while PassesOwn.never (pt_cmpR op_ne (pv 3) pe_int (nomark _)) (pss_one (ps_par (i := 2) (j := 3) rfl scLo.nd rfl rfl (by decide) rfl rfl (pa_cons (pv 3) (pa_cons (pe_op op_mod (pv 2) (pv 3)) pa_nil)) rfl)))
    (pss_one (ps_ret (pe_tup (pa_cons (pe_op op_fdivB (pv 0) (pv 2)) (pa_cons (pe_op op_fdivB (pv 1) (pv 2)) pa_nil))))))), ?_⟩
  refine ⟨_, rfl, t, rfl, _, rfl, ?_⟩
  rw [abs_eq]
  refine while_by (fun σ H2 => ∃ x y, σ = [some (.int t), some (.int b), some (.int x), some (.int y)] ∧ H2 = H ∧ 0 ≤ x ∧ 0 ≤ y ∧ Int.gcd x y = Int.gcd t b) (fun σ _ => match σ with | [_, _, _, some (.int y)] => y.natAbs | _ => 0) ⟨_, _, rfl, rfl, by (first | lia | omega), by (first | lia | omega), by unfold Int.gcd; simp⟩ ?_ ?_
  · rintro σ H2 ⟨x, y, rfl, rfl, x0, y0, gg⟩
    refine ⟨_, rfl, rfl, _, rfl, ?_⟩
    by_cases hy : y = 0
    · refine iteNS (iv hy) ?_
      subst hy
      have gx : x = (Int.gcd t b : Int) := by
        have := abs_gcd gg
        rw [if_neg (by (first | lia | omega))] at this
        exact this
      have pe : Mth.part t b = x := by unfold Mth.part; rw [if_neg (by (first | lia | omega)), gx]
      have gp : 0 < Int.gcd t b := Mth.gcd_pos t b (by (first | lia | omega))
      have hx : CDivB t x := ⟨by (first | lia | omega), by rw [← pe]; exact Nat.lt_of_le_of_lt (part_le t b (by (first | lia | omega))) bb⟩
      have ef := frac_rat t b (by (first | lia | omega))
      unfold frac at ef
      rw [pe] at ef
      have e1 := congrArg Prod.fst ef
      have e2 := congrArg Prod.snd ef
      simp only at e1 e2
      refine ⟨_, rfl, _, rfl, _, _, rfl, rfl, hx, _, rfl, _, rfl, _, _, rfl, rfl, hx, by show 2 ≤ sizeLine; decide, ?_⟩
      dsimp only
      rw [e1, e2]
      exact q
    · refine iteNN (ivn hy) ?_
      have yp : 0 < y := by (first | lia | omega)
      have m0 := Int.emod_nonneg x (Int.ne_of_gt yp)
      have m1 := Int.emod_lt_of_pos x yp
      refine ⟨_, rfl, _, rfl, _, rfl, _, _, rfl, rfl, yp, _, _, rfl, ⟨y, x % y, rfl, rfl, y0, m0, (emod_gcd yp).trans gg⟩, ?_⟩
      show (x % y).natAbs < y.natAbs
      (first | lia | omega)
  · rintro σ H2 Q1 Q2 hq ⟨v, e, sc, b, eb, z⟩
    exact ⟨v, e, sc, b, eb, hq _ _ z⟩
theorem ddp (p q : Rat) : 0 < (p.den : Int) * (q.den : Int) := by
  have hp := p.den_nz
  have hq := q.den_nz
  exact Int.mul_pos (by (first | lia | omega)) (by (first | lia | omega))
theorem q_add (p q : Rat) : (((p.num * q.den + q.num * p.den : Int)) : Rat) / (((p.den : Int) * (q.den : Int) : Int) : Rat) = p + q := by
  have h := fr_add p q
  rw [frac_rat _ _ (dnz p q)] at h
  exact fr_inj h
theorem q_mul (p q : Rat) : (((p.num * q.num : Int)) : Rat) / (((p.den : Int) * (q.den : Int) : Int) : Rat) = p * q := by
  have h := fr_mul p q
  rw [frac_rat _ _ (dnz p q)] at h
  exact fr_inj h
theorem q_sub (p q : Rat) : (((p.num * q.den - q.num * p.den : Int)) : Rat) / (((p.den : Int) * (q.den : Int) : Int) : Rat) = p - q := by
  have h := fr_sub p q
  rw [frac_rat _ _ (dnz p q)] at h
  exact fr_inj h
theorem scLT : FnScope ["_law_one", "_law_other"] ["_law_one", "_law_other"] (defScope sLTake) := ⟨rfl, rfl, rfl, by decide +kernel, rfl, by decide +kernel, by decide +kernel⟩
theorem scLA : FnScope ["_law_one", "_law_other"] ["_law_one", "_law_other"] (defScope sLAdd) := ⟨rfl, rfl, rfl, by decide +kernel, rfl, by decide +kernel, by decide +kernel⟩
theorem scLM : FnScope ["_law_one", "_law_other"] ["_law_one", "_law_other"] (defScope sLMul) := ⟨rfl, rfl, rfl, by decide +kernel, rfl, by decide +kernel, by decide +kernel⟩
theorem ok_ladd (F : Fun K "_law_add" "_law_add" sLAdd f fd) (G : FnOk P w K mg base CX0 1 g gd ["_law_top", "_law_bottom"] spLow) (bG : Binds K gd ["_law_top", "_law_bottom"] []) (kG : PySem.W.keepIn K (.ref g) = true) (mG : mg "_law_low" = some (.ref g)) :
    FnOk P w K mg base CX0 2 f fd ["_law_one", "_law_other"] (spBin fun x y => x + y) := by
  refine F.ok scLA (fun vs H Q E h => ?_) (fun cdv A outer s H vs Q E hr h => ?_)
  · obtain ⟨p, q, x, y, rfl, _⟩ := h
    rfl
  obtain ⟨p, q, x, y, rfl, hp, hq, sx, sy, k⟩ := h
  refine ⟨_, pss_one (ps_ret (pe_call G hr (by rfl) mG kG bG .nil pass0 (pa_cons (pe_op op_add (pe_op op_mulB (pe_ix ix_tup (pv 0) pe_int (fun _ _ => rfl)) (pe_ix ix_tup (pv 1) pe_int (fun _ _ => rfl))) (pe_op op_mulB (pe_ix ix_tup (pv 1) pe_int (fun _ _ => rfl)) (pe_ix ix_tup (pv 0) pe_int (fun _ _ => rfl))))
    (pa_cons (pe_op op_mulB (pe_ix ix_tup (pv 0) pe_int (fun _ _ => rfl)) (pe_ix ix_tup (pv 1) pe_int (fun _ _ => rfl))) pa_nil)))), ?_⟩
  refine ⟨_, rfl, p, _, _, _, rfl, rfl, SqT.of hp, at0, _, rfl, q, _, _, _, rfl, rfl, SqT.of hq, at1, _, _, rfl, rfl, ⟨sx.n, sy.d⟩, _, rfl, q, _, _, _, rfl, rfl, SqT.of hq, at0, _, rfl, p, _, _, _, rfl, rfl, SqT.of hp, at1, _, _, rfl, rfl, ⟨sy.n, sx.d⟩, _, _, rfl, rfl,
    _, rfl, p, _, _, _, rfl, rfl, SqT.of hp, at1, _, rfl, q, _, _, _, rfl, rfl, SqT.of hq, at1, _, _, rfl, rfl, ⟨sx.d, sy.d⟩, _, _, rfl, ddp x y, Sf.dd sx sy, ?_⟩
  rw [q_add]
  exact k
theorem ok_ltake (F : Fun K "_law_take" "_law_take" sLTake f fd) (G : FnOk P w K mg base CX0 1 g gd ["_law_top", "_law_bottom"] spLow) (bG : Binds K gd ["_law_top", "_law_bottom"] []) (kG : PySem.W.keepIn K (.ref g) = true) (mG : mg "_law_low" = some (.ref g)) :
    FnOk P w K mg base CX0 2 f fd ["_law_one", "_law_other"] (spBin fun x y => x - y) := by
  refine F.ok scLT (fun vs H Q E h => ?_) (fun cdv A outer s H vs Q E hr h => ?_)
  · obtain ⟨p, q, x, y, rfl, _⟩ := h
    rfl
  obtain ⟨p, q, x, y, rfl, hp, hq, sx, sy, k⟩ := h
  refine ⟨_, pss_one (ps_ret (pe_call G hr (by rfl) mG kG bG .nil pass0 (pa_cons (pe_op op_sub (pe_op op_mulB (pe_ix ix_tup (pv 0) pe_int (fun _ _ => rfl)) (pe_ix ix_tup (pv 1) pe_int (fun _ _ => rfl))) (pe_op op_mulB (pe_ix ix_tup (pv 1) pe_int (fun _ _ => rfl)) (pe_ix ix_tup (pv 0) pe_int (fun _ _ => rfl))))
    (pa_cons (pe_op op_mulB (pe_ix ix_tup (pv 0) pe_int (fun _ _ => rfl)) (pe_ix ix_tup (pv 1) pe_int (fun _ _ => rfl))) pa_nil)))), ?_⟩
  refine ⟨_, rfl, p, _, _, _, rfl, rfl, SqT.of hp, at0, _, rfl, q, _, _, _, rfl, rfl, SqT.of hq, at1, _, _, rfl, rfl, ⟨sx.n, sy.d⟩, _, rfl, q, _, _, _, rfl, rfl, SqT.of hq, at0, _, rfl, p, _, _, _, rfl, rfl, SqT.of hp, at1, _, _, rfl, rfl, ⟨sy.n, sx.d⟩, _, _, rfl, rfl,
    _, rfl, p, _, _, _, rfl, rfl, SqT.of hp, at1, _, rfl, q, _, _, _, rfl, rfl, SqT.of hq, at1, _, _, rfl, rfl, ⟨sx.d, sy.d⟩, _, _, rfl, ddp x y, Sf.dd sx sy, ?_⟩
  rw [q_sub]
  exact k
theorem ok_lmul (F : Fun K "_law_mul" "_law_mul" sLMul f fd) (G : FnOk P w K mg base CX0 1 g gd ["_law_top", "_law_bottom"] spLow) (bG : Binds K gd ["_law_top", "_law_bottom"] []) (kG : PySem.W.keepIn K (.ref g) = true) (mG : mg "_law_low" = some (.ref g)) :
    FnOk P w K mg base CX0 2 f fd ["_law_one", "_law_other"] (spBin fun x y => x * y) := by
  refine F.ok scLM (fun vs H Q E h => ?_) (fun cdv A outer s H vs Q E hr h => ?_)
  · obtain ⟨p, q, x, y, rfl, _⟩ := h
    rfl
  obtain ⟨p, q, x, y, rfl, hp, hq, sx, sy, k⟩ := h
  refine ⟨_, pss_one (ps_ret (pe_call G hr (by rfl) mG kG bG .nil pass0 (pa_cons (pe_op op_mulB (pe_ix ix_tup (pv 0) pe_int (fun _ _ => rfl)) (pe_ix ix_tup (pv 1) pe_int (fun _ _ => rfl)))
    (pa_cons (pe_op op_mulB (pe_ix ix_tup (pv 0) pe_int (fun _ _ => rfl)) (pe_ix ix_tup (pv 1) pe_int (fun _ _ => rfl))) pa_nil)))), ?_⟩
  refine ⟨_, rfl, p, _, _, _, rfl, rfl, SqT.of hp, at0, _, rfl, q, _, _, _, rfl, rfl, SqT.of hq, at0, _, _, rfl, rfl, ⟨sx.n, sy.n⟩,
    _, rfl, p, _, _, _, rfl, rfl, SqT.of hp, at1, _, rfl, q, _, _, _, rfl, rfl, SqT.of hq, at1, _, _, rfl, rfl, ⟨sx.d, sy.d⟩, _, _, rfl, ddp x y, Sf.dd sx sy, ?_⟩
  rw [q_mul]
  exact k
noncomputable def spWhole : Sp := fun vs H Q _ => ∃ i : Int, vs = [.int i] ∧ Q (.bl true) H
theorem scWh : FnScope ["_law_found"] ["_law_found"] (defScope sWhole) := ⟨rfl, rfl, rfl, by decide +kernel, rfl, by decide +kernel, by decide +kernel⟩
theorem ok_whole (F : Fun K "_law_whole" "_law_whole" sWhole f fd) (ms : mg "isinstance" = none) (mi : mg "int" = none) (mb : mg "bool" = none) : FnOk P w K mg base CX0 1 f fd ["_law_found"] spWhole := by
  refine F.ok scWh (fun vs H Q E h => ?_) (fun cdv A outer s H vs Q E hr h => ?_)
  · obtain ⟨i, rfl, _⟩ := h
    rfl
  obtain ⟨i, rfl, q⟩ := h
  refine ⟨_, pss_one (ps_ret (pe_and (pe_callB (call_isi (c := .ty "int") (cv := .type "int") fun _ z => z) (by rfl) ms bt_isinstance (pa_cons (pv 0) (pa_cons (pe_bltn (v := .ty "int") (by rfl) mi bt_int rfl) pa_nil)))
    (pe_one (pe_not (pe_callB (call_isi (c := .ty "bool") (cv := .type "bool") fun _ z => z) (by rfl) ms bt_isinstance (pa_cons (pv 0) (pa_cons (pe_bltn (v := .ty "bool") (by rfl) mb bt_bool rfl) pa_nil))))))), ?_⟩
  refine ⟨_, rfl, _, _, _, rfl, TyOf.int i, kit_self K _, _, rfl, iteT ?_⟩
  exact ⟨_, rfl, _, _, _, rfl, TyOf.int i, kit_int_bool K, _, rfl, q⟩
noncomputable def spLFrac : Sp := fun vs H Q _ => ∃ (p : Addr) (q : Rat), vs = [.ref p] ∧ FrR H p q ∧ Big (q.den : Int) ∧ ∀ H', Same H H' → Q (.bl true) H'
theorem scLF : FnScope ["_law_found"] ["_law_found"] (defScope sLFrac) := ⟨rfl, rfl, rfl, by decide +kernel, rfl, by decide +kernel, by decide +kernel⟩
theorem ok_lfrac (F : Fun K "_law_fraction" "_law_fraction" sLFrac f fd) (G : FnOk P w K mg base CX0 1 g gd ["_law_top", "_law_bottom"] spLow) (bG : Binds K gd ["_law_top", "_law_bottom"] []) (kG : PySem.W.keepIn K (.ref g) = true) (mG : mg "_law_low" = some (.ref g))
    (G2 : FnOk P w K mg base CX0 1 h hd ["_law_found"] spWhole) (bG2 : Binds K hd ["_law_found"] []) (kG2 : PySem.W.keepIn K (.ref h) = true) (mG2 : mg "_law_whole" = some (.ref h)) (ms : mg "isinstance" = none) (mt : mg "tuple" = none) (ml : mg "len" = none) :
    FnOk P w K mg base CX0 2 f fd ["_law_found"] spLFrac := by
  refine F.ok scLF (fun vs H Q E h => ?_) (fun cdv A outer s H vs Q E hr h => ?_)
  · obtain ⟨p, q, rfl, _⟩ := h
    rfl
  obtain ⟨p, q, rfl, hp, bd, k⟩ := h
  have hu : (A.deeper (PyProof.Rows.envOfC "_law_fraction" (defScope sLFrac) s.heap.objs.size f cdv)).units + 64 < cLine := hr.units
  refine ⟨_, pss_cons (ps_if (PW.pt (pw_or (pt_not (pt_val (pe_callB (call_isi (c := .ty "tuple") (cv := .type "tuple") fun _ z => z) (by rfl) ms bt_isinstance (pa_cons (pv 0) (pa_cons (pe_bltn (v := .ty "tuple") (by rfl) mt bt_tuple rfl) pa_nil)))))
        (pw_or (pt_cmpR op_ne (pe_callB call_len_seq (by rfl) ml bt_len (pa_cons (pv 0) pa_nil)) pe_int (nomark _))
        (pw_or (pt_not (pt_val (pe_call G2 hr (by rfl) mG2 kG2 bG2 .nil pass0 (pa_cons (pe_ix ix_tup (pv 0) pe_int (fun _ _ => rfl)) pa_nil))))
        (pw_or1 (pt_not (pt_val (pe_call G2 hr (by rfl) mG2 kG2 bG2 .nil pass0 (pa_cons (pe_ix ix_tup (pv 0) pe_int (fun _ _ => rfl)) pa_nil))))))))) (pss_one (ps_ret pe_bl)) pss_nil)
    (pss_one (ps_ret (pe_and (pe_cmpR op_gt (pe_ix ix_tup (pv 0) pe_int (fun _ _ => rfl)) pe_int (nomark _)) (pe_one (pe_cmpR (op_eq_tup hu) (pe_call G hr (by rfl) mG kG bG .nil pass0 (pa_cons (pe_ix ix_tup (pv 0) pe_int (fun _ _ => rfl)) (pa_cons (pe_ix ix_tup (pv 0) pe_int (fun _ _ => rfl)) pa_nil))) (pv 0) (nomark _)))))), ?_⟩
  have dp : (0 : Int) < (q.den : Int) := by have := q.den_nz; (first | lia | omega)
  refine ⟨_, rfl, _, _, _, rfl, TyOf.tup hp, kit_self K _, _, rfl, iteF ?_⟩
  refine ⟨_, rfl, p, _, rfl, .inr (SqT.of hp), rfl, _, rfl, iteF ?_⟩
  refine ⟨_, rfl, p, _, _, _, rfl, rfl, SqT.of hp, at0, _, rfl, _, rfl, iteF ?_⟩
  refine ⟨_, rfl, p, _, _, _, rfl, rfl, SqT.of hp, at1, _, rfl, _, rfl, iteF ?_⟩
  refine ⟨_, rfl, p, _, _, _, rfl, rfl, SqT.of hp, at1, _, _, rfl, rfl, _, rfl, iteDT dp ?_⟩
  refine ⟨_, rfl, p, _, _, _, rfl, rfl, SqT.of hp, at0, _, rfl, p, _, _, _, rfl, rfl, SqT.of hp, at1, q.num, q.den, rfl, dp, bd, ?_⟩
  rw [rat_of]
  intro t ht
  refine ⟨_, rfl, t, p, [q.num, q.den], [q.num, q.den], rfl, rfl, upd_same, same_new ht _ _ _ hp, ?_⟩
  rw [decide_eq_true rfl]
  exact k _ (same_new ht _)
noncomputable def spLFracs : Sp := fun vs H Q _ => ∃ (p : Addr) (qs : List Rat) (m : Int), vs = [.ref p, .int m] ∧ TupR FrR H p qs ∧ m = qs.length ∧ qs.length ≤ 1000 ∧ (∀ q ∈ qs, Big (q.den : Int)) ∧ ∀ H', Same H H' → Q (.bl true) H'
theorem scFs : FnScope ["_law_found", "_law_many"] ["_law_found", "_law_many"] (defScope sLFracs) := ⟨rfl, rfl, rfl, by decide +kernel, rfl, by decide +kernel, by decide +kernel⟩
theorem ndOne : (["_law_one"] : List Str).Nodup := by decide +kernel
theorem ok_lfracs (F : Fun K "_law_fractions" "_law_fractions" sLFracs f fd) (G : FnOk P w K mg base CX0 2 g gd ["_law_found"] spLFrac) (bG : Binds K gd ["_law_found"] []) (kG : PySem.W.keepIn K (.ref g) = true) (mG : mg "_law_fraction" = some (.ref g)) (ms : mg "isinstance" = none) (mt : mg "tuple" = none)
    (ml : mg "len" = none) (ma : mg "all" = none) : FnOk P w K mg base CX0 3 f fd ["_law_found", "_law_many"] spLFracs := by
  refine F.ok scFs (fun vs H Q E h => ?_) (fun cdv A outer s H vs Q E hr h => ?_)
  · obtain ⟨p, qs, m, rfl, _⟩ := h
    rfl
  obtain ⟨p, qs, m, rfl, ⟨bs, hp, hA⟩, rfl, hn, hb, q⟩ := h
  refine ⟨_, pss_cons (ps_if (PW.pt (pw_or (pt_not (pt_val (pe_callB (call_isi (c := .ty "tuple") (cv := .type "tuple") fun _ z => z) (by rfl) ms bt_isinstance (pa_cons (pv 0) (pa_cons (pe_bltn (v := .ty "tuple") (by rfl) mt bt_tuple rfl) pa_nil)))))
        (pw_or1 (pt_cmpR op_ne (pe_callB call_len_seq (by rfl) ml bt_len (pa_cons (pv 0) pa_nil)) (pv 1) (nomark _))))) (pss_one (ps_ret pe_bl)) pss_nil)
    (pss_one (ps_ret (pe_callB (call_allB rfl) (by rfl) ma bt_all (pa_cons (pe_comp (Nc := ["_law_one"]) (cap := []) (g := gName 0) (te := tCall spLFrac [] E0 (tCons (tVar 0) tNil)) rfl (pi_tup (pv 0))
      (comp_mk rfl rfl (by decide +kernel) (by decide +kernel) (List.forall_mem_nil _) rfl (List.forall_mem_nil _)) (fun C fp pins s' H' => pg_name (i := 0) ndOne rfl (Or.inl rfl)) (fun C fp pins s' H' => pe_call G hr (by rfl) mG kG bG .nil pass0 (pa_cons (pv 0) pa_nil))) pa_nil)))), ?_⟩
  refine ⟨_, rfl, _, _, _, rfl, TyOf.tup hp, kit_self K _, _, rfl, iteF ?_⟩
  refine ⟨_, rfl, p, _, rfl, .inr (SqT.of hp), _, rfl, rfl, _, rfl, ?_⟩
  refine iteNS (by rw [List.length_map, hA.1]) ?_
  refine ⟨_, rfl, p, rfl, ⟨_, SqT.of hp⟩, fun acc hacc => ?_⟩
  refine comp_run (run_tup hp) (by rw [List.length_map, hA.1]; exact hn) hacc (fun i ys σ _ => ys = (List.replicate i true).map V.bl ∧ ∃ u, σ = [u]) ⟨rfl, none, rfl⟩ ?_ ?_
  · rintro i ys σ H2 x H3 hi sm hacc2 ⟨hys, u, rfl⟩ ⟨rfl, hx⟩ Cc hC
    obtain ⟨c, y, rfl, _, hy, hB⟩ := hA.ref hx
    refine ⟨_, rfl, c, y, rfl, mo_fr sm hB, hb y (List.mem_of_getElem? hy), fun H4 s4 => hC _ _ _ s4 ⟨?_, _, rfl⟩⟩
    rw [hys, List.replicate_succ', List.map_append]; rfl
  · rintro ys σ H2 sm ha2 hl ⟨hys, _⟩
    refine ⟨acc, List.replicate (bs.map V.ref).length true, rfl, SqL.of (by rw [ha2, hys]), ?_⟩
    rw [show (List.replicate (bs.map V.ref).length true).all id = true by simp]
    exact q H2 sm
theorem sb_low {t b : Int} {n d : Nat} (hb : 0 < b) (h1 : t.natAbs ≤ 2 ^ n) (h2 : b.natAbs ≤ 2 ^ d) : Sb n d ((t : Rat) / (b : Rat)) := sb_of (by (first | lia | omega)) h1 h2 (frac_rat t b (by (first | lia | omega)))
theorem low_pos {t b : Int} (ht : 0 < t) (hb : 0 < b) : 0 < (t : Rat) / (b : Rat) := by
  have h1 : (0 : Rat) < (t : Rat) := by exact_mod_cast ht
  have h2 : (0 : Rat) < (b : Rat) := by exact_mod_cast hb
  rw [Rat.div_def]
  exact Rat.mul_pos h1 (Rat.inv_pos.mpr h2)
noncomputable def spEase : Sp := fun vs H Q _ => ∃ z : Int, vs = [.int z] ∧ ∀ q, Sb 30 17 q → 0 < q → GivQ H Q q
theorem scEs : FnScope ["_law_cell_here"] ["_law_cell_here"] (defScope sLEase) := ⟨rfl, rfl, rfl, by decide +kernel, rfl, by decide +kernel, by decide +kernel⟩
theorem ok_ease (F : Fun K "_law_ease" "_law_ease" sLEase f fd) (G : FnOk P w K mg base CX0 1 g gd ["_law_top", "_law_bottom"] spLow) (bG : Binds K gd ["_law_top", "_law_bottom"] []) (kG : PySem.W.keepIn K (.ref g) = true) (mG : mg "_law_low" = some (.ref g)) :
    FnOk P w K mg base CX0 2 f fd ["_law_cell_here"] spEase := by
  refine F.ok scEs (fun vs H Q E h => ?_) (fun cdv A outer s H vs Q E hr h => ?_)
  · obtain ⟨z, rfl, _⟩ := h
    rfl
  obtain ⟨z, rfl, k⟩ := h
  refine ⟨_, pss_cons (ps_if (pt_cmpR op_eq (pe_op op_mod (pv 0) pe_int) pe_int (nomark _))
      (pss_one (ps_ret (pe_call G hr (by rfl) mG kG bG .nil pass0 (pa_cons (pe_op op_add pe_int (pe_op op_mod (pe_op op_fdiv (pv 0) pe_int) (pe_op op_pow pe_int pe_int))) (pa_cons (pe_op op_add pe_int (pe_op op_mod (pe_op op_mul (pv 0) pe_int) pe_int)) pa_nil))))) pss_nil)
    (pss_cons (ps_if (pt_cmpR op_eq (pe_op op_mod (pv 0) pe_int) pe_int (nomark _)) (pss_one (ps_ret (pe_tup (pa_cons pe_int (pa_cons pe_int pa_nil))))) pss_nil)
    (pss_one (ps_ret (pe_call G hr (by rfl) mG kG bG .nil pass0 (pa_cons (pe_op op_add pe_int (pe_op op_mod (pe_op op_fdiv (pv 0) pe_int) pe_int)) (pa_cons (pe_op op_add pe_int (pe_op op_mod (pe_op op_fdiv (pv 0) pe_int) pe_int)) pa_nil)))))), ?_⟩
  refine ⟨_, rfl, _, _, rfl, rfl, (show (0 : Int) < 4 by decide), rfl, _, rfl, ?_⟩
  refine ite2 (fun _ => ?_) (fun _ => ?_)
  · refine ⟨_, rfl, _, _, rfl, rfl, ⟨by decide, by decide⟩, _, _, rfl, rfl, ⟨by decide, by decide, by decide⟩, _, _, rfl, rfl, (show (0 : Int) < 10 ^ ((9 : Int).toNat) by decide), _, _, rfl, rfl,
      _, rfl, _, _, rfl, rfl, .inr ⟨by decide, by decide⟩, _, _, rfl, rfl, (show (0 : Int) < 99991 by decide), _, _, rfl, rfl, ?_⟩
    have e1 := Int.emod_nonneg (z / 4) (show (10 ^ ((9 : Int).toNat) : Int) ≠ 0 by decide)
    have e2 := Int.emod_lt_of_pos (z / 4) (show (0 : Int) < 10 ^ ((9 : Int).toNat) by decide)
    have e3 := Int.emod_nonneg (z * 48271) (show (99991 : Int) ≠ 0 by decide)
    have e4 := Int.emod_lt_of_pos (z * 48271) (show (0 : Int) < 99991 by decide)
    have p9 : (10 : Int) ^ ((9 : Int).toNat) = 1000000000 := by decide
    rw [p9] at e1 e2 ⊢
    exact ⟨_, _, rfl, by (first | lia | omega), big2 (n := 17) (by (first | lia | omega)) (by decide), k _ (sb_low (by (first | lia | omega)) (by (first | lia | omega)) (by (first | lia | omega))) (low_pos (by (first | lia | omega)) (by (first | lia | omega)))⟩
  · refine ⟨_, rfl, _, _, rfl, rfl, (show (0 : Int) < 4 by decide), rfl, _, rfl, ?_⟩
    refine ite2 (fun _ => ?_) (fun _ => ?_)
    · exact ⟨by show 2 ≤ sizeLine; decide, fun t ht => k 1 (Sb.one.mono (Nat.zero_le _) (Nat.zero_le _)) (by decide) t ht⟩
    · refine ⟨_, rfl, _, _, rfl, rfl, ⟨by decide, by decide⟩, _, _, rfl, rfl, (show (0 : Int) < 12 by decide), _, _, rfl, rfl,
        _, rfl, _, _, rfl, rfl, ⟨by decide, by decide⟩, _, _, rfl, rfl, (show (0 : Int) < 4 by decide), _, _, rfl, rfl, ?_⟩
      have e1 := Int.emod_nonneg (z / 4) (show (12 : Int) ≠ 0 by decide)
      have e2 := Int.emod_lt_of_pos (z / 4) (show (0 : Int) < 12 by decide)
      have e3 := Int.emod_nonneg (z / 48) (show (4 : Int) ≠ 0 by decide)
      have e4 := Int.emod_lt_of_pos (z / 48) (show (0 : Int) < 4 by decide)
      exact ⟨_, _, rfl, by (first | lia | omega), big2 (n := 17) (by (first | lia | omega)) (by decide), k _ (sb_low (by (first | lia | omega)) (by (first | lia | omega)) (by (first | lia | omega))) (low_pos (by (first | lia | omega)) (by (first | lia | omega)))⟩
end
end My
namespace My
open PySem L2 Mth Wd
structure NetJ (n m : Nat) (rs : List Rope) : Prop where
  two : 2 ≤ n
  few : n ≤ m + 1
  len : rs.length = m
  ends : ∀ r ∈ rs, r.1 < n ∧ r.2.1 < n
structure NetE (n m : Nat) (rs : List Rope) : Prop where
  j : NetJ n m rs
  ease : ∀ r ∈ rs, Sb 30 17 r.2.2
  pos : ∀ r ∈ rs, 0 < r.2.2
  hang : Hang n rs
theorem gi_netE {ts : List (List Int)} {rs : List Rope} (g : Gi ts rs) : NetE ts.length rs.length rs := ⟨⟨g.two, g.few, rfl, fun r hr => ⟨(g.ends r hr).1, (g.ends r hr).2.1⟩⟩, fun r hr => (g.ends r hr).2.2, g.pos, g.hang⟩
theorem filter_snoc {rows : List (List Nat)} {i : Nat} {r : List Nat} (p : List Nat → Bool) (h : rows[i]? = some r) : (rows.take (i+1)).filter p = (rows.take i).filter p ++ (if p r = true then [r] else []) := by
  rw [take_snoc h, List.filter_append]
  congr 1
  cases h' : p r <;> simp [List.filter, h']
end My
namespace My
open PySem L2 Mth Wd
structure TurnsM (H : Hp) (T : Addr) (bs : List Addr) (ts : List (List Int)) : Prop where
  h1 : H T = some (.lst (bs.map V.ref))
  rows : At IntsL H bs ts
  nd : (T :: bs).Nodup
theorem TurnsM.keep {H H' : Hp} {T : Addr} {bs : List Addr} {ts : List (List Int)} (M : TurnsM H T bs ts) (s : Same H H') : TurnsM H' T bs ts := ⟨s _ _ M.h1, M.rows.keep mo_ints s, M.nd⟩
theorem TurnsM.put {H : Hp} {T b : Addr} {bs : List Addr} {ts : List (List Int)} {i : Nat} {t : List Int} (M : TurnsM H T bs ts) (hb : bs[i]? = some b) : TurnsM (upd H b (.lst (t.map V.int))) T bs (ts.set i t) := by
  have bm : b ∈ bs := List.mem_of_getElem? hb
  obtain ⟨n1, n2⟩ := List.nodup_cons.mp M.nd
  have e1 : T ≠ b := fun z => n1 (by rw [z]; exact bm)
  refine ⟨by rw [upd_ne e1]; exact M.h1, ⟨by rw [List.length_set]; exact M.rows.1, fun k c x q1 q2 => ?_⟩, M.nd⟩
  by_cases hk : i = k
  · subst hk
    rw [hb] at q1
    cases q1
    have hl : i < ts.length := by rw [← M.rows.1]; exact (List.getElem?_eq_some_iff.mp hb).1
    rw [List.getElem?_set_self hl] at q2
    cases q2
    exact upd_same
  · rw [List.getElem?_set_ne hk] at q2
    have ne : c ≠ b := fun z => hk (nd_at n2 hb (by rw [q1, z]))
    show upd H b _ c = _
    rw [upd_ne ne]
    exact M.rows.2 k c x q1 q2
noncomputable def Spot (ts : List (List Int)) (e : Int) (place at_ : Nat) : Prop := (∃ t, ts[place]? = some t ∧ t[at_]? = some e) ∨ ((∀ t ∈ ts, e ∉ t) ∧ place = 0 ∧ at_ = 0)
section
variable {P : Program} {w : World} {K : PySem.W.Frag} {mg : Str → Option Value} {base : Heap} {f g h f1 f2 : Addr} {fd gd hd d1 d2 : FuncData}
noncomputable def spSpot : Sp := fun vs H Q _ => ∃ (T : Addr) (bs : List Addr) (ts : List (List Int)) (e : Int), vs = [.ref T, .int e] ∧ TurnsM H T bs ts ∧ ts.length ≤ 1000 ∧ (∀ t ∈ ts, t.length ≤ 1000) ∧
  ∀ p H' place at_, Same H H' → Spot ts e place at_ → H' p = some (.tup [.int ((place : Nat) : Int), .int ((at_ : Nat) : Int)]) → Q (.ref p) H'
theorem scSp : FnScope ["_law_turns", "_law_end", "_law_place"] ["_law_turns", "_law_end"] (defScope sSpot) := ⟨rfl, rfl, rfl, by decide +kernel, rfl, by decide +kernel, by decide +kernel⟩
theorem ok_spot (F : Fun K "_law_spot" "_law_spot" sSpot f fd) (ml : mg "len" = none) (mr : mg "range" = none) : FnOk P w K mg base CX0 1 f fd ["_law_turns", "_law_end"] spSpot := by
  refine F.ok scSp (fun vs H Q E h => ?_) (fun cdv A outer s H vs Q E hr h => ?_)
  · obtain ⟨T, bs, ts, e, rfl, _⟩ := h
    rfl
  obtain ⟨T, bs, ts, e, rfl, M, hl, ht, q⟩ := h
  refine ⟨_, pss_cons (ps_for PassesOwn.never rfl (pi_range1 (by rfl) mr (pa_cons (pe_callB call_len_seq (by rfl) ml bt_len (pa_cons (pv 0) pa_nil)) pa_nil)) (pg_name (i := 2) scSp.nd rfl (Or.inl rfl))
      (pss_one (ps_if (pt_cmpR op_in_seq (pv 1) (pe_ix ix_list (pv 0) (pv 2) (fun _ _ => rfl)) (by with_unfolding_all rfl))
        (pss_one (ps_ret (pe_tup (pa_cons (pv 2) (pa_cons (pe_bm PySem.F.plainAttrs_list PySem.F.slot_list_index PySem.F.type_list_index mt_index (pe_ix ix_list (pv 0) (pv 2) (fun _ _ => rfl)) (pa_cons (pv 1) pa_nil)) pa_nil))))) pss_nil)))
    (pss_one (ps_ret (pe_tup (pa_cons pe_int (pa_cons pe_int pa_nil))))), ?_⟩
  have lb : bs.length = ts.length := M.rows.1
  refine ⟨_, rfl, T, _, rfl, .inl (SqL.of M.h1), ((ts.length : Nat) : Int), by rw [List.length_map, lb], by (first | lia | omega), by (first | lia | omega), ?_⟩
  rw [show ((ts.length : Nat) : Int).toNat = ts.length by (first | lia | omega)]
  refine for_range (n := ts.length) (fun i σ H2 => H2 = H ∧ (∃ u, σ = [some (.ref T), some (.int e), u]) ∧ ∀ j t, j < i → ts[j]? = some t → e ∉ t) ⟨rfl, ⟨none, rfl⟩, fun j t h => by (first | lia | omega)⟩ ?_ ?_
  · rintro i σ H2 hi ⟨rfl, ⟨u, rfl⟩, hz⟩
    have ei : ts[i]? = some ts[i] := List.getElem?_eq_getElem hi
    obtain ⟨b, hb, hB⟩ := M.rows.get ei
    have cst : (0 : Int) + (i : Int) = ((i : Nat) : Int) := by (first | lia | omega)
    have e1 : atI (bs.map V.ref) ((0 : Int) + (i : Int)) = some (.ref b) := by rw [cst]; exact atI_nat (ref_at hb)
    refine ⟨_, rfl, _, rfl, _, rfl, T, _, _, _, rfl, rfl, SqL.of M.h1, e1, b, _, rfl, .inl (SqL.of hB), rfl, flat_ints _, _, rfl, ?_⟩
    rw [if_neg (by decide : ¬ (false = true)), inV_ints]
    by_cases hm : e ∈ ts[i]
    · refine iteDT hm ?_
      refine ⟨_, rfl, _, rfl, _, rfl, T, _, _, _, rfl, rfl, SqL.of M.h1, e1, .inl ⟨rfl, _, SqL.of hB⟩, _, rfl, b, ts[i], e, rfl, rfl, hB, hm, Nat.le_trans (ht _ (List.getElem_mem hi)) (by decide), by show 2 ≤ sizeLine; decide, fun p hp => ?_⟩
      have hj : ts[i].idxOf e < ts[i].length := List.idxOf_lt_length_iff.mpr hm
      refine q p _ i (ts[i].idxOf e) (same_new hp _) (.inl ⟨ts[i], ei, by rw [List.getElem?_eq_getElem hj, List.getElem_idxOf hj]⟩) ?_
      rw [upd_same, cst]
    · refine iteDF hm ⟨rfl, ⟨_, rfl⟩, fun j t hj hjt => ?_⟩
      rcases Nat.lt_or_ge j i with h3 | h3
      · exact hz j t h3 hjt
      · obtain rfl : j = i := by (first | lia | omega)
        rw [ei] at hjt
        cases hjt
        exact hm
  · rintro σ H2 ⟨rfl, ⟨u, rfl⟩, hz⟩
    refine ⟨by show 2 ≤ sizeLine; decide, fun p hp => q p _ 0 0 (same_new hp _) (.inr ⟨fun t ht' => ?_, rfl, rfl⟩) upd_same⟩
    obtain ⟨j, hj, ej⟩ := List.getElem_of_mem ht'
    exact hz j t hj (by rw [List.getElem?_eq_getElem hj, ej])
end
end My
namespace My
open PySem L2 Mth Wd
theorem atI_pred {ns : List Int} {a : Nat} (h : a < ns.length) : ∃ v, atI (ns.map V.int) ((a : Int) - 1) = some (.int v) := by
  match a, h with
  | 0, h =>
    have hl : (ns.map V.int).length = ns.length := List.length_map _
    refine ⟨ns[ns.length - 1], ?_⟩
    unfold atI ixN
    rw [if_neg (by (first | lia | omega)), if_pos (by (first | lia | omega))]
    have e : (((0 : Nat) : Int) - 1 + ((ns.map V.int).length : Nat)).toNat = ns.length - 1 := by (first | lia | omega)
    rw [e]
    show (ns.map V.int)[ns.length - 1]? = _
    rw [List.getElem?_map, List.getElem?_eq_getElem (by (first | lia | omega))]; rfl
  | a+1, h =>
    refine ⟨ns[a], ?_⟩
    rw [show (((a+1 : Nat)) : Int) - 1 = ((a : Nat) : Int) by (first | lia | omega)]
    exact atI_nat (by rw [List.getElem?_map, List.getElem?_eq_getElem (by (first | lia | omega))]; rfl)
theorem Spot.at {ts : List (List Int)} {e : Int} {place at_ : Nat} (h : Spot ts e place at_) (h0 : 0 < ts.length) (ne : ∀ t ∈ ts, t ≠ []) : ∃ t, ts[place]? = some t ∧ at_ < t.length := by
  rcases h with ⟨t, h1, h2⟩ | ⟨_, rfl, rfl⟩
  · exact ⟨t, h1, (List.getElem?_eq_some_iff.mp h2).1⟩
  · refine ⟨ts[0], List.getElem?_eq_getElem h0, ?_⟩
    have := ne _ (List.getElem_mem h0)
    exact List.length_pos_iff.mpr this
section
variable {P : Program} {w : World} {K : PySem.W.Frag} {mg : Str → Option Value} {base : Heap} {f g h f1 f2 : Addr} {fd gd hd d1 d2 : FuncData}
noncomputable def spNext : Sp := fun vs H Q _ => ∃ (T : Addr) (bs : List Addr) (ts : List (List Int)) (e : Int), vs = [.ref T, .int e] ∧ TurnsM H T bs ts ∧ 0 < ts.length ∧ ts.length ≤ 1000 ∧ (∀ t ∈ ts, t.length ≤ 1000) ∧ (∀ t ∈ ts, t ≠ []) ∧
  ∀ H' v, Same H H' → Q (.int v) H'
theorem scNx : FnScope ["_law_turns", "_law_end", "_law_place", "_law_at"] ["_law_turns", "_law_end"] (defScope sNext) := ⟨rfl, rfl, rfl, by decide +kernel, rfl, by decide +kernel, by decide +kernel⟩
theorem ok_next (F : Fun K "_law_next" "_law_next" sNext f fd) (G : FnOk P w K mg base CX0 1 g gd ["_law_turns", "_law_end"] spSpot) (bG : Binds K gd ["_law_turns", "_law_end"] []) (kG : PySem.W.keepIn K (.ref g) = true) (mG : mg "_law_spot" = some (.ref g)) :
    FnOk P w K mg base CX0 2 f fd ["_law_turns", "_law_end"] spNext := by
  refine F.ok scNx (fun vs H Q E h => ?_) (fun cdv A outer s H vs Q E hr h => ?_)
  · obtain ⟨T, bs, ts, e, rfl, _⟩ := h
    rfl
  obtain ⟨T, bs, ts, e, rfl, M, h0, hl, ht, ne, q⟩ := h
  refine ⟨_, pss_cons (ps_asg (pe_call G hr (by rfl) mG kG bG .nil pass0 (pa_cons (pv 0) (pa_cons (pe_op op_xor (pv 1) pe_int) pa_nil))) (pg_tup rfl (pgs_cons (pg_name (i := 2) scNx.nd rfl (Or.inl rfl)) (pgs_cons (pg_name (i := 3) scNx.nd rfl (Or.inl rfl)) pgs_nil))))
    (pss_one (ps_ret (pe_ix ix_list (pe_ix ix_list (pv 0) (pv 2) (fun _ _ => rfl)) (pe_op op_sub (pv 3) pe_int) (fun _ _ => rfl)))), ?_⟩
  refine ⟨_, rfl, _, rfl, _, _, rfl, rfl, T, bs, ts, _, rfl, M, hl, ht, fun p H1 place at_ s1 sp hp => ?_⟩
  obtain ⟨t, e1, e2⟩ := sp.at h0 ne
  obtain ⟨b, hb, hB⟩ := M.rows.get e1
  obtain ⟨v, hv⟩ := atI_pred e2
  refine ⟨p, _, rfl, SqT.of hp, rfl, _, _, rfl, _, _, rfl, rfl, ?_⟩
  exact ⟨_, rfl, _, rfl, T, _, _, _, rfl, rfl, SqL.of (s1 _ _ M.h1), atI_nat (ref_at hb), _, rfl, _, _, rfl, rfl, b, _, _, _, rfl, rfl, SqL.of (s1 _ _ hB), hv, q H1 v s1⟩
noncomputable def spPut : Sp := fun vs H Q _ => ∃ (T : Addr) (bs : List Addr) (ts : List (List Int)) (e x : Int), vs = [.ref T, .int e, .int x] ∧ TurnsM H T bs ts ∧ 0 < ts.length ∧ ts.length ≤ 1000 ∧ (∀ t ∈ ts, t.length ≤ 1000) ∧ (∀ t ∈ ts, t ≠ []) ∧
  ∀ H1 place at_ b t, Same H H1 → Spot ts (Builtin.bitXor e 1) place at_ → bs[place]? = some b → ts[place]? = some t → Q (.int ((place : Nat) : Int)) (upd H1 b (.lst ((insL t at_ x).map V.int)))
theorem scPu : FnScope ["_law_turns", "_law_end", "_law_fresh", "_law_place", "_law_at"] ["_law_turns", "_law_end", "_law_fresh"] (defScope sPut) := ⟨rfl, rfl, rfl, by decide +kernel, rfl, by decide +kernel, by decide +kernel⟩
theorem ok_put (F : Fun K "_law_put" "_law_put" sPut f fd) (G : FnOk P w K mg base CX0 1 g gd ["_law_turns", "_law_end"] spSpot) (bG : Binds K gd ["_law_turns", "_law_end"] []) (kG : PySem.W.keepIn K (.ref g) = true) (mG : mg "_law_spot" = some (.ref g)) :
    FnOk P w K mg base CX0 2 f fd ["_law_turns", "_law_end", "_law_fresh"] spPut := by
  refine F.ok scPu (fun vs H Q E h => ?_) (fun cdv A outer s H vs Q E hr h => ?_)
  · obtain ⟨T, bs, ts, e, x, rfl, _⟩ := h
    rfl
  obtain ⟨T, bs, ts, e, x, rfl, M, h0, hl, ht, ne, q⟩ := h
  refine ⟨_, pss_cons (ps_asg (pe_call G hr (by rfl) mG kG bG .nil pass0 (pa_cons (pv 0) (pa_cons (pe_op op_xor (pv 1) pe_int) pa_nil))) (pg_tup rfl (pgs_cons (pg_name (i := 3) scPu.nd rfl (Or.inl rfl)) (pgs_cons (pg_name (i := 4) scPu.nd rfl (Or.inl rfl)) pgs_nil))))
    (pss_cons (ps_expr (pe_bm PySem.F.plainAttrs_list PySem.F.slot_list_insert PySem.F.type_list_insert mt_insert (pe_ix ix_list (pv 0) (pv 3) (fun _ _ => rfl)) (pa_cons (pv 4) (pa_cons (pv 2) pa_nil))))
    (pss_one (ps_ret (pv 3)))), ?_⟩
  refine ⟨_, rfl, _, rfl, _, _, rfl, rfl, T, bs, ts, _, rfl, M, hl, ht, fun p H1 place at_ s1 sp hp => ?_⟩
  obtain ⟨t, e1, e2⟩ := sp.at h0 ne
  obtain ⟨b, hb, hB⟩ := M.rows.get e1
  have tl := ht t (List.mem_of_getElem? e1)
  refine ⟨p, _, rfl, SqT.of hp, rfl, _, _, rfl, _, _, rfl, rfl, ?_⟩
  refine ⟨_, rfl, _, rfl, T, _, _, _, rfl, rfl, SqL.of (s1 _ _ M.h1), atI_nat (ref_at hb), .inl ⟨rfl, _, SqL.of (s1 _ _ hB)⟩, _, rfl, _, rfl, b, t.map V.int, (at_ : Int), .int x, rfl, rfl, s1 _ _ hB, by (first | lia | omega), by rw [List.length_map]; (first | lia | omega), by rw [List.length_map]; (first | lia | omega), ?_⟩
  refine ⟨_, rfl, ?_⟩
  have e3 : (t.map V.int).take ((at_ : Int)).toNat ++ V.int x :: (t.map V.int).drop ((at_ : Int)).toNat = (insL t at_ x).map V.int := by
    unfold insL
    rw [Int.toNat_natCast, List.map_append, List.map_take, List.map_cons, List.map_drop]
  rw [e3]
  exact q H1 place at_ b t s1 sp hb e1
end
structure NetM (H : Hp) (R T : Addr) (cs bs : List Addr) (ts : List (List Int)) (rs : List Rope) : Prop where
  tm : TurnsM H T bs ts
  r1 : H R = some (.lst (cs.map V.ref))
  rr : At RopeR H cs rs
  rn : R ∉ T :: bs
theorem NetM.keep {H H' : Hp} {R T : Addr} {cs bs : List Addr} {ts : List (List Int)} {rs : List Rope} (M : NetM H R T cs bs ts rs) (s : Same H H') : NetM H' R T cs bs ts rs := ⟨M.tm.keep s, s _ _ M.r1, M.rr.keep mo_rope s, M.rn⟩
theorem rope_upd {H : Hp} {b c : Addr} {ys : List V} {o : HO} {r : Rope} (hb : H b = some (.lst ys)) (h : RopeR H c r) : RopeR (upd H b o) c r := by
  obtain ⟨e, h1, h2⟩ := h
  refine ⟨e, by rw [upd_ne (fun z => by rw [z, hb] at h1; cases h1)]; exact h1, ?_⟩
  unfold FrR at h2 ⊢
  rw [upd_ne (fun z => by rw [z, hb] at h2; cases h2)]; exact h2
theorem ropes_upd {H : Hp} {b : Addr} {ys : List V} {o : HO} {cs : List Addr} {rs : List Rope} (hb : H b = some (.lst ys)) (h : At RopeR H cs rs) : At RopeR (upd H b o) cs rs := ⟨h.1, fun i c r e1 e2 => rope_upd hb (h.2 i c r e1 e2)⟩
theorem NetM.turn {H : Hp} {R T b : Addr} {cs bs : List Addr} {ts : List (List Int)} {rs : List Rope} {i : Nat} {t : List Int} (M : NetM H R T cs bs ts rs) (hb : bs[i]? = some b) : NetM (upd H b (.lst (t.map V.int))) R T cs bs (ts.set i t) rs := by
  have bm : b ∈ bs := List.mem_of_getElem? hb
  have li : i < ts.length := by rw [← M.tm.rows.1]; exact (List.getElem?_eq_some_iff.mp hb).1
  have hB : H b = some (.lst (ts[i].map V.int)) := M.tm.rows.2 i b ts[i] hb (List.getElem?_eq_getElem li)
  refine ⟨M.tm.put hb, ?_, ropes_upd hB M.rr, M.rn⟩
  rw [upd_ne (fun z => M.rn (by rw [z]; exact List.mem_cons_of_mem _ bm))]; exact M.r1
theorem NetM.more {H : Hp} {R T l : Addr} {cs bs : List Addr} {ts : List (List Int)} {rs : List Rope} {u : List Int} (M : NetM H R T cs bs ts rs) (hl : H l = none) : NetM (upd (upd H l (.lst (u.map V.int))) T (.lst (bs.map V.ref ++ [.ref l]))) R T cs (bs ++ [l]) (ts ++ [u]) rs := by
  have s1 := same_new hl (.lst (u.map V.int))
  have e1 : (upd H l (.lst (u.map V.int))) l = some (.lst (u.map V.int)) := upd_same
  have M1 := M.keep s1
  generalize upd H l (.lst (u.map V.int)) = H1 at s1 e1 M1
  have lT : l ≠ T := fun z => by rw [z, M.tm.h1] at hl; cases hl
  have lR : R ≠ l := fun z => by rw [← z, M.r1] at hl; cases hl
  obtain ⟨n1, n2⟩ := List.nodup_cons.mp M.tm.nd
  have lb : l ∉ bs := fun z => by
    obtain ⟨k, hk, ek⟩ := List.getElem_of_mem z
    have hl2 : k < ts.length := by rw [← M.tm.rows.1]; exact hk
    have := M.tm.rows.2 k l ts[k] (by rw [List.getElem?_eq_getElem hk, ek]) (List.getElem?_eq_getElem hl2)
    unfold IntsL at this
    rw [hl] at this; cases this
  refine ⟨⟨by rw [upd_same]; simp, ?_, ?_⟩, ?_, ropes_upd M1.tm.h1 M1.rr, ?_⟩
  · have a1 := M1.tm.rows.snoc (b := l) (x := u) e1
    refine ⟨a1.1, fun i b x q1 q2 => ?_⟩
    have := a1.2 i b x q1 q2
    unfold IntsL at this ⊢
    have bT : b ≠ T := fun z => by
      subst z
      have hm : b ∈ bs ++ [l] := List.mem_of_getElem? q1
      rcases List.mem_append.mp hm with w | w
      · exact n1 w
      · exact lT (List.mem_singleton.mp w).symm
    rw [upd_ne bT]; exact this
  · rw [List.nodup_cons]
    refine ⟨fun z => ?_, ?_⟩
    · rcases List.mem_append.mp z with w | w
      · exact n1 w
      · exact lT (List.mem_singleton.mp w).symm
    · rw [List.nodup_append]
      refine ⟨n2, by simp, fun x hx y hy z => ?_⟩
      rw [List.mem_singleton] at hy
      subst hy; subst z
      exact lb hx
  · rw [upd_ne (fun z => M.rn (by rw [z]; exact List.mem_cons_self))]; exact M1.r1
  · intro z
    rcases List.mem_cons.mp z with w | w
    · exact M.rn (by rw [w]; exact List.mem_cons_self)
    · rcases List.mem_append.mp w with v | v
      · exact M.rn (List.mem_cons_of_mem _ v)
      · exact lR (List.mem_singleton.mp v)
theorem NetM.ropes {H : Hp} {R T : Addr} {cs bs cs' : List Addr} {ts : List (List Int)} {rs rs' : List Rope} (M : NetM H R T cs bs ts rs) (h : At RopeR H cs' rs') : NetM (upd H R (.lst (cs'.map V.ref))) R T cs' bs ts rs' := by
  refine ⟨⟨?_, ⟨M.tm.rows.1, fun i b x q1 q2 => ?_⟩, M.tm.nd⟩, upd_same, ropes_upd M.r1 h, M.rn⟩
  · rw [upd_ne (fun z => M.rn (by rw [z]; exact List.mem_cons_self))]; exact M.tm.h1
  · have := M.tm.rows.2 i b x q1 q2
    unfold IntsL at this ⊢
    rw [upd_ne (fun z => M.rn (by rw [← z]; exact List.mem_cons_of_mem _ (List.mem_of_getElem? q1)))]; exact this
end My
namespace My
open PySem L2 Mth Wd
theorem xor1' : ∀ k : Nat, k < 44 → Builtin.bitXor (k : Int) 1 = if k % 2 = 0 then (k : Int) + 1 else (k : Int) - 1 := by decide
theorem xor_lt {x : Int} {m : Nat} (h0 : -2 ≤ x) (h1 : x < 2 * (m : Int)) (hm : m ≤ 20) : Builtin.bitXor x 1 < 2 * (m : Int) := by
  rcases Int.lt_or_le x 0 with h | h
  · have : x = -2 ∨ x = -1 := by (first | lia | omega)
    rcases this with rfl | rfl
    · have : Builtin.bitXor (-2) 1 = -1 := by decide
      (first | lia | omega)
    · have : Builtin.bitXor (-1) 1 = -2 := by decide
      (first | lia | omega)
  · obtain ⟨k, rfl⟩ := Int.eq_ofNat_of_zero_le h
    rw [xor1' k (by (first | lia | omega))]
    split <;> (first | lia | omega)
section
variable {P : Program} {w : World} {K : PySem.W.Frag} {mg : Str → Option Value} {base : Heap} {f g h f1 f2 f3 f4 : Addr} {fd gd hd d1 d2 d3 d4 : FuncData}
noncomputable def spGrow : Sp := fun vs H Q _ => ∃ (R T : Addr) (cs bs : List Addr) (ts : List (List Int)) (rs : List Rope) (z : Int) (H0 : Hp), vs = [.ref R, .ref T, .int z] ∧ NetM H R T cs bs ts rs ∧ Gi ts rs ∧ 0 < rs.length ∧ rs.length ≤ 20 ∧ 0 ≤ z ∧ Same H0 H ∧ H0 R = none ∧ H0 T = none ∧ (∀ x ∈ bs, H0 x = none) ∧
  ∀ H' cs' bs' ts' rs', Same H0 H' → NetM H' R T cs' bs' ts' rs' → Gi ts' rs' → rs'.length = rs.length + 1 → (∀ x ∈ bs', H0 x = none) → Q .non H'
theorem scGr : FnScope ["_law_ropes", "_law_turns", "_law_cell_here", "_law_many", "_law_way", "_law_end", "_law_ease_here", "_law_rope", "_law_place", "_law_at", "_law_other", "_law_step"] ["_law_ropes", "_law_turns", "_law_cell_here"] (defScope sGrow) := ⟨rfl, rfl, rfl, by decide +kernel, rfl, by decide +kernel, by decide +kernel⟩
set_option maxHeartbeats 4000000 in
theorem ok_grow (F : Fun K "_law_grow" "_law_grow" sGrow f fd) (G1 : FnOk P w K mg base CX0 2 f1 d1 ["_law_cell_here"] spEase) (b1 : Binds K d1 ["_law_cell_here"] []) (k1 : PySem.W.keepIn K (.ref f1) = true) (m1 : mg "_law_ease" = some (.ref f1))
    (G2 : FnOk P w K mg base CX0 2 f2 d2 ["_law_turns", "_law_end", "_law_fresh"] spPut) (b2 : Binds K d2 ["_law_turns", "_law_end", "_law_fresh"] []) (k2 : PySem.W.keepIn K (.ref f2) = true) (m2 : mg "_law_put" = some (.ref f2))
    (G3 : FnOk P w K mg base CX0 1 f3 d3 ["_law_turns", "_law_end"] spSpot) (b3 : Binds K d3 ["_law_turns", "_law_end"] []) (k3 : PySem.W.keepIn K (.ref f3) = true) (m3 : mg "_law_spot" = some (.ref f3))
    (G4 : FnOk P w K mg base CX0 2 f4 d4 ["_law_turns", "_law_end"] spNext) (b4 : Binds K d4 ["_law_turns", "_law_end"] []) (k4 : PySem.W.keepIn K (.ref f4) = true) (m4 : mg "_law_next" = some (.ref f4)) (ml : mg "len" = none) (mr : mg "range" = none) :
    FnOk P w K mg base CX0 3 f fd ["_law_ropes", "_law_turns", "_law_cell_here"] spGrow := by
  refine F.ok scGr (fun vs H Q E h => ?_) (fun cdv A outer s H vs Q E hr h => ?_)
  · obtain ⟨R, T, cs, bs, ts, rs, z, H0, rfl, _⟩ := h
    rfl
  obtain ⟨R, T, cs, bs, ts, rs, z, H0, rfl, M, gi, m0, m20, z0, s0, nR, nT, nb, q⟩ := h
  have hr1 := hr.mono (show 1 ≤ 2 by decide)
  refine ⟨_, pss_cons (ps_set (i := 3) scGr.nd rfl (Or.inl rfl) (pe_callB call_len_seq (by rfl) ml bt_len (pa_cons (pv 0) pa_nil)))
    (pss_cons (ps_set (i := 4) scGr.nd rfl (Or.inl rfl) (pe_op op_mod (pv 2) pe_int))
    (pss_cons (ps_set (i := 5) scGr.nd rfl (Or.inl rfl) (pe_op op_sub (pe_op op_mod (pe_op op_fdiv (pv 2) pe_int) (pe_op op_add (pe_op op_mul pe_int (pv 3)) pe_int)) pe_int))
    (pss_cons (ps_set (i := 6) scGr.nd rfl (Or.inl rfl) (pe_call G1 hr (by rfl) m1 k1 b1 .nil pass0 (pa_cons (pe_op op_fdiv (pv 2) pe_int) pa_nil)))
    (pss_one (ps_if (pt_cmpR op_lt (pv 4) pe_int (nomark _))
      (pss_cons (ps_expr (pe_bm PySem.F.plainAttrs_list PySem.F.slot_list_append PySem.F.type_list_append mt_append (pv 1) (pa_cons (pe_lst (pa_cons (pe_op op_add (pe_op op_mul pe_int (pv 3)) pe_int) pa_nil)) pa_nil)))
      (pss_one (ps_expr (pe_bm PySem.F.plainAttrs_list PySem.F.slot_list_append PySem.F.type_list_append mt_append (pv 0) (pa_cons (pe_tup (pa_cons (pe_call G2 hr (by rfl) m2 k2 b2 .nil pass0 (pa_cons (pv 1) (pa_cons (pv 5) (pa_cons (pe_op op_mul pe_int (pv 3)) pa_nil)))) (pa_cons (pe_op op_sub (pe_callB call_len_seq (by rfl) ml bt_len (pa_cons (pv 1) pa_nil)) pe_int) (pa_cons (pv 6) pa_nil)))) pa_nil)))))
      (pss_one (ps_if (pt_cmpR op_lt (pv 4) pe_int (nomark _))
        (pss_cons (ps_set (i := 7) scGr.nd rfl (Or.inl rfl) (pe_op op_mod (pe_op op_fdiv (pv 2) pe_int) (pv 3)))
        (pss_cons (ps_asg (pe_call G3 hr1 (by rfl) m3 k3 b3 .nil pass0 (pa_cons (pv 1) (pa_cons (pe_op op_add (pe_op op_mul pe_int (pv 7)) pe_int) pa_nil))) (pg_tup rfl (pgs_cons (pg_name (i := 8) scGr.nd rfl (Or.inl rfl)) (pgs_cons (pg_name (i := 9) scGr.nd rfl (Or.inl rfl)) pgs_nil))))
        (pss_cons (ps_asg (pe_op op_add (pe_op op_mul pe_int (pv 3)) pe_int) (pg_sub (pe_ix ix_list (pv 1) (pv 8) (fun _ _ => rfl)) (pv 9) set_list))
        (pss_cons (ps_expr (pe_bm PySem.F.plainAttrs_list PySem.F.slot_list_append PySem.F.type_list_append mt_append (pv 1) (pa_cons (pe_lst (pa_cons (pe_op op_add (pe_op op_mul pe_int (pv 7)) pe_int) (pa_cons (pe_op op_mul pe_int (pv 3)) pa_nil))) pa_nil)))
        (pss_cons (ps_asg (pe_tup (pa_cons (pe_ix ix_tup (pe_ix ix_list (pv 0) (pv 7) (fun _ _ => rfl)) pe_int (fun _ _ => rfl)) (pa_cons (pe_op op_sub (pe_callB call_len_seq (by rfl) ml bt_len (pa_cons (pv 1) pa_nil)) pe_int) (pa_cons (pe_ix ix_tup (pe_ix ix_list (pv 0) (pv 7) (fun _ _ => rfl)) pe_int (fun _ _ => rfl)) pa_nil)))) (pg_sub (pv 0) (pv 7) set_list))
        (pss_one (ps_expr (pe_bm PySem.F.plainAttrs_list PySem.F.slot_list_append PySem.F.type_list_append mt_append (pv 0) (pa_cons (pe_tup (pa_cons (pe_op op_sub (pe_callB call_len_seq (by rfl) ml bt_len (pa_cons (pv 1) pa_nil)) pe_int) (pa_cons (pv 8) (pa_cons (pv 6) pa_nil)))) pa_nil)))))))))
        (pss_cons (ps_set (i := 10) scGr.nd rfl (Or.inl rfl) (pv 5))
        (pss_cons (ps_for PassesOwn.never rfl (pi_range1 (by rfl) mr (pa_cons (pe_op op_mod (pe_op op_fdiv (pv 2) pe_int) pe_int) pa_nil)) (pg_name (i := 11) scGr.nd rfl (Or.inl rfl))
          (pss_one (ps_set (i := 10) scGr.nd rfl (Or.inl rfl) (pe_call G4 hr (by rfl) m4 k4 b4 .nil pass0 (pa_cons (pv 1) (pa_cons (pv 10) pa_nil))))))
        (pss_cons (ps_set (i := 8) scGr.nd rfl (Or.inl rfl) (pe_call G2 hr (by rfl) m2 k2 b2 .nil pass0 (pa_cons (pv 1) (pa_cons (pv 5) (pa_cons (pe_op op_mul pe_int (pv 3)) pa_nil)))))
        (pss_one (ps_expr (pe_bm PySem.F.plainAttrs_list PySem.F.slot_list_append PySem.F.type_list_append mt_append (pv 0) (pa_cons (pe_tup (pa_cons (pv 8) (pa_cons (pe_call G2 hr (by rfl) m2 k2 b2 .nil pass0 (pa_cons (pv 1) (pa_cons (pv 10) (pa_cons (pe_op op_add (pe_op op_mul pe_int (pv 3)) pe_int) pa_nil)))) (pa_cons (pv 6) pa_nil)))) pa_nil)))))))))))))), ?_⟩
  have lc : cs.length = rs.length := M.rr.1
  have lb : bs.length = ts.length := M.tm.rows.1
  have few := gi.few
  have two := gi.two
  have c1 : ((cs.map V.ref).length : Int) = (rs.length : Int) := by rw [List.length_map, lc]
  refine ⟨_, rfl, R, _, rfl, .inl (SqL.of M.r1), ?_⟩
  rw [c1]
  have mp : (0 : Int) < 2 * (rs.length : Int) + 2 := by (first | lia | omega)
  refine ⟨_, rfl, _, _, rfl, rfl, (show (0 : Int) < 8 by decide), _, rfl, _, _, rfl, rfl, ⟨by decide, by decide⟩, _, rfl, _, _, rfl, rfl, .inl ⟨by decide, by decide⟩, _, _, rfl, rfl, _, _, rfl, rfl, mp, _, _, rfl, rfl, ?_⟩
  have en0 := Int.emod_nonneg (z / 8) (show (2 * (rs.length : Int) + 2) ≠ 0 by (first | lia | omega))
  have en1 := Int.emod_lt_of_pos (z / 8) mp
  dsimp only
  generalize hE : z / 8 % (2 * (rs.length : Int) + 2) - 2 = en
  have en2 : -2 ≤ en := by (first | lia | omega)
  have en3 : en < 2 * (rs.length : Int) := by (first | lia | omega)
  refine ⟨_, rfl, _, _, rfl, rfl, ⟨by decide, by decide⟩, _, rfl, fun e he h0 ea hea => ?_⟩
  have s1 := same_new hea (.tup [.int e.num, .int e.den])
  have fe : FrR (upd H ea (.tup [.int e.num, .int e.den])) ea e := upd_same
  have M1 := M.keep s1
  have s01 := s0.trans s1
  generalize upd H ea (.tup [.int e.num, .int e.den]) = H1 at s1 fe M1 s01
  have nfr : ∀ {H' : Hp} {l : Addr}, Same H0 H' → H' l = none → H0 l = none := fun s h => s.free h
  have fk : ∀ {H' : Hp} {b : Addr} {ys : List V} {o : HO}, FrR H' ea e → H' b = some (.lst ys) → FrR (upd H' b o) ea e := fun h hb => mo_fr (del_up _ _ _) (FrR.del h hb)
  have mul2 : ∀ x : Int, CMul 2 x := fun x => .inl ⟨by decide, by decide⟩
  have tl : ∀ t ∈ ts, t.length ≤ 1000 := fun t ht => by have := gi.lens t ht; (first | lia | omega)
  refine ⟨_, rfl, _, _, rfl, rfl, _, rfl, ?_⟩
  refine ite2 (fun _ => ?_) (fun _ => ?_)
  · -- hung up
    refine ⟨_, rfl, .inl ⟨rfl, _, SqL.of M1.tm.h1⟩, _, rfl, _, _, rfl, rfl, mul2 _, _, _, rfl, rfl, by show 1 ≤ sizeLine; decide, fun l hl => ?_⟩
    have nl := nfr s01 hl
    have sl := same_new hl (.lst [.int (2 * (rs.length : Int) + 1)])
    refine ⟨T, bs.map V.ref, .ref l, rfl, rfl, sl _ _ M1.tm.h1, by rw [List.length_map]; exact szl (by (first | lia | omega)), ?_⟩
    have M2 := M1.more (u := [2 * (rs.length : Int) + 1]) hl
    have f2 := fk (o := .lst (bs.map V.ref ++ [.ref l])) (sl _ _ fe) (sl _ _ M1.tm.h1)
    have s02 := same_up (s01.trans sl) nT (.lst (bs.map V.ref ++ [.ref l]))
    change NetM (upd (upd H1 l (.lst [.int (2 * (rs.length : Int) + 1)])) T (.lst (bs.map V.ref ++ [.ref l]))) R T cs (bs ++ [l]) (ts ++ [[2 * (rs.length : Int) + 1]]) rs at M2
    generalize upd (upd H1 l (.lst [.int (2 * (rs.length : Int) + 1)])) T (.lst (bs.map V.ref ++ [.ref l])) = H2 at M2 f2 s02
    have nb2 : ∀ x ∈ bs ++ [l], H0 x = none := fun x hx => by
      rcases List.mem_append.mp hx with w | w
      · exact nb x w
      · rw [List.mem_singleton.mp w]; exact nl
    have tsl : (ts ++ [[2 * (rs.length : Int) + 1]]).length = ts.length + 1 := by rw [List.length_append]; rfl
    refine ⟨_, rfl, .inl ⟨rfl, _, SqL.of M2.r1⟩, _, rfl, _, rfl, _, rfl, _, _, rfl, rfl, mul2 _, T, bs ++ [l], ts ++ [[2 * (rs.length : Int) + 1]], en, _, rfl, M2.tm, by (first | lia | omega), by (first | lia | omega), app_all tl (by simp), app_all gi.ne (by simp), fun H3 place at_ b t s3 sp hb ht => ?_⟩
    have hpt : ts[place]? = some t := by
      rcases Nat.lt_or_ge place ts.length with w | w
      · rwa [List.getElem?_append_left w] at ht
      · exfalso
        rcases sp with ⟨u, h1, h2⟩ | ⟨_, h1, _⟩
        · have : place = ts.length := by have := (List.getElem?_eq_some_iff.mp h1).1; (first | lia | omega)
          subst this
          rw [List.getElem?_concat_length] at h1
          cases h1
          have h3 := List.mem_of_getElem? h2
          rw [List.mem_singleton] at h3
          have := xor_lt en2 en3 m20
          (first | lia | omega)
        · (first | lia | omega)
    have M3 := (M2.keep s3).turn (t := insL t at_ (2 * (rs.length : Int))) hb
    have bm : b ∈ bs ++ [l] := List.mem_of_getElem? hb
    have hB : H3 b = some (.lst (t.map V.int)) := s3 _ _ (M2.tm.rows.2 place b t hb ht)
    have f3 := fk (o := .lst ((insL t at_ (2 * (rs.length : Int))).map V.int)) (s3 _ _ f2) hB
    have s03 := same_up (s02.trans s3) (nb2 b bm) (.lst ((insL t at_ (2 * (rs.length : Int))).map V.int))
    generalize upd H3 b (.lst ((insL t at_ (2 * (rs.length : Int))).map V.int)) = H4 at M3 f3 s03
    have eL : ((((bs ++ [l]).map V.ref).length : Nat) : Int) - 1 = (ts.length : Int) := by rw [List.length_map, List.length_append, lb, List.length_singleton]; (first | lia | omega)
    refine ⟨_, rfl, T, _, rfl, .inl (SqL.of M3.tm.h1), _, _, rfl, rfl, _, rfl, by show 3 ≤ sizeLine; decide, fun p hp => ?_⟩
    dsimp only
    rw [eL]
    have sp4 := same_new hp (.tup [.int ((place : Nat) : Int), .int ((ts.length : Nat) : Int), .ref ea])
    have M4 := M3.keep sp4
    have rp : RopeR (upd H4 p (.tup [.int ((place : Nat) : Int), .int ((ts.length : Nat) : Int), .ref ea])) p (place, ts.length, e) := ⟨ea, upd_same, sp4 _ _ f3⟩
    have s04 := s03.trans sp4
    generalize upd H4 p (.tup [.int ((place : Nat) : Int), .int ((ts.length : Nat) : Int), .ref ea]) = H5 at sp4 M4 rp s04
    refine ⟨R, cs.map V.ref, .ref p, rfl, rfl, M4.r1, by rw [List.length_map]; exact szl (by (first | lia | omega)), ?_⟩
    have M5 := M4.ropes (M4.rr.snoc rp)
    rw [List.map_append] at M5
    exact q _ _ _ _ _ (same_up s04 nR _) M5 (gi.hung hpt he h0) (len_snoc _ _) nb2
  · refine ⟨_, rfl, _, _, rfl, rfl, _, rfl, ?_⟩
    refine ite2 (fun _ => ?_) (fun _ => ?_)
    · -- parted
      have mpos : (0 : Int) < (rs.length : Int) := by (first | lia | omega)
      refine ⟨_, rfl, _, _, rfl, rfl, ⟨by decide, by decide⟩, _, rfl, _, _, rfl, rfl, mpos, ?_⟩
      have k0 := Int.emod_nonneg (z / 8) (show (rs.length : Int) ≠ 0 by (first | lia | omega))
      have k1 := Int.emod_lt_of_pos (z / 8) mpos
      dsimp only
      generalize z / 8 % (rs.length : Int) = kz at k0 k1 ⊢
      obtain ⟨k, rfl⟩ := Int.eq_ofNat_of_zero_le k0
      have lk : k < rs.length := by (first | lia | omega)
      have hk : rs[k]? = some rs[k] := List.getElem?_eq_getElem lk
      generalize rs[k] = r at hk
      refine ⟨_, rfl, _, rfl, _, _, rfl, rfl, mul2 _, _, _, rfl, rfl, T, bs, ts, _, rfl, M1.tm, by (first | lia | omega), tl, fun p2 H2 place at_ s2 sp hp2 => ?_⟩
      have yes : inT ts r.2.1 (2 * (k : Int) + 1) := (gi.odd k r hk r.2.1).mpr rfl
      obtain ⟨t, ht, hat⟩ : ∃ t, ts[place]? = some t ∧ t[at_]? = some (2 * (k : Int) + 1) := by
        rcases sp with w | ⟨w, _⟩
        · exact w
        · obtain ⟨u, hu, hm⟩ := yes
          exact absurd hm (w u (List.mem_of_getElem? hu))
      have ep : place = r.2.1 := (gi.odd k r hk place).mp ⟨t, ht, List.mem_of_getElem? hat⟩
      subst ep
      have M2 := M1.keep s2
      obtain ⟨b, hb, hB⟩ := M2.tm.rows.get ht
      have la : at_ < t.length := (List.getElem?_eq_some_iff.mp hat).1
      refine ⟨p2, _, rfl, SqT.of hp2, rfl, _, _, rfl, _, _, rfl, rfl, ?_⟩
      refine ⟨_, rfl, _, _, rfl, rfl, mul2 _, _, _, rfl, rfl, _, rfl, _, rfl, T, _, _, _, rfl, rfl, SqL.of M2.tm.h1, atI_nat (ref_at hb), _, rfl, b, _, _, _, rfl, rfl, hB, ixN_nat (by rw [List.length_map]; exact la), ?_⟩
      have em : (t.map V.int).set at_ (V.int (2 * (rs.length : Int) + 1)) = (t.set at_ (2 * (rs.length : Int) + 1)).map V.int := by rw [List.map_set]
      rw [em]
      have s02 := s01.trans s2
      have M3 := M2.turn (t := t.set at_ (2 * (rs.length : Int) + 1)) hb
      have f3 := fk (o := .lst ((t.set at_ (2 * (rs.length : Int) + 1)).map V.int)) (s2 _ _ fe) hB
      have s03 := same_up s02 (nb b (List.mem_of_getElem? hb)) (.lst ((t.set at_ (2 * (rs.length : Int) + 1)).map V.int))
      generalize upd H2 b (.lst ((t.set at_ (2 * (rs.length : Int) + 1)).map V.int)) = H3 at M3 f3 s03
      refine ⟨_, rfl, .inl ⟨rfl, _, SqL.of M3.tm.h1⟩, _, rfl, _, _, rfl, rfl, mul2 _, _, _, rfl, rfl, _, rfl, _, _, rfl, rfl, mul2 _, by show 2 ≤ sizeLine; decide, fun l hl => ?_⟩
      have nl := nfr s03 hl
      have sl := same_new hl (.lst [.int (2 * (k : Int) + 1), .int (2 * (rs.length : Int))])
      refine ⟨T, bs.map V.ref, .ref l, rfl, rfl, sl _ _ M3.tm.h1, by rw [List.length_map]; exact szl (by (first | lia | omega)), ?_⟩
      have M4 := M3.more (u := [2 * (k : Int) + 1, 2 * (rs.length : Int)]) hl
      have f4 := fk (o := .lst (bs.map V.ref ++ [.ref l])) (sl _ _ f3) (sl _ _ M3.tm.h1)
      have s04 := same_up (s03.trans sl) nT (.lst (bs.map V.ref ++ [.ref l]))
      change NetM (upd (upd H3 l (.lst [.int (2 * (k : Int) + 1), .int (2 * (rs.length : Int))])) T (.lst (bs.map V.ref ++ [.ref l]))) R T cs (bs ++ [l]) (ts.set r.2.1 (t.set at_ (2 * (rs.length : Int) + 1)) ++ [[2 * (k : Int) + 1, 2 * (rs.length : Int)]]) rs at M4
      generalize upd (upd H3 l (.lst [.int (2 * (k : Int) + 1), .int (2 * (rs.length : Int))])) T (.lst (bs.map V.ref ++ [.ref l])) = H4 at M4 f4 s04
      have nb2 : ∀ x ∈ bs ++ [l], H0 x = none := fun x hx => by
        rcases List.mem_append.mp hx with w | w
        · exact nb x w
        · rw [List.mem_singleton.mp w]; exact nl
      obtain ⟨c, hc, re, hc1, hc2⟩ := M4.rr.get hk
      have eL : ((((bs ++ [l]).map V.ref).length : Nat) : Int) - 1 = (ts.length : Int) := by rw [List.length_map, List.length_append, lb, List.length_singleton]; (first | lia | omega)
      refine ⟨_, rfl, _, rfl, R, _, _, _, rfl, rfl, SqL.of M4.r1, atI_nat (ref_at hc), c, _, _, _, rfl, rfl, SqT.of hc1, t3_0 _ _ _, _, rfl, T, _, rfl, .inl (SqL.of M4.tm.h1), _, _, rfl, rfl, _, rfl, _, rfl, R, _, _, _, rfl, rfl, SqL.of M4.r1, atI_nat (ref_at hc), c, _, _, _, rfl, rfl, SqT.of hc1, t3_2 _ _ _, by show 3 ≤ sizeLine; decide, fun p hp => ?_⟩
      dsimp only
      rw [eL]
      have sp5 := same_new hp (.tup [.int ((r.1 : Nat) : Int), .int ((ts.length : Nat) : Int), .ref re])
      have M5 := M4.keep sp5
      have rp : RopeR (upd H4 p (.tup [.int ((r.1 : Nat) : Int), .int ((ts.length : Nat) : Int), .ref re])) p (r.1, ts.length, r.2.2) := ⟨re, upd_same, sp5 _ _ hc2⟩
      have s05 := s04.trans sp5
      have f5 := sp5 _ _ f4
      generalize upd H4 p (.tup [.int ((r.1 : Nat) : Int), .int ((ts.length : Nat) : Int), .ref re]) = H5 at sp5 M5 rp s05 f5
      refine ⟨_, rfl, _, rfl, R, _, _, _, rfl, rfl, M5.r1, ixN_nat (by rw [List.length_map, lc]; exact lk), ?_⟩
      have es : (cs.map V.ref).set k (V.ref p) = (cs.set k p).map V.ref := by rw [List.map_set]
      rw [es]
      have M6 := M5.ropes (M5.rr.set k rp)
      have f6 := fk (o := .lst ((cs.set k p).map V.ref)) f5 M5.r1
      have s06 := same_up s05 nR (.lst ((cs.set k p).map V.ref))
      generalize upd H5 R (.lst ((cs.set k p).map V.ref)) = H6 at M6 f6 s06
      refine ⟨_, rfl, .inl ⟨rfl, _, SqL.of M6.r1⟩, _, rfl, T, _, rfl, .inl (SqL.of M6.tm.h1), _, _, rfl, rfl, _, rfl, _, rfl, by show 3 ≤ sizeLine; decide, fun p7 hp7 => ?_⟩
      dsimp only
      rw [eL]
      have sp7 := same_new hp7 (.tup [.int ((ts.length : Nat) : Int), .int ((r.2.1 : Nat) : Int), .ref ea])
      have M7 := M6.keep sp7
      have rp7 : RopeR (upd H6 p7 (.tup [.int ((ts.length : Nat) : Int), .int ((r.2.1 : Nat) : Int), .ref ea])) p7 (ts.length, r.2.1, e) := ⟨ea, upd_same, sp7 _ _ f6⟩
      have s07 := s06.trans sp7
      generalize upd H6 p7 (.tup [.int ((ts.length : Nat) : Int), .int ((r.2.1 : Nat) : Int), .ref ea]) = H7 at sp7 M7 rp7 s07
      refine ⟨R, (cs.set k p).map V.ref, .ref p7, rfl, rfl, M7.r1, by rw [List.length_map, List.length_set]; exact szl (by (first | lia | omega)), ?_⟩
      have M8 := M7.ropes (M7.rr.snoc rp7)
      rw [List.map_append] at M8
      exact q _ _ _ _ _ (same_up s07 nR _) M8 (gi.part hk ht hat he h0) (by rw [len_snoc, List.length_set]) nb2
    · -- a rope through a land
      refine ⟨_, rfl, _, rfl, _, _, rfl, rfl, ⟨by decide, by decide⟩, _, _, rfl, rfl, (show (0 : Int) < 8 by decide), ?_⟩
      have k0 := Int.emod_nonneg (z / 128) (show (8 : Int) ≠ 0 by decide)
      have k1 := Int.emod_lt_of_pos (z / 128) (show (0 : Int) < 8 by decide)
      refine ⟨_, rfl, by (first | lia | omega), by (first | lia | omega), ?_⟩
      refine for_range (fun i σ H2 => Same H1 H2 ∧ ∃ v u, σ = [some (.ref R), some (.ref T), some (.int z), some (.int (rs.length : Int)), some (.int (z % 8)), some (.int en), some (.ref ea), none, none, none, some (.int v), u]) ⟨Same.refl _, en, none, rfl⟩ ?_ ?_
      · rintro i σ H2 hi ⟨s2, v, u, rfl⟩
        exact ⟨_, rfl, _, rfl, T, bs, ts, v, rfl, M1.tm.keep s2, by (first | lia | omega), by (first | lia | omega), tl, gi.ne, fun H3 v' s3 => ⟨s2.trans s3, v', _, rfl⟩⟩
      · rintro σ H2 ⟨s2, v, u, rfl⟩
        have M2 := M1.keep s2
        have f2 := s2 _ _ fe
        have s02 := s01.trans s2
        refine ⟨_, rfl, _, rfl, _, rfl, _, _, rfl, rfl, mul2 _, T, bs, ts, en, _, rfl, M2.tm, by (first | lia | omega), by (first | lia | omega), tl, gi.ne, fun H3 place at_ b t s3 sp hb ht => ?_⟩
        have M3 := (M2.keep s3).turn (t := insL t at_ (2 * (rs.length : Int))) hb
        have hB : H3 b = some (.lst (t.map V.int)) := s3 _ _ (M2.tm.rows.2 place b t hb ht)
        have f3 := fk (o := .lst ((insL t at_ (2 * (rs.length : Int))).map V.int)) (s3 _ _ f2) hB
        have s03 := same_up (s02.trans s3) (nb b (List.mem_of_getElem? hb)) (.lst ((insL t at_ (2 * (rs.length : Int))).map V.int))
        generalize upd H3 b (.lst ((insL t at_ (2 * (rs.length : Int))).map V.int)) = H4 at M3 f3 s03
        have tm := List.mem_of_getElem? ht
        have tl3 : ∀ u ∈ ts.set place (insL t at_ (2 * (rs.length : Int))), u.length ≤ 1000 := set_all tl (by rw [insL_len]; have := gi.lens t tm; (first | lia | omega))
        have ne3 : ∀ u ∈ ts.set place (insL t at_ (2 * (rs.length : Int))), u ≠ [] := set_all gi.ne (fun z => by have := congrArg List.length z; rw [insL_len] at this; simp at this)
        refine ⟨_, rfl, .inl ⟨rfl, _, SqL.of M3.r1⟩, _, rfl, _, rfl, _, rfl, _, rfl, _, _, rfl, rfl, mul2 _, _, _, rfl, rfl, T, bs, ts.set place (insL t at_ (2 * (rs.length : Int))), v, _, rfl, M3.tm, by rw [List.length_set]; (first | lia | omega), by rw [List.length_set]; (first | lia | omega), tl3, ne3, fun H5 place2 at2 b2 t2 s5 sp2 hb2 ht2 => ?_⟩
        have M5 := (M3.keep s5).turn (t := insL t2 at2 (2 * (rs.length : Int) + 1)) hb2
        have hB2 : H5 b2 = some (.lst (t2.map V.int)) := s5 _ _ (M3.tm.rows.2 place2 b2 t2 hb2 ht2)
        have f5 := fk (o := .lst ((insL t2 at2 (2 * (rs.length : Int) + 1)).map V.int)) (s5 _ _ f3) hB2
        have s05 := same_up (s03.trans s5) (nb b2 (List.mem_of_getElem? hb2)) (.lst ((insL t2 at2 (2 * (rs.length : Int) + 1)).map V.int))
        generalize upd H5 b2 (.lst ((insL t2 at2 (2 * (rs.length : Int) + 1)).map V.int)) = H6 at M5 f5 s05
        refine ⟨_, rfl, by show 3 ≤ sizeLine; decide, fun p hp => ?_⟩
        have sp7 := same_new hp (.tup [.int ((place : Nat) : Int), .int ((place2 : Nat) : Int), .ref ea])
        have M7 := M5.keep sp7
        have rp : RopeR (upd H6 p (.tup [.int ((place : Nat) : Int), .int ((place2 : Nat) : Int), .ref ea])) p (place, place2, e) := ⟨ea, upd_same, sp7 _ _ f5⟩
        have s07 := s05.trans sp7
        generalize upd H6 p (.tup [.int ((place : Nat) : Int), .int ((place2 : Nat) : Int), .ref ea]) = H7 at sp7 M7 rp s07
        refine ⟨R, cs.map V.ref, .ref p, rfl, rfl, M7.r1, by rw [List.length_map]; exact szl (by (first | lia | omega)), ?_⟩
        have M8 := M7.ropes (M7.rr.snoc rp)
        rw [List.map_append] at M8
        exact q _ _ _ _ _ (same_up s07 nR _) M8 (gi.chord ht ht2 he h0) (len_snoc _ _) nb
end
end My
namespace My
open PySem L2 Mth Wd
theorem TurnsM.far {H : Hp} {T D : Addr} {bs : List Addr} {ts : List (List Int)} {o : HO} (M : TurnsM H T bs ts) (h : D ∉ T :: bs) : TurnsM (upd H D o) T bs ts := by
  refine ⟨by rw [upd_ne (fun z => h (by rw [z]; exact List.mem_cons_self))]; exact M.h1, ⟨M.rows.1, fun i b x q1 q2 => ?_⟩, M.nd⟩
  have := M.rows.2 i b x q1 q2
  unfold IntsL at this ⊢
  rw [upd_ne (fun z => h (by rw [← z]; exact List.mem_cons_of_mem _ (List.mem_of_getElem? q1)))]; exact this
theorem NetM.far {H : Hp} {R T D : Addr} {cs bs : List Addr} {ts : List (List Int)} {rs : List Rope} {ys : List V} {o : HO} (M : NetM H R T cs bs ts rs) (hD : H D = some (.lst ys)) (h : D ∉ T :: bs) (hR : R ≠ D) : NetM (upd H D o) R T cs bs ts rs :=
  ⟨M.tm.far h, by rw [upd_ne hR]; exact M.r1, ropes_upd hD M.rr, M.rn⟩
theorem NetM.mem {H : Hp} {R T l : Addr} {cs bs : List Addr} {ts : List (List Int)} {rs : List Rope} (M : NetM H R T cs bs ts rs) (hl : H l = none) : l ∉ T :: bs ∧ R ≠ l := by
  refine ⟨fun z => ?_, fun z => by rw [← z, M.r1] at hl; cases hl⟩
  rcases List.mem_cons.mp z with w | w
  · rw [w, M.tm.h1] at hl; cases hl
  · obtain ⟨k, hk, ek⟩ := List.getElem_of_mem w
    have hl2 : k < ts.length := by rw [← M.tm.rows.1]; exact hk
    have := M.tm.rows.2 k l ts[k] (by rw [List.getElem?_eq_getElem hk, ek]) (List.getElem?_eq_getElem hl2)
    unfold IntsL at this
    rw [hl] at this; cases this
section
variable {P : Program} {w : World} {K : PySem.W.Frag} {mg : Str → Option Value} {base : Heap} {f g h f1 f2 f3 f4 : Addr} {fd gd hd d1 d2 d3 d4 : FuncData}
noncomputable def spNet : Sp := fun vs H Q _ => ∃ (a : Addr) (zs : List Int) (z : Int), vs = [.ref a, .int z] ∧ H a = some (.lst (zs.map V.int)) ∧ zs.length ≤ 13 ∧ (∀ x ∈ zs, 0 ≤ x) ∧
  ∀ p H' n rs, Same H H' → NetR H' p n rs → NetE n (zs.length + 1) rs → Q (.ref p) H'
theorem scNt : FnScope ["_law_cells", "_law_first", "_law_ropes", "_law_turns", "_law_cell_here", "_law_made", "_law_turn"] ["_law_cells", "_law_first"] (defScope sNet) := ⟨rfl, rfl, rfl, by decide +kernel, rfl, by decide +kernel, by decide +kernel⟩
theorem ndER : (["_law_end", "_law_ropes"] : List Str).Nodup := by decide +kernel
noncomputable def rLenS (K : PySem.W.Frag) : List V → Hp → VK → Prop := fun xs H Q => ∃ p ys, xs = [.ref p] ∧ (SqL K H p ys ∨ SqT K H p ys) ∧ Q (.int ys.length) H
set_option maxHeartbeats 4000000 in
seal L2.PSs L2.PS L2.PE L2.PA in
theorem ok_net (F : Fun K "_law_net" "_law_net" sNet f fd) (G1 : FnOk P w K mg base CX0 2 f1 d1 ["_law_cell_here"] spEase) (b1 : Binds K d1 ["_law_cell_here"] []) (k1 : PySem.W.keepIn K (.ref f1) = true) (m1 : mg "_law_ease" = some (.ref f1))
    (G2 : FnOk P w K mg base CX0 3 f2 d2 ["_law_ropes", "_law_turns", "_law_cell_here"] spGrow) (b2 : Binds K d2 ["_law_ropes", "_law_turns", "_law_cell_here"] []) (k2 : PySem.W.keepIn K (.ref f2) = true) (m2 : mg "_law_grow" = some (.ref f2)) (ml : mg "len" = none) (mt : mg "tuple" = none) :
    FnOk P w K mg base CX0 4 f fd ["_law_cells", "_law_first"] spNet := by
  refine F.ok scNt (fun vs H Q E h => ?_) (fun cdv A outer s H vs Q E hr h => ?_)
  · obtain ⟨a, zs, z, rfl, _⟩ := h
    rfl
  obtain ⟨a, zs, z, rfl, ha, hz, hz0, q⟩ := h
  have hr2 := hr.mono (show 2 ≤ 3 by decide)
  refine ⟨_, pss_cons (ps_set (i := 2) scNt.nd rfl (Or.inr rfl) (pe_lst (pa_cons (pe_tup (pa_cons pe_int (pa_cons pe_int (pa_cons (pe_call G1 hr2 (by rfl) m1 k1 b1 .nil pass0 (pa_cons (pv 1) pa_nil)) pa_nil)))) pa_nil)))
    (pss_cons (ps_set (i := 3) scNt.nd rfl (Or.inl rfl) (pe_lst (pa_cons (pe_lst (pa_cons pe_int (pa_cons (pe_un un_neg pe_int) pa_nil))) (pa_cons (pe_lst (pa_cons pe_int (pa_cons (pe_un un_neg pe_int) pa_nil))) pa_nil))))
    (pss_cons (ps_for PassesOwn.never rfl (pi_list (pv 0)) (pg_name (i := 4) scNt.nd rfl (Or.inl rfl))
      (pss_one (ps_expr (pe_call G2 hr (by rfl) m2 k2 b2 .nil pass0 (pa_cons (pv 2) (pa_cons (pv 3) (pa_cons (pv 4) pa_nil)))))))
    (pss_cons (ps_set (i := 5) scNt.nd rfl (Or.inl rfl) (pe_lst pa_nil))
    (pss_cons (ps_for PassesOwn.never rfl (pi_list (pv 3)) (pg_name (i := 6) scNt.nd rfl (Or.inl rfl))
      (pss_one (ps_expr (pe_bm PySem.F.plainAttrs_list PySem.F.slot_list_append PySem.F.type_list_append mt_append (pv 5) (pa_cons (pe_callTy call_tuple_of (by rfl) mt bt_tuple (pa_cons (pe_comp (Nc := ["_law_end", "_law_ropes"]) (cap := [(1, 2)]) (g := gName 0)
          (te := tIf (tTest (tOp (rI0 fun i j => .bl (decide (i < j))) (tVar 0) (tC (.int 0)))) (tOp (rI0 fun i j => .int (i + j)) (tOp (rI0 fun i j => .int (i + j)) (tVar 0) (tOp (rI CMul fun i j => .int (i * j)) (tC (.int 2)) (tCB (rLenS K) (tCons (tVar 1) tNil)))) (tC (.int 2))) (tVar 0)) rfl (pi_list (pv 6))
          (comp_mk rfl rfl (by decide +kernel) (by decide +kernel) (List.forall_mem_cons.mpr ⟨⟨rfl, rfl⟩, List.forall_mem_nil _⟩) rfl (List.forall_mem_cons.mpr ⟨⟨_, _, rfl, rfl, rfl, rfl, rfl⟩, List.forall_mem_nil _⟩)) (fun C fp pins s' H' => pg_name (i := 0) ndER rfl (Or.inl rfl))
          (fun C fp pins s' H' => pe_ifExp (pt_cmpR op_lt (pv 0) pe_int (nomark _)) (pe_op op_add (pe_op op_add (pv 0) (pe_op op_mul pe_int (pe_callB call_len_seq (by rfl) ml bt_len (pa_cons (pv 1) pa_nil)))) pe_int) (pv 0))) pa_nil)) pa_nil)))))
    (pss_one (ps_ret (pe_tup (pa_cons (pe_callB call_len_seq (by rfl) ml bt_len (pa_cons (pv 3) pa_nil)) (pa_cons (pe_callTy call_tuple_of (by rfl) mt bt_tuple (pa_cons (pv 2) pa_nil)) (pa_cons (pe_callTy call_tuple_of (by rfl) mt bt_tuple (pa_cons (pv 5) pa_nil)) pa_nil)))))))))), ?_⟩
  have mul2 : ∀ x : Int, CMul 2 x := fun x => .inl ⟨by decide, by decide⟩
  -- the first rope
  refine ⟨_, rfl, _, rfl, fun e he h0 ea hea => ⟨by show 3 ≤ sizeLine; decide, fun p1 hp1 => ⟨by show 1 ≤ sizeLine; decide, fun R hR => ?_⟩⟩⟩
  have t1 := same_new hea (.tup [.int e.num, .int e.den])
  have e1 : FrR (upd H ea (.tup [.int e.num, .int e.den])) ea e := upd_same
  generalize upd H ea (.tup [.int e.num, .int e.den]) = H1 at t1 e1 hp1 hR
  have t2 := same_new hp1 (.tup [.int 0, .int 1, .ref ea])
  have e2 : RopeR (upd H1 p1 (.tup [.int 0, .int 1, .ref ea])) p1 (0, 1, e) := ⟨ea, upd_same, t2 _ _ e1⟩
  generalize upd H1 p1 (.tup [.int 0, .int 1, .ref ea]) = H2 at t2 e2 hR
  have t3 := same_new hR (.lst [.ref p1])
  have e3 : (upd H2 R (.lst [.ref p1])) R = some (.lst [.ref p1]) := upd_same
  have e2' := mo_rope t3 e2
  have nR : H R = none := (t1.trans t2).free hR
  have s3 := (t1.trans t2).trans t3
  generalize upd H2 R (.lst [.ref p1]) = H3 at t3 e3 e2' s3
  -- the first turns
  refine ⟨_, rfl, by show 2 ≤ sizeLine; decide, fun c0 hc0 => ⟨_, rfl, by show 2 ≤ sizeLine; decide, fun c1 hc1 => ⟨by show 2 ≤ sizeLine; decide, fun T hT => ?_⟩⟩⟩
  dsimp only at hc0 hc1 hT ⊢
  have u1 := same_new hc0 (.lst [.int 0, .int (-2)])
  have g1 : IntsL (upd H3 c0 (.lst [.int 0, .int (-2)])) c0 [0, -2] := upd_same
  generalize upd H3 c0 (.lst [.int 0, .int (-2)]) = H4 at u1 g1 hc1 hT
  have u2 := same_new hc1 (.lst [.int 1, .int (-1)])
  have g2 : IntsL (upd H4 c1 (.lst [.int 1, .int (-1)])) c1 [1, -1] := upd_same
  generalize upd H4 c1 (.lst [.int 1, .int (-1)]) = H5 at u2 g2 hT
  have u3 := same_new hT (.lst [.ref c0, .ref c1])
  have g3 : (upd H5 T (.lst [.ref c0, .ref c1])) T = some (.lst [.ref c0, .ref c1]) := upd_same
  generalize upd H5 T (.lst [.ref c0, .ref c1]) = H6 at u3 g3
  have s4 := s3.trans u1
  have s5 := s4.trans u2
  have s6 := s5.trans u3
  have nc0 : H c0 = none := s3.free hc0
  have nc1 : H c1 = none := s4.free hc1
  have nT : H T = none := s5.free hT
  have M0 : NetM H6 R T [p1] [c0, c1] [[0, -2], [1, -1]] [(0, 1, e)] := by
    have k1 : R ≠ c0 := fun z => by rw [← z, e3] at hc0; cases hc0
    have k2 : R ≠ c1 := fun z => by rw [← z, u1 _ _ e3] at hc1; cases hc1
    have k3 : R ≠ T := fun z => by rw [← z, u2 _ _ (u1 _ _ e3)] at hT; cases hT
    have k4 : c0 ≠ c1 := fun z => by rw [← z, show H4 c0 = _ from g1] at hc1; cases hc1
    have k5 : c0 ≠ T := fun z => by rw [← z, u2 _ _ g1] at hT; cases hT
    have k6 : c1 ≠ T := fun z => by rw [← z, show H5 c1 = _ from g2] at hT; cases hT
    refine ⟨⟨g3, At.snoc (bs := [c0]) (xs := [[0, -2]]) (At.snoc (bs := []) (xs := []) At.nil ?_) ?_, ?_⟩, ((u1.trans u2).trans u3) _ _ e3, At.snoc (bs := []) (xs := []) At.nil (mo_rope ((u1.trans u2).trans u3) e2'), ?_⟩
    · exact mo_ints (u2.trans u3) g1
    · exact mo_ints u3 g2
    · simp only [List.nodup_cons, List.mem_cons, List.not_mem_nil, or_false, not_or, List.nodup_nil, and_true, not_false_eq_true]
      exact ⟨⟨fun z => k5 z.symm, fun z => k6 z.symm⟩, k4⟩
    · simp only [List.mem_cons, List.not_mem_nil, or_false, not_or]
      exact ⟨k3, k1, k2⟩
  have ha6 := s6 _ _ ha
  refine ⟨_, rfl, a, rfl, ⟨_, SqL.of ha6⟩, ?_⟩
  refine for_list (xs := zs.map V.int) (fun i σ H2 => Same H H2 ∧ ∃ cs bs ts rs u v w, σ = [some (.ref a), some (.int z), some (.ref R), some (.ref T), u, v, w] ∧ NetM H2 R T cs bs ts rs ∧ Gi ts rs ∧ rs.length = i + 1 ∧ ∀ x ∈ bs, H x = none)
    ⟨s6, _, _, _, _, none, none, none, rfl, M0, Gi.first he h0, rfl, fun x hx => by
      simp only [List.mem_cons, List.not_mem_nil, or_false] at hx
      rcases hx with rfl | rfl
      · exact nc0
      · exact nc1⟩ (fun i σ H2 _ ⟨s, _⟩ => SqL.of (s _ _ ha)) ?_ ?_
  · rintro i x σ H2 hx ⟨s2, cs, bs, ts, rs, u, v, w', rfl, M, gi, hl, nb⟩
    rw [List.getElem?_map] at hx
    obtain ⟨y, hy, rfl⟩ := Option.map_eq_some_iff.mp hx
    have hi : i < zs.length := (List.getElem?_eq_some_iff.mp hy).1
    exact ⟨_, rfl, _, rfl, _, rfl, R, T, cs, bs, ts, rs, y, H, rfl, M, gi, by (first | lia | omega), by (first | lia | omega), hz0 y (List.mem_of_getElem? hy), s2, nR, nT, nb, fun H' cs' bs' ts' rs' sH M' gi' hl' nb' => ⟨sH, cs', bs', ts', rs', _, _, _, rfl, M', gi', by (first | lia | omega), nb'⟩⟩
  rintro σ H7 ⟨s7, cs, bs, ts, rs, u, v, w', rfl, M7, gi, hl, nb⟩
  rw [List.length_map] at hl
  have lb : bs.length = ts.length := M7.tm.rows.1
  have few := gi.few
  have two := gi.two
  refine ⟨by show 0 ≤ sizeLine; decide, fun D hD => ?_⟩
  have sD := same_new hD (.lst [])
  have eD : (upd H7 D (.lst [])) D = some (.lst []) := upd_same
  have nD : H D = none := s7.free hD
  obtain ⟨dm, dR⟩ := M7.mem hD
  have M8 := M7.keep sD
  have s8 := s7.trans sD
  generalize upd H7 D (.lst []) = H8 at sD eD M8 s8
  refine ⟨_, rfl, T, rfl, ⟨_, SqL.of M8.tm.h1⟩, ?_⟩
  refine for_list (xs := bs.map V.ref) (fun i σ H2 => Same H H2 ∧ (∃ u v, σ = [some (.ref a), some (.int z), some (.ref R), some (.ref T), u, some (.ref D), v]) ∧ NetM H2 R T cs bs ts rs ∧ ∃ ys, H2 D = some (.lst ys) ∧ ys.length = i)
    ⟨s8, ⟨_, _, rfl⟩, M8, [], eD, rfl⟩ (fun i σ H2 _ ⟨_, _, M, _⟩ => SqL.of M.tm.h1) ?_ ?_
  · rintro i x σ H2 hx ⟨s2, ⟨u, v, rfl⟩, M, ys, hDy, ly⟩
    obtain ⟨b, t, rfl, _, ht, hB⟩ := M.tm.rows.ref hx
    have hi : i < ts.length := (List.getElem?_eq_some_iff.mp ht).1
    have tl := gi.lens t (List.mem_of_getElem? ht)
    refine ⟨_, rfl, .inl ⟨rfl, _, SqL.of hDy⟩, _, rfl, b, rfl, ⟨_, SqL.of hB⟩, fun acc hacc => ?_⟩
    refine comp_run (run_list hB) (by rw [List.length_map]; (first | lia | omega)) hacc (fun i ys σ hp => ∃ u, σ = [u, some (.ref R)]) ⟨none, rfl⟩ ?_ ?_
    · rintro j ys2 σ H3 x H4 hj sm hacc2 ⟨u, rfl⟩ ⟨rfl, hx⟩ Cc hC
      rw [List.getElem?_map] at hx
      obtain ⟨y, hy, rfl⟩ := Option.map_eq_some_iff.mp hx
      refine ⟨_, rfl, _, _, rfl, rfl, _, rfl, ?_⟩
      refine ite2 (fun _ => ?_) (fun _ => ?_)
      · exact ⟨_, rfl, _, rfl, R, _, rfl, .inl (SqL.of (sm _ _ M.r1)), _, _, rfl, rfl, mul2 _, _, _, rfl, rfl, _, _, rfl, rfl, hC _ _ _ (Same.refl _) ⟨_, rfl⟩⟩
      · exact ⟨_, rfl, hC _ _ _ (Same.refl _) ⟨_, rfl⟩⟩
    · rintro ys2 σ H3 s3 ha3 hl3 ⟨u, rfl⟩
      refine ⟨acc, _, rfl, .inl ⟨SqL.of ha3, fun p hp => ?_⟩⟩
      have sp := same_new hp (.tup ys2)
      have s3p := s3.trans sp
      generalize upd H3 p (.tup ys2) = H4 at sp s3p
      refine ⟨D, ys, .ref p, rfl, rfl, s3p _ _ hDy, by rw [ly]; exact szl (by (first | lia | omega)), ?_⟩
      exact ⟨same_up (s2.trans s3p) nD _, ⟨_, _, rfl⟩, (M.keep s3p).far (s3p _ _ hDy) dm dR, _, upd_same, by rw [List.length_append, ly]; rfl⟩
  rintro σ H9 ⟨s9, ⟨u, v, rfl⟩, M9, ys, hDy, ly⟩
  refine ⟨_, rfl, T, _, rfl, .inl (SqL.of M9.tm.h1), _, rfl, R, _, rfl, .inl ⟨SqL.of M9.r1, fun r hr' => ?_⟩⟩
  have v1 := same_new hr' (.tup (cs.map V.ref))
  have w1 : TupR RopeR (upd H9 r (.tup (cs.map V.ref))) r rs := ⟨cs, upd_same, M9.rr.keep mo_rope v1⟩
  generalize upd H9 r (.tup (cs.map V.ref)) = H10 at v1 w1
  refine ⟨_, rfl, D, _, rfl, .inl ⟨SqL.of (v1 _ _ hDy), fun md hmd => ?_⟩⟩
  have v2 := same_new hmd (.tup ys)
  generalize upd H10 md (.tup ys) = H11 at v2
  refine ⟨by show 3 ≤ sizeLine; decide, fun p hp => ?_⟩
  have v3 := same_new hp (.tup [.int ((bs.map V.ref).length : Int), .ref r, .ref md])
  refine q p _ ts.length rs (s9.trans (v1.trans (v2.trans v3))) ⟨r, .ref md, ?_, mo_tup (R := RopeR) (fun s h => mo_rope s h) (v2.trans v3) w1⟩ (hl ▸ gi_netE gi)
  rw [upd_same, List.length_map, lb]
end
end My
namespace My
open PySem L2 Mth Wd
section
variable {P : Program} {w : World} {K : PySem.W.Frag} {mg : Str → Option Value} {base : Heap} {f g h f1 f2 f3 f4 : Addr} {fd gd hd d1 d2 d3 d4 : FuncData}
noncomputable def spSome (K : PySem.W.Frag) : Sp := fun vs H Q _ => ∃ (a b : Addr) (ns ms : List Int) (M at_ : Nat), vs = [.ref a, .int (at_ : Int), .ref b] ∧ at_ ≤ 1000 ∧ ScA K H a ns ∧ H b = some (.lst (ms.map V.int)) ∧ 0 < ms.length ∧ ms.length ≤ 100 ∧ M ≤ 14 ∧ (∀ m ∈ ms, 0 ≤ m ∧ m + 1 ≤ (M : Int)) ∧
  ∀ p H' n m rs, Same H H' → NetR H' p n rs → NetE n m rs → m ≤ M → Q (.ref p) H'
theorem scSn : FnScope ["_law_script", "_law_at", "_law_sizes", "_law_many", "_law_last", "_law_cells", "_law_rope"] ["_law_script", "_law_at", "_law_sizes"] (defScope sSomeNet) := ⟨rfl, rfl, rfl, by decide +kernel, rfl, by decide +kernel, by decide +kernel⟩
theorem ndKS : (["_law_k", "_law_script"] : List Str).Nodup := by decide +kernel
theorem ndCh : (["_law_cell_here"] : List Str).Nodup := by decide +kernel
noncomputable abbrev tAdd (a b : TE) : TE := tOp (rI0 fun i j => .int (i + j)) a b
noncomputable abbrev tMod (a b : TE) : TE := tOp (rI (fun _ j => 0 < j) fun i j => .int (i % j)) a b
noncomputable abbrev tMul (a b : TE) : TE := tOp (rI CMul fun i j => .int (i * j)) a b
noncomputable abbrev tDiv (a b : TE) : TE := tOp (rI CDiv fun i j => .int (i / j)) a b
set_option maxHeartbeats 4000000 in
seal L2.PSs L2.PS L2.PE L2.PA in
theorem ok_some (F : Fun K "_law_some_net" "_law_some_net" sSomeNet f fd) (G1 : FnOk P w K mg base CX0 1 f1 d1 ["_law_script", "_law_k"] (spCell K)) (b1 : Binds K d1 ["_law_script", "_law_k"] []) (k1 : PySem.W.keepIn K (.ref f1) = true) (m1 : mg "_law_cell" = some (.ref f1))
    (G2 : FnOk P w K mg base CX0 4 f2 d2 ["_law_cells", "_law_first"] spNet) (b2 : Binds K d2 ["_law_cells", "_law_first"] []) (k2 : PySem.W.keepIn K (.ref f2) = true) (m2 : mg "_law_net" = some (.ref f2)) (ml : mg "len" = none) (mn : mg "min" = none) (mr : mg "range" = none) :
    FnOk P w K mg base CX0 5 f fd ["_law_script", "_law_at", "_law_sizes"] (spSome K) := by
  refine F.ok scSn (fun vs H Q E h => ?_) (fun cdv A outer s H vs Q E hr h => ?_)
  · obtain ⟨a, b, ns, ms, M, at_, rfl, _⟩ := h
    rfl
  obtain ⟨a, b, ns, ms, M, at_, rfl, ha1, hS, hb, l0, l1, hM, hm, q⟩ := h
  have hr1 := hr.mono (show 1 ≤ 4 by decide)
  refine ⟨_, pss_cons (ps_set (i := 3) scSn.nd rfl (Or.inl rfl) (pe_ix ix_list (pv 2) (pe_op op_mod (pe_call G1 hr1 (by rfl) m1 k1 b1 .nil pass0 (pa_cons (pv 0) (pa_cons (pv 1) pa_nil))) (pe_callB call_len_seq (by rfl) ml bt_len (pa_cons (pv 2) pa_nil))) (fun _ _ => rfl)))
    (pss_cons (ps_set (i := 4) scSn.nd rfl (Or.inl rfl) (pe_op op_add (pe_op op_add (pv 1) pe_int) (pv 3)))
    (pss_cons (ps_if (pt_cmpR op_lt (pv 3) pe_int (nomark _)) (pss_one (ps_set (i := 4) scSn.nd rfl (Or.inl rfl) (pe_callB (call_min2 rfl) (by rfl) mn bt_min (pa_cons (pe_callB call_len_seq (by rfl) ml bt_len (pa_cons (pv 0) pa_nil)) (pa_cons (pv 4) pa_nil))))) pss_nil)
    (pss_cons (ps_setComp (i := 5) scSn.nd rfl (Or.inl rfl) (Nc := ["_law_k", "_law_script"]) (cap := [(1, 0)]) (g := gName 0) (te := tCall (spCell K) [] E0 (tCons (tVar 1) (tCons (tVar 0) tNil))) rfl (pi_range2 (by rfl) mr (pa_cons (pe_op op_add (pv 1) pe_int) (pa_cons (pv 4) pa_nil)))
        (comp_mk rfl rfl (by decide +kernel) (by decide +kernel) (List.forall_mem_cons.mpr ⟨⟨rfl, rfl⟩, List.forall_mem_nil _⟩) rfl (List.forall_mem_cons.mpr ⟨⟨_, _, rfl, rfl, rfl, rfl, rfl⟩, List.forall_mem_nil _⟩))
        (fun C fp pins s' H' => pg_name (i := 0) ndKS rfl (Or.inl rfl)) (fun C fp pins s' H' => pe_call G1 hr1 (by rfl) m1 k1 b1 .nil pass0 (pa_cons (pv 1) (pa_cons (pv 0) pa_nil))))
    (pss_cons (ps_set (i := 6) scSn.nd rfl (Or.inl rfl) (pe_call G1 hr1 (by rfl) m1 k1 b1 .nil pass0 (pa_cons (pv 0) (pa_cons (pe_op op_add (pv 1) pe_int) pa_nil))))
    (pss_cons (ps_if (pt_cmpR op_eq (pv 3) pe_int (nomark _))
      (pss_cons (ps_set (i := 6) scSn.nd rfl (Or.inl rfl) (pe_op op_add (pe_op op_add (pe_op op_mul (pe_op op_fdiv (pv 6) pe_int) pe_int) pe_int) (pe_op op_mod (pv 6) pe_int)))
      (pss_one (ps_setComp (i := 5) scSn.nd rfl (Or.inl rfl) (Nc := ["_law_cell_here"]) (cap := []) (g := gName 0) (te := tAdd (tMod (tVar 0) (tC (.int 1024))) (tMul (tC (.int 1024)) (tAdd (tAdd (tMul (tDiv (tVar 0) (tC (.int 4096))) (tC (.int 4))) (tC (.int 1))) (tMod (tVar 0) (tC (.int 3)))))) rfl (pi_list (pv 5))
        (comp_mk rfl rfl (by decide +kernel) (by decide +kernel) (List.forall_mem_nil _) rfl (List.forall_mem_nil _)) (fun C fp pins s' H' => pg_name (i := 0) ndCh rfl (Or.inl rfl))
        (fun C fp pins s' H' => pe_op op_add (pe_op op_mod (pv 0) pe_int) (pe_op op_mul pe_int (pe_op op_add (pe_op op_add (pe_op op_mul (pe_op op_fdiv (pv 0) pe_int) pe_int) pe_int) (pe_op op_mod (pv 0) pe_int))))))) pss_nil)
    (pss_cons (ps_if (pt_cmpR op_eq (pv 3) pe_int (nomark _))
      (pss_one (ps_setComp (i := 5) scSn.nd rfl (Or.inl rfl) (Nc := ["_law_cell_here"]) (cap := []) (g := gName 0) (te := tAdd (tMul (tDiv (tVar 0) (tC (.int 8))) (tC (.int 8))) (tMod (tDiv (tVar 0) (tC (.int 8))) (tC (.int 5)))) rfl (pi_list (pv 5))
        (comp_mk rfl rfl (by decide +kernel) (by decide +kernel) (List.forall_mem_nil _) rfl (List.forall_mem_nil _)) (fun C fp pins s' H' => pg_name (i := 0) ndCh rfl (Or.inl rfl))
        (fun C fp pins s' H' => pe_op op_add (pe_op op_mul (pe_op op_fdiv (pv 0) pe_int) pe_int) (pe_op op_mod (pe_op op_fdiv (pv 0) pe_int) pe_int)))) pss_nil)
    (pss_one (ps_ret (pe_call G2 hr (by rfl) m2 k2 b2 .nil pass0 (pa_cons (pv 5) (pa_cons (pv 6) pa_nil))))))))))), ?_⟩
  have lpos : (0 : Int) < ((ms.map V.int).length : Int) := by rw [List.length_map]; (first | lia | omega)
  refine ⟨_, rfl, _, rfl, _, rfl, a, ns, _, rfl, hS, by (first | lia | omega), fun z1 hz1 => ⟨_, rfl, b, _, rfl, .inl (SqL.of hb), _, _, rfl, rfl, lpos, ?_⟩⟩
  obtain ⟨m, hmm, hat⟩ : ∃ m, m ∈ ms ∧ atI (ms.map V.int) (z1 % ((ms.map V.int).length : Int)) = some (.int m) := by
    have y0 := Int.emod_nonneg z1 (show ((ms.map V.int).length : Int) ≠ 0 by (first | lia | omega))
    have y1 := Int.emod_lt_of_pos z1 lpos
    obtain ⟨y, hy⟩ := Int.eq_ofNat_of_zero_le y0
    rw [hy]
    rw [hy, List.length_map] at y1
    refine ⟨ms[y]'(by (first | lia | omega)), List.getElem_mem _, atI_nat ?_⟩
    rw [List.getElem?_map, List.getElem?_eq_getElem (by (first | lia | omega))]; rfl
  obtain ⟨mm0, mm1⟩ := hm m hmm
  refine ⟨b, _, _, _, rfl, rfl, SqL.of hb, hat, ?_⟩
  refine ⟨_, rfl, _, _, rfl, rfl, _, rfl, _, _, rfl, rfl, ?_⟩
  refine name_go (nx_go ?_)
  refine seq_join (t := tIfS _ _ _) (G := fun σ H1 => H1 = H ∧ ∃ L : Int, 0 ≤ L ∧ L ≤ (at_ : Int) + 2 + m ∧ σ = [some (.ref a), some (.int (at_ : Int)), some (.ref b), some (.int m), some (.int L), none, none]) ?m ?r
  case m =>
    intro fin
    refine ⟨_, rfl, _, _, rfl, rfl, _, rfl, ?_⟩
    refine ite2 (fun _ => ⟨_, rfl, a, _, rfl, .inl hS.1, _, rfl, _, _, rfl, ?_⟩) (fun _ => ?_)
    · exact fin _ _ ⟨rfl, _, by split <;> (first | lia | omega), by split <;> (first | lia | omega), rfl⟩
    · exact fin _ _ ⟨rfl, _, by (first | lia | omega), by (first | lia | omega), rfl⟩
  case r =>
  rintro σ H0 ⟨rfl, L, L0, L1, rfl⟩
  refine ⟨_, rfl, _, _, rfl, rfl, _, rfl, _, _, rfl, ⟨by (first | lia | omega), by (first | lia | omega), by (first | lia | omega), by (first | lia | omega)⟩, fun acc hacc => ?_⟩
  refine comp_run run_range (by (first | lia | omega)) hacc (fun i ys σ _ => ∃ zs : List Int, ys = zs.map V.int ∧ zs.length = i ∧ (∀ x ∈ zs, 0 ≤ x) ∧ ∃ u, σ = [u, some (.ref a)]) ⟨[], rfl, rfl, by simp, none, rfl⟩ ?_ ?_
  · rintro i ys σ H2 x H3 hi sm hacc2 ⟨zs, rfl, lz, nz, u, rfl⟩ ⟨rfl, rfl⟩ Cc hC
    refine ⟨_, rfl, _, rfl, a, ns, _, rfl, ⟨sm.seq hS.1, hS.2⟩, by (first | lia | omega), fun z hz => hC _ _ _ (Same.refl _) ⟨zs ++ [z], by simp, by simp [lz], fun x hx => ?_, _, rfl⟩⟩
    rcases List.mem_append.mp hx with w | w
    · exact nz x w
    · rw [List.mem_singleton.mp w]; exact hz.1
  rintro ys σ H2 s2 hc hl ⟨zs, rfl, lz, nz, u, rfl⟩
  refine ⟨_, rfl, _, rfl, _, _, rfl, rfl, a, ns, _, rfl, ⟨s2.seq hS.1, hS.2⟩, by (first | lia | omega), fun z2 hz2 => ?_⟩
  refine name_go (nx_go ?_)
  refine seq_join (t := tIfS _ _ _) (G := fun σ H1 => Same H0 H1 ∧ ∃ (pz : Addr) (zs : List Int) (z : Int), H1 pz = some (.lst (zs.map V.int)) ∧ zs.length + 1 ≤ M ∧ (∀ x ∈ zs, 0 ≤ x) ∧ σ = [some (.ref a), some (.int (at_ : Int)), some (.ref b), some (.int m), some (.int L), some (.ref pz), some (.int z)]) ?m ?r
  case m =>
    intro fin
    refine ⟨_, rfl, rfl, _, rfl, ?_⟩
    refine ite2 (fun _ => ⟨_, rfl, _, _, rfl, rfl, ⟨by decide, by decide⟩, _, _, rfl, rfl, .inr ⟨by decide, by decide⟩, _, _, rfl, rfl, _, rfl, _, _, rfl, rfl, (show (0 : Int) < 3 by decide), _, _, rfl, rfl, _, rfl, acc, rfl, ⟨_, SqL.of hc⟩, fun ac2 hac2 => ?_⟩) (fun _ => ?_)
    · refine comp_run (run_list hc) (by rw [List.length_map]; (first | lia | omega)) hac2 (fun i ys σ _ => ∃ zs : List Int, ys = zs.map V.int ∧ zs.length = i ∧ (∀ x ∈ zs, 0 ≤ x) ∧ ∃ u, σ = [u]) ⟨[], rfl, rfl, by simp, none, rfl⟩ ?_ ?_
      · rintro i ys σ H3 x H4 hi sm hacc2 ⟨zs2, rfl, lz2, nz2, u, rfl⟩ ⟨rfl, hx⟩ Cc hC
        rw [List.getElem?_map] at hx
        obtain ⟨y, hy, rfl⟩ := Option.map_eq_some_iff.mp hx
        have y0 := nz y (List.mem_of_getElem? hy)
        refine ⟨_, rfl, _, _, rfl, rfl, (show (0 : Int) < 1024 by decide), _, rfl, _, _, rfl, rfl, ⟨by decide, by decide⟩, _, _, rfl, rfl, .inr ⟨by decide, by decide⟩, _, _, rfl, rfl, _, rfl, _, _, rfl, rfl, (show (0 : Int) < 3 by decide), _, _, rfl, rfl, _, _, rfl, rfl, .inl ⟨by decide, by decide⟩, _, _, rfl, rfl, hC _ _ _ (Same.refl _) ⟨zs2 ++ [y % 1024 + 1024 * (y / 4096 * 4 + 1 + y % 3)], by simp, by simp [lz2], fun x hx => ?_, _, rfl⟩⟩
        rcases List.mem_append.mp hx with w | w
        · exact nz2 x w
        · rw [List.mem_singleton.mp w]; (first | lia | omega)
      rintro ys σ H3 s3 hc3 hl3 ⟨zs3, rfl, lz3, nz3, u, rfl⟩
      rw [List.length_map] at lz3
      exact fin _ _ ⟨s2.trans s3, ac2, zs3, _, hc3, by (first | lia | omega), nz3, rfl⟩
    · exact fin _ _ ⟨s2, acc, zs, _, hc, by (first | lia | omega), nz, rfl⟩
  case r =>
  clear hc hl lz nz hacc s2
  rintro σ H1 ⟨s1, pz, zs, z, hc, lz, nz, rfl⟩
  refine seq_join (t := tIfS _ _ _) (G := fun σ H2 => Same H0 H2 ∧ ∃ (pz : Addr) (zs : List Int) (z : Int), H2 pz = some (.lst (zs.map V.int)) ∧ zs.length + 1 ≤ M ∧ (∀ x ∈ zs, 0 ≤ x) ∧ σ = [some (.ref a), some (.int (at_ : Int)), some (.ref b), some (.int m), some (.int L), some (.ref pz), some (.int z)]) ?m ?r
  case m =>
    intro fin
    refine ⟨_, rfl, rfl, _, rfl, ?_⟩
    · refine ite2 (fun _ => ⟨_, rfl, pz, rfl, ⟨_, SqL.of hc⟩, fun ac3 hac3 => ?_⟩) (fun _ => ?_)
      · refine comp_run (run_list hc) (by rw [List.length_map]; (first | lia | omega)) hac3 (fun i ys σ _ => ∃ zs : List Int, ys = zs.map V.int ∧ zs.length = i ∧ (∀ x ∈ zs, 0 ≤ x) ∧ ∃ u, σ = [u]) ⟨[], rfl, rfl, by simp, none, rfl⟩ ?_ ?_
        · rintro i ys σ H4 x H5 hi sm hacc2 ⟨zs2, rfl, lz2, nz2, u, rfl⟩ ⟨rfl, hx⟩ Cc hC
          rw [List.getElem?_map] at hx
          obtain ⟨y, hy, rfl⟩ := Option.map_eq_some_iff.mp hx
          have y0 := nz y (List.mem_of_getElem? hy)
          refine ⟨_, rfl, _, _, rfl, rfl, ⟨by decide, by decide⟩, _, _, rfl, rfl, .inr ⟨by decide, by decide⟩, _, rfl, _, _, rfl, rfl, ⟨by decide, by decide⟩, _, _, rfl, rfl, (show (0 : Int) < 5 by decide), _, _, rfl, rfl, hC _ _ _ (Same.refl _) ⟨zs2 ++ [y / 8 * 8 + y / 8 % 5], by simp, by simp [lz2], fun x hx => ?_, _, rfl⟩⟩
          rcases List.mem_append.mp hx with w | w
          · exact nz2 x w
          · rw [List.mem_singleton.mp w]; (first | lia | omega)
        rintro ys σ H4 s4 hc4 hl4 ⟨zs4, rfl, lz4, nz4, u, rfl⟩
        rw [List.length_map] at lz4
        exact fin _ _ ⟨s1.trans s4, ac3, zs4, _, hc4, by (first | lia | omega), nz4, rfl⟩
      · exact fin _ _ ⟨s1, pz, zs, _, hc, lz, nz, rfl⟩
  case r =>
  clear hc lz nz s1
  rintro σ H1 ⟨s1, pz, zs, z, hc, lz, nz, rfl⟩
  exact ⟨_, rfl, _, rfl, pz, zs, _, rfl, hc, by (first | lia | omega), nz, fun p H' n rs s5 w1 w2 => q p H' n _ rs (s1.trans s5) w1 w2 (by (first | lia | omega))⟩
end
end My
namespace My
open PySem L2 Mth Wd
section
variable {K : PySem.W.Frag}
theorem comp_runF {J : It} {n : Nat} {H1 : Hp} {f : Nat → Hp → V → Hp → Prop} {acc : Addr} {σ0 : St} {g : TG} {tt : TT} {te : TE} {G : Hp → Prop} (r : Run J H1 n f) (hn : n ≤ 1000) (hacc : H1 acc = none) (Iv : Nat → List V → St → Hp → Prop) (h0 : Iv 0 [] σ0 H1)
    (hs : ∀ (i : Nat) (ys : List V) (σ : St) (H2 : Hp) (x : V) (H3 : Hp), i < n → Same H1 H2 → H2 acc = some (.lst ys) → Iv i ys σ (del H2 acc) → f i H2 x H3 → ∀ (C : St → VK) (N : St → Hp → Prop), (∀ (σ4 : St) (v : V) (H5 : Hp), Same H2 H5 → Iv (i + 1) (ys ++ [v]) σ4 (del H5 acc) → C σ4 v H5) → (∀ (σ4 : St) (H5 : Hp), Same H2 H5 → Iv (i + 1) ys σ4 (del H5 acc) → N σ4 H5) →
      g x σ H3 fun σ4 H4 => tt σ4 H4 fun ok H5 => if ok = true then te σ4 H5 (C σ4) else N σ4 H5)
    (fin : ∀ (ys : List V) (σ : St) (H2 : Hp), Same H1 H2 → H2 acc = some (.lst ys) → Iv n ys σ (del H2 acc) → G H2) :
    ∃ W : Nat → Nat → List V → St → Hp → Prop, (∃ m, W 0 m [] σ0 (upd H1 acc (.lst []))) ∧ ∀ i m ys σc H2, W i m ys σc H2 →
      (J.stop i H2 ∧ G H2) ∨ (J.go i H2 ∧ ∀ x H3, J.yld i H2 x H3 → g x σc H3 fun σ4 H4 => tt σ4 H4 fun ok H5 => if ok = true then (te σ4 H5 fun v H6 => H6 acc = some (.lst ys) ∧ ys.length < sizeLine ∧ ∃ m', m' < m ∧ W (i + 1) m' (ys ++ [v]) σ4 (upd H6 acc (.lst (ys ++ [v])))) else ∃ m', m' < m ∧ W (i + 1) m' ys σ4 H5) := by
  refine ⟨fun i m ys σ H2 => m = n - i ∧ i ≤ n ∧ Same H1 H2 ∧ H2 acc = some (.lst ys) ∧ ys.length ≤ i ∧ Iv i ys σ (del H2 acc), ⟨n, rfl, Nat.zero_le _, ?_, upd_same, Nat.le_refl _, ?_⟩, ?_⟩
  · intro b o e; rw [upd_ne (ne_of_none e hacc)]; exact e
  · rw [del_upd, del_new hacc]; exact h0
  · rintro i m ys σc H2 ⟨rfl, hi, sm, ha, hl, iv⟩
    rcases Nat.lt_or_ge i n with hlt | hge
    · refine .inr ⟨r.go i H2 hlt sm, fun x H3 yl => ?_⟩
      refine hs i ys σc H2 x H3 hlt sm ha iv (r.yl i H2 x H3 hlt sm yl) (fun σ4 v H5 => H5 acc = some (.lst ys) ∧ ys.length < sizeLine ∧ ∃ m', m' < n - i ∧ (m' = n - (i + 1) ∧ i + 1 ≤ n ∧ Same H1 (upd H5 acc (.lst (ys ++ [v]))) ∧ (upd H5 acc (.lst (ys ++ [v]))) acc = some (.lst (ys ++ [v])) ∧ (ys ++ [v]).length ≤ i + 1 ∧ Iv (i + 1) (ys ++ [v]) σ4 (del (upd H5 acc (.lst (ys ++ [v]))) acc)))
        (fun σ4 H5 => ∃ m', m' < n - i ∧ (m' = n - (i + 1) ∧ i + 1 ≤ n ∧ Same H1 H5 ∧ H5 acc = some (.lst ys) ∧ ys.length ≤ i + 1 ∧ Iv (i + 1) ys σ4 (del H5 acc))) ?_ ?_
      · intro σ4 v H5 s5 iv5
        refine ⟨s5 _ _ ha, by rw [sizeLine_eq]; (first | lia | omega), n - (i + 1), by (first | lia | omega), rfl, hlt, ?_, upd_same, by rw [List.length_append, List.length_singleton]; (first | lia | omega), ?_⟩
        · intro b o e; rw [upd_ne (ne_of_none e hacc)]; exact s5 _ _ (sm _ _ e)
        · rw [del_upd]; exact iv5
      · intro σ4 H5 s5 iv5
        exact ⟨n - (i + 1), by (first | lia | omega), rfl, hlt, sm.trans s5, s5 _ _ ha, by (first | lia | omega), iv5⟩
    · obtain rfl : i = n := by (first | lia | omega)
      exact .inl ⟨r.st H2 sm, fin ys σc H2 sm ha iv⟩
end
noncomputable def RowN (H : Hp) (b : Addr) (r : List Nat) : Prop := H b = some (.tup (natV r))
theorem mo_rowN : Mo RowN := fun s h => s _ _ h
theorem RowN.del {H : Hp} {a b : Addr} {t : List Nat} {ys : List V} (h : RowN H b t) (e : H a = some (.lst ys)) : RowN (del H a) b t := del_at h fun z => by rw [z] at h; unfold RowN at h; rw [e] at h; cases h
theorem at_row_upd {H : Hp} {l : Addr} {ys : List V} {o : HO} {gs : List Addr} {us : List (List Nat)} (hl : H l = some (.lst ys)) (h : At RowN H gs us) : At RowN (upd H l o) gs us := ⟨h.1, fun i b x e1 e2 => by
  have := h.2 i b x e1 e2
  unfold RowN at this ⊢
  rw [upd_ne (fun z => by rw [z, hl] at this; cases this)]
  exact this⟩
noncomputable abbrev extR (m : Nat) (r : List Nat) : List (List Nat) := (List.range' (leastR r) (m - leastR r)).map fun x => r ++ [x]
theorem rise_succ (m s : Nat) : riseR m (s+1) = (riseR m s).flatMap (extR m) := rfl
theorem natV_app (r : List Nat) (x : Nat) : natV (r ++ [x]) = natV r ++ [.int (x : Int)] := by unfold natV; rw [List.map_append]; rfl
theorem at_lastR {r : List Nat} (h : r ≠ []) : ∃ x : Nat, leastR r = x + 1 ∧ atI (natV r) (-1) = some (.int (x : Int)) := by
  obtain ⟨q, x, rfl⟩ : ∃ q x, r = q ++ [x] := ⟨r.dropLast, r.getLast h, (List.dropLast_concat_getLast h).symm⟩
  refine ⟨x, by unfold leastR; rw [List.getLast?_concat], ?_⟩
  rw [natV_app]
  unfold atI ixN
  have e : (natV q ++ [V.int (x : Int)]).length = q.length + 1 := by rw [List.length_append, List.length_map]; rfl
  rw [if_neg (by decide), if_pos (by (first | lia | omega)), e, show (-1 + ((q.length + 1 : Nat) : Int)).toNat = q.length by (first | lia | omega)]
  show (natV q ++ [V.int (x : Int)])[q.length]? = _
  rw [List.getElem?_append_right (by rw [List.length_map]; exact Nat.le_refl _), List.length_map, Nat.sub_self]
  rfl
theorem least_le {m : Nat} {r : List Nat} (h : ∀ x ∈ r, x < m) : leastR r ≤ m := by
  unfold leastR
  cases e : r.getLast? with
  | none => exact Nat.zero_le _
  | some x => exact h x (List.mem_of_getLast? e)
theorem ext_at {m : Nat} {r : List Nat} {j : Nat} (h : j < m - leastR r) : (extR m r)[j]? = some (r ++ [leastR r + j]) := by
  rw [List.getElem?_map, List.getElem?_range' h]
  simp
theorem ext_len (m : Nat) (r : List Nat) : (extR m r).length = m - leastR r := by rw [List.length_map, List.length_range']
theorem pre_len {m i j : Nat} (hm : m ≤ 9) (hi : i < 9) : (((riseR m i).take j).flatMap (extR m)).length ≤ 126 := by
  have h := rise_few m (by (first | lia | omega)) (i+1) (by (first | lia | omega))
  rw [rise_succ, ← List.take_append_drop j (riseR m i), List.flatMap_append, List.length_append] at h
  (first | lia | omega)
theorem pre_snoc {m : Nat} {rs : List (List Nat)} {j : Nat} {r : List Nat} (h : rs[j]? = some r) : (rs.take (j+1)).flatMap (extR m) = (rs.take j).flatMap (extR m) ++ extR m r := by
  rw [take_snoc h, List.flatMap_append, List.flatMap_cons, List.flatMap_nil, List.append_nil]
section
variable {P : Program} {w : World} {K : PySem.W.Frag} {mg : Str → Option Value} {base : Heap} {f g h f1 f2 f3 f4 : Addr} {fd gd hd d1 d2 d3 d4 : FuncData}
noncomputable def spRise : Sp := fun vs H Q _ => ∃ (m s : Nat), vs = [.int (m : Int), .int (s : Int)] ∧ m ≤ 9 ∧ s ≤ 9 ∧ ∀ p H', Same H H' → H p = none → LstR RowN H' p (riseR m s) → Q (.ref p) H'
end
end My
namespace My
open PySem L2 Mth Wd
theorem natV_int (r : List Nat) : natV r = (r.map fun x : Nat => (x : Int)).map V.int := by unfold natV; rw [List.map_map]; rfl
section
variable {P : Program} {w : World} {K : PySem.W.Frag} {mg : Str → Option Value} {base : Heap} {f g h f1 f2 f3 f4 C : Addr} {fd gd hd d1 d2 d3 d4 : FuncData}
theorem scLR : FnScope ["_law_count", "_law_many", "_law_found", "_law_turn", "_law_longer", "_law_one", "_law_first", "_law_k"] ["_law_count", "_law_many"] (defScope s_law_rising) := ⟨rfl, rfl, rfl, by decide +kernel, rfl, by decide +kernel, by decide +kernel⟩
set_option maxHeartbeats 1000000 in
seal L2.PSs L2.PS L2.PE L2.PA in
theorem ok_lrise (F : Fun K "_law_rising" "_law_rising" s_law_rising f fd) (mr : mg "range" = none) : FnOk P w K mg base CX0 1 f fd ["_law_count", "_law_many"] spRise := by
  refine F.ok scLR (fun vs H Q E h => ?_) (fun cdv A outer s H vs Q E hr h => ?_)
  · obtain ⟨m, n, rfl, _⟩ := h
    rfl
  obtain ⟨m, n, rfl, hm, hn, q⟩ := h
  have hu : (A.deeper (PyProof.Rows.envOfC "_law_rising" (defScope s_law_rising) s.heap.objs.size f cdv)).units + 64 < cLine := hr.units
  refine ⟨_, pss_cons (ps_set (i := 2) scLR.nd rfl (Or.inl rfl) (pe_lst (pa_cons (pe_tup pa_nil) pa_nil)))
    (pss_cons (ps_for PassesOwn.never rfl (pi_range1 (by rfl) mr (pa_cons (pv 1) pa_nil)) (pg_name (i := 3) scLR.nd rfl (Or.inl rfl))
      (pss_cons (ps_set (i := 4) scLR.nd rfl (Or.inl rfl) (pe_lst pa_nil))
      (pss_cons (ps_for PassesOwn.never rfl (pi_list (pv 2)) (pg_name (i := 5) scLR.nd rfl (Or.inl rfl))
        (pss_cons (ps_set (i := 6) scLR.nd rfl (Or.inl rfl) pe_int)
        (pss_cons (ps_if (pt_cmpR (op_ne_tup hu) (pv 5) (pe_tup pa_nil) (nomark _)) (pss_one (ps_set (i := 6) scLR.nd rfl (Or.inl rfl) (pe_op op_add (pe_ix ix_tup (pv 5) (pe_un un_neg pe_int) (fun _ _ => rfl)) pe_int))) pss_nil)
        (pss_one (ps_for PassesOwn.never rfl (pi_range2 (by rfl) mr (pa_cons (pv 6) (pa_cons (pv 0) pa_nil))) (pg_name (i := 7) scLR.nd rfl (Or.inl rfl))
          (pss_one (ps_expr (pe_bm PySem.F.plainAttrs_list PySem.F.slot_list_append PySem.F.type_list_append mt_append (pv 4) (pa_cons (pe_op op_catA (pv 5) (pe_tup (pa_cons (pv 7) pa_nil))) pa_nil)))))))))
      (pss_one (ps_set (i := 2) scLR.nd rfl (Or.inl rfl) (pv 4))))))
    (pss_one (ps_ret (pv 2)))), ?_⟩
  refine ⟨by show 0 ≤ sizeLine; decide, fun t ht => ⟨by show 1 ≤ sizeLine; decide, fun R0 hR0 => ?_⟩⟩
  dsimp only at ht hR0 ⊢
  have s1 := same_new ht (.tup [])
  have e1 : RowN (upd H t (.tup [])) t [] := upd_same
  generalize upd H t (.tup []) = H1 at s1 e1 hR0
  have s2 := same_new hR0 (.lst [.ref t])
  have e2 : LstR RowN (upd H1 R0 (.lst [.ref t])) R0 (riseR m 0) := ⟨[t], upd_same, At.snoc (bs := []) (xs := []) At.nil (mo_rowN s2 e1)⟩
  have s02 := s1.trans s2
  generalize upd H1 R0 (.lst [.ref t]) = H2 at s2 e2 s02
  refine ⟨_, rfl, ((n : Nat) : Int), rfl, by (first | lia | omega), by (first | lia | omega), ?_⟩
  rw [show ((n : Nat) : Int).toNat = n by (first | lia | omega)]
  refine for_range (n := n) (fun i σ H3 => Same H H3 ∧ ∃ R u3 u4 u5 u6 u7, σ = [some (.int (m : Int)), some (.int (n : Int)), some (.ref R), u3, u4, u5, u6, u7] ∧ H R = none ∧ LstR RowN H3 R (riseR m i)) ⟨s02, R0, none, none, none, none, none, rfl, s1.free hR0, e2⟩ ?_ ?_
  · rintro i σ H3 hi ⟨s3, R, u3, u4, u5, u6, u7, rfl, _, bs, hR, hB⟩
    refine name_go ?_
    refine ⟨by show 0 ≤ sizeLine; decide, fun L hL => ?_⟩
    have sL := same_new hL (.lst [])
    have eL : (upd H3 L (.lst [])) L = some (.lst (([] : List Addr).map V.ref)) := upd_same
    have nL : H L = none := s3.free hL
    have s4 := s3.trans sL
    have hR4 := sL _ _ hR
    have hB4 := hB.keep mo_rowN sL
    have RL : R ≠ L := fun z => by rw [z, hL] at hR; cases hR
    generalize upd H3 L (.lst []) = H4 at sL eL s4 hR4 hB4
    refine ⟨_, rfl, R, rfl, ⟨_, SqL.of hR4⟩, ?_⟩
    refine for_list (xs := bs.map V.ref) (fun j σ H5 => SameB L H4 H5 ∧ Same H H5 ∧ ∃ gs u5 u6 u7, σ = [some (.int (m : Int)), some (.int (n : Int)), some (.ref R), some (.int ((0 : Int) + (i : Int))), some (.ref L), u5, u6, u7] ∧ H5 L = some (.lst (gs.map V.ref)) ∧ At RowN H5 gs (((riseR m i).take j).flatMap (extR m)))
      ⟨SameB.refl _ _, s4, [], u5, u6, u7, rfl, eL, At.nil⟩ (fun j σ H5 _ h => SqL.of (h.1 _ _ RL hR4)) ?_ ?_
    · rintro j x σ H5 hx ⟨sb5, s5, gs, v5, v6, v7, rfl, hL5, aG⟩
      obtain ⟨b, r, rfl, _, hy, hb⟩ := hB4.ref hx
      have hbL : b ≠ L := fun z => by
        rw [z] at hb
        have := hb.symm.trans eL
        cases this
      have hb5 : RowN H5 b r := sb5 _ _ hbL hb
      obtain ⟨rl, rb⟩ := rise_len (List.mem_of_getElem? hy)
      have lle := least_le rb
      refine name_go ?_
      refine seq_join (G := fun σ H' => H' = H5 ∧ σ = [some (.int (m : Int)), some (.int (n : Int)), some (.ref R), some (.int ((0 : Int) + (i : Int))), some (.ref L), some (.ref b), some (.int 0), v7]) (fun rest => nx_go (rest _ _ ⟨rfl, rfl⟩)) ?_
      rintro σ H6 ⟨rfl, rfl⟩
      refine seq_join (G := fun σ H' => Same H6 H' ∧ σ = [some (.int (m : Int)), some (.int (n : Int)), some (.ref R), some (.int ((0 : Int) + (i : Int))), some (.ref L), some (.ref b), some (.int (leastR r : Int)), v7]) (fun rest => ?_) ?_
      · refine ⟨_, rfl, by show 0 ≤ sizeLine; decide, fun e0 he0 => ?_⟩
        dsimp only at he0 ⊢
        have s7 := same_new he0 (.tup [])
        have e7 : (upd H6 e0 (.tup [])) e0 = some (.tup (([] : List Int).map V.int)) := upd_same
        generalize upd H6 e0 (.tup []) = H7 at s7 e7
        have hb7 : RowN H7 b r := mo_rowN s7 hb5
        refine ⟨b, e0, r.map (fun x : Nat => (x : Int)), [], rfl, rfl, by rw [← natV_int]; exact hb7, e7, _, rfl, ?_⟩
        by_cases hr0 : r = []
        · refine iteNS (by rw [hr0]; rfl) ?_
          refine rest _ _ ⟨s7, ?_⟩
          rw [hr0]; rfl
        · obtain ⟨x, ex, ax⟩ := at_lastR hr0
          refine iteNN (fun z => hr0 (List.map_eq_nil_iff.mp z)) ?_
          refine ⟨_, rfl, _, rfl, b, _, _, _, rfl, rfl, SqT.of hb7, ax, _, _, rfl, rfl, ?_⟩
          refine rest _ _ ⟨s7, ?_⟩
          rw [ex]; rfl
      rintro σ H7 ⟨s7, rfl⟩
      have hb7 : RowN H7 b r := mo_rowN s7 hb5
      refine ⟨_, rfl, _, rfl, _, _, rfl, ⟨by (first | lia | omega), by (first | lia | omega), by (first | lia | omega), by (first | lia | omega)⟩, ?_⟩
      rw [show ((m : Int) - (leastR r : Int)).toNat = m - leastR r by (first | lia | omega)]
      have plen := pre_len (m := m) (i := i) (j := j + 1) hm (by (first | lia | omega))
      rw [pre_snoc hy] at plen
      refine for_range (n := m - leastR r) (fun k σ H8 => SameB L H4 H8 ∧ Same H H8 ∧ ∃ gs' u7, σ = [some (.int (m : Int)), some (.int (n : Int)), some (.ref R), some (.int ((0 : Int) + (i : Int))), some (.ref L), some (.ref b), some (.int (leastR r : Int)), u7] ∧ H8 L = some (.lst ((gs ++ gs').map V.ref)) ∧ At RowN H8 (gs ++ gs') (((riseR m i).take j).flatMap (extR m) ++ (extR m r).take k))
        ⟨sb5.trans s7.b, s5.trans s7, [], v7, rfl, by rw [List.append_nil]; exact s7 _ _ hL5, by rw [List.append_nil, List.take_zero, List.append_nil]; exact aG.keep mo_rowN s7⟩ ?_ ?_
      · rintro k σ H8 hk ⟨sb8, s8, gs', w7, rfl, hL8, aG8⟩
        refine name_go ?_
        have hb8 : H8 b = some (.tup (natV r)) := sb8 _ _ hbL hb
        refine ⟨_, rfl, .inl ⟨rfl, _, SqL.of hL8⟩, _, rfl, _, rfl, by show 1 ≤ sizeLine; decide, fun tp htp => ?_⟩
        dsimp only at htp ⊢
        rw [show (leastR r : Int) + (k : Int) = ((leastR r + k : Nat) : Int) by (first | lia | omega)] at *
        have s9 := same_new htp (.tup [.int ((leastR r + k : Nat) : Int)])
        have e9 : (upd H8 tp (.tup [.int ((leastR r + k : Nat) : Int)])) tp = some (.tup [.int ((leastR r + k : Nat) : Int)]) := upd_same
        generalize upd H8 tp (.tup [.int ((leastR r + k : Nat) : Int)]) = H9 at s9 e9
        have l8 := aG8.1
        rw [List.length_append, List.length_append, List.length_take] at l8
        rw [List.length_append, ext_len] at plen
        have fin : ∀ p H10, Same H9 H10 → RowN H10 p (r ++ [leastR r + k]) → rAppend (.ref L) [.ref p] H10 (fun _ H11 => SameB L H4 H11 ∧ Same H H11 ∧ ∃ gs' u7, [some (V.int (m : Int)), some (V.int (n : Int)), some (V.ref R), some (V.int ((0 : Int) + (i : Int))), some (V.ref L), some (V.ref b), some (V.int (leastR r : Int)), some (V.int ((leastR r + k : Nat) : Int))] = [some (V.int (m : Int)), some (V.int (n : Int)), some (V.ref R), some (V.int ((0 : Int) + (i : Int))), some (V.ref L), some (V.ref b), some (V.int (leastR r : Int)), u7] ∧ H11 L = some (.lst ((gs ++ gs').map V.ref)) ∧ At RowN H11 (gs ++ gs') (((riseR m i).take j).flatMap (extR m) ++ (extR m r).take (k+1))) := fun p H10 s10 h10 => by
          have s8t := s9.trans s10
          have hL10 := s8t _ _ hL8
          refine ⟨L, _, .ref p, rfl, rfl, hL10, by rw [List.length_map, List.length_append]; exact szl (by (first | lia | omega)), ?_⟩
          have eA : (gs ++ gs').map V.ref ++ [V.ref p] = (gs ++ (gs' ++ [p])).map V.ref := by simp
          rw [eA]
          refine ⟨(sb8.trans s8t.b).put _, (s8.trans s8t).up nL _, gs' ++ [p], _, rfl, upd_same, ?_⟩
          rw [take_snoc (ext_at hk), ← List.append_assoc, ← List.append_assoc]
          exact at_row_upd hL10 ((aG8.keep mo_rowN s8t).snoc h10)
        refine ⟨b, tp, _, _, rfl, rfl, SqT.of (s9 _ _ hb8), SqT.of e9, (fun z => by cases z), by rw [List.length_map]; exact szle (by simp; (first | lia | omega)), fun z => ?_, fun _ p hp => ?_⟩
        · have : r = [] := List.map_eq_nil_iff.mp z
          subst this
          exact fin tp H9 (Same.refl _) e9
        · refine fin p _ (same_new hp _) ?_
          show (upd H9 p _) p = _
          rw [upd_same, natV_app]
      rintro σ H8 ⟨sb8, s8, gs', w7, rfl, hL8, aG8⟩
      rw [List.take_of_length_le (l := extR m r) (by rw [ext_len]; exact Nat.le_refl _), ← pre_snoc hy] at aG8
      exact ⟨sb8, s8, gs ++ gs', _, _, _, rfl, hL8, aG8⟩
    rintro σ H5 ⟨sb5, s5, gs, v5, v6, v7, rfl, hL5, aG⟩
    rw [List.length_map, hB4.1, List.take_length, ← rise_succ] at aG
    refine ⟨_, rfl, ?_⟩
    exact ⟨s5, L, _, _, _, _, _, rfl, nL, gs, hL5, aG⟩
  · rintro σ H3 ⟨s3, R, u3, u4, u5, u6, u7, rfl, nR, hR⟩
    exact ⟨_, rfl, q _ _ s3 nR hR⟩
noncomputable def spMarks : Sp := fun vs H Q _ => ∃ (a b : Addr) (n m : Nat) (rs : List Rope) (row : List Nat), vs = [.ref a, .ref b] ∧ NetR H a n rs ∧ NetJ n m rs ∧ n ≤ 100 ∧ RowN H b row ∧ (∀ x ∈ row, x < m) ∧ row.length ≤ 100 ∧
  (marksF (List.range n) (pickR rs row) = none → ∀ H', Same H H' → Q .non H') ∧ (∀ ms, marksF (List.range n) (pickR rs row) = some ms → ms.length = n → ∀ l H', Same H H' → H' l = some (.lst (natV ms)) → Q (.ref l) H')
theorem scMa : FnScope ["_law_net_here", "_law_chosen", "_law_marks_here", "_law_rope", "_law_one", "_law_other", "_law_ease_here"] ["_law_net_here", "_law_chosen"] (defScope s_law_marks) := ⟨rfl, rfl, rfl, by decide +kernel, rfl, by decide +kernel, by decide +kernel⟩
theorem ndMa : (["_law_mark", "_law_marks_here", "_law_one", "_law_other"] : List Str).Nodup := by decide +kernel
theorem nat_getD {ms : List Nat} {i : Nat} (h : i < ms.length) : atI (natV ms) ((i : Nat) : Int) = some (.int ((ms.getD i 0 : Nat) : Int)) := nat_at (by rw [List.getD_eq_getElem?_getD, List.getElem?_eq_getElem h]; rfl)
theorem pick_at {rs : List Rope} {row : List Nat} {i k : Nat} (h : row[i]? = some k) : (pickR rs row)[i]? = some (rs.getD k (0, 0, 0)) := by
  unfold pickR
  rw [List.getElem?_map, h]; rfl
set_option maxHeartbeats 1000000 in
seal L2.PSs L2.PS L2.PE L2.PA in
theorem ok_marks (F : Fun K "_law_marks" "_law_marks" s_law_marks f fd) (mr : mg "range" = none) (mi : mg "list" = none) : FnOk P w K mg base CX0 1 f fd ["_law_net_here", "_law_chosen"] spMarks := by
  refine F.ok scMa (fun vs H Q E h => ?_) (fun cdv A outer s H vs Q E hr h => ?_)
  · obtain ⟨a, b, n, m, rs, row, rfl, _⟩ := h
    rfl
  obtain ⟨a, b, n, m, rs, row, rfl, ⟨ra, tv, ha, cs, hra, hC⟩, J, h100, hb, hrow, hl100, q0, q1⟩ := h
  refine ⟨_, pss_cons (ps_set (i := 2) scMa.nd rfl (Or.inr rfl) (pe_listRange rfl (by rfl) mi (by rfl) mr (pe_ix (ixT (K := K)) (pv 0) pe_int (fun _ _ => rfl))))
    (pss_cons (ps_for PassesOwn.never rfl (piTup (K := K) (pv 1)) (pg_name (i := 3) scMa.nd rfl (Or.inl rfl))
      (pss_cons (ps_asg (pe_ix (ixT (K := K)) (pe_ix (ixT (K := K)) (pv 0) pe_int (fun _ _ => rfl)) (pv 3) (fun _ _ => rfl)) (pg_tup rfl (pgs_cons (pg_name (i := 4) scMa.nd rfl (Or.inr rfl)) (pgs_cons (pg_name (i := 5) scMa.nd rfl (Or.inr rfl)) (pgs_cons (pg_name (i := 6) scMa.nd rfl (Or.inl rfl)) pgs_nil)))))
      (pss_cons (ps_if (pt_cmpR op_eq (pe_ix (ixL (K := K)) (pv 2) (pv 4) (fun _ _ => rfl)) (pe_ix (ixL (K := K)) (pv 2) (pv 5) (fun _ _ => rfl)) (nomark _)) (pss_one (ps_ret pe_non)) pss_nil)
      (pss_one (ps_set (i := 2) scMa.nd rfl (Or.inr rfl) (pe_comp (Nc := ["_law_mark", "_law_marks_here", "_law_one", "_law_other"]) (cap := [(1, 2), (2, 4), (3, 5)]) (g := gName 0)
        (te := tIf (tTest (tOp rEq (tVar 0) (tOp (rIxL K) (tVar 1) (tVar 3)))) (tOp (rIxL K) (tVar 1) (tVar 2)) (tVar 0)) rfl (piLst (K := K) (pv 2))
        (comp_mk rfl rfl (by decide +kernel) (by decide +kernel) (List.forall_mem_cons.mpr ⟨⟨rfl, rfl⟩, List.forall_mem_cons.mpr ⟨⟨rfl, rfl⟩, List.forall_mem_cons.mpr ⟨⟨rfl, rfl⟩, List.forall_mem_nil _⟩⟩⟩) rfl
          (List.forall_mem_cons.mpr ⟨⟨_, _, rfl, rfl, rfl, rfl, rfl⟩, List.forall_mem_cons.mpr ⟨⟨_, _, rfl, rfl, rfl, rfl, rfl⟩, List.forall_mem_cons.mpr ⟨⟨_, _, rfl, rfl, rfl, rfl, rfl⟩, List.forall_mem_nil _⟩⟩⟩))
        (fun C fp pins s' H' => pg_name (i := 0) ndMa rfl (Or.inl rfl))
        (fun C fp pins s' H' => pe_ifExp (pt_cmpR op_eq (pv 0) (pe_ix (ixL (K := K)) (pv 1) (pv 3) (fun _ _ => rfl)) (nomark _)) (pe_ix (ixL (K := K)) (pv 1) (pv 2) (fun _ _ => rfl)) (pv 0))))))))
    (pss_one (ps_ret (pv 2)))), ?_⟩
  have two := J.two
  refine ⟨_, rfl, a, _, _, _, rfl, rfl, SqT.of ha, t3_0 _ _ _, n, rfl, by (first | lia | omega), fun l0 hl0 => ?_⟩
  have s1 := same_new hl0 (.lst (natV (List.range n)))
  have e1 : (upd H l0 (.lst (natV (List.range n)))) l0 = some (.lst (natV (List.range n))) := upd_same
  generalize upd H l0 (.lst (natV (List.range n))) = H1 at s1 e1
  refine ⟨_, rfl, b, rfl, ⟨_, SqT.of (s1 _ _ hb)⟩, ?_⟩
  refine for_tup (xs := natV row) (fun i σ H2 => Same H H2 ∧ ∃ l ms u3 u4 u5 u6, σ = [some (.ref a), some (.ref b), some (.ref l), u3, u4, u5, u6] ∧ H2 l = some (.lst (natV ms)) ∧ MarkK n ms ∧ marksF (List.range n) (pickR rs row) = marksF ms ((pickR rs row).drop i))
    ⟨s1, l0, _, none, none, none, none, rfl, e1, mark0 n, rfl⟩ (fun i σ H2 _ h => SqT.of (h.1 _ _ hb)) ?_ ?_
  · rintro i x σ H2 hx ⟨s2, l, ms, u3, u4, u5, u6, rfl, hl2, mk, em⟩
    rw [List.getElem?_map] at hx
    obtain ⟨k, hk, rfl⟩ := Option.map_eq_some_iff.mp hx
    have hkm : k < rs.length := by rw [J.len]; exact hrow k (List.mem_of_getElem? hk)
    obtain ⟨c, hc, hcR⟩ := hC.get (List.getElem?_eq_getElem hkm)
    obtain ⟨r1, r2⟩ := J.ends _ (List.getElem_mem hkm)
    have ep := pick_at (rs := rs) hk
    rw [List.getD_eq_getElem?_getD, List.getElem?_eq_getElem hkm, Option.getD_some] at ep
    generalize rs[k] = r at hcR r1 r2 ep
    obtain ⟨hil, eil⟩ := List.getElem?_eq_some_iff.mp ep
    rw [List.drop_eq_getElem_cons hil, eil] at em
    obtain ⟨e, hc1, he⟩ := mo_rope s2 hcR
    refine name_go ?_
    have g1 := nat_getD (ms := ms) (i := r.1) (by rw [mk.len]; exact r1)
    have g2 := nat_getD (ms := ms) (i := r.2.1) (by rw [mk.len]; exact r2)
    refine ⟨_, rfl, a, _, _, _, rfl, rfl, SqT.of (s2 _ _ ha), t3_1 _ _ _, _, rfl, ra, _, _, _, rfl, rfl, SqT.of (s2 _ _ hra), atI_nat (ref_at hc), c, _, rfl, SqT.of hc1, rfl, _, _, rfl, _, _, rfl, _, _, rfl, rfl, ?_⟩
    refine ⟨_, rfl, _, rfl, l, _, _, _, rfl, rfl, SqL.of hl2, g1, _, rfl, _, rfl, l, _, _, _, rfl, rfl, SqL.of hl2, g2, rfl, _, rfl, ?_⟩
    by_cases heq : ms.getD r.1 0 = ms.getD r.2.1 0
    · refine iteDT (iv (by rw [heq])) ?_
      refine q0 ?_ H2 s2
      rw [em]
      unfold marksF
      rw [if_pos heq]
    · refine iteDF (ivn (by (first | lia | omega))) ?_
      refine ⟨_, rfl, l, rfl, ⟨_, SqL.of hl2⟩, fun acc hacc => ?_⟩
      refine comp_run (run_list hl2) (by rw [List.length_map, mk.len]; (first | lia | omega)) hacc (fun j ys σ _ => ys = natV ((joinM ms r).take j) ∧ ∃ u, σ = [u, some (.ref l), some (.int (r.1 : Int)), some (.int (r.2.1 : Int))]) ⟨rfl, none, rfl⟩ ?_ ?_
      · rintro j ys σ H3' x H3 hj sm hacc2 ⟨rfl, u, rfl⟩ ⟨rfl, hx'⟩ Cc hCc
        rw [List.getElem?_map] at hx'
        obtain ⟨y, hy, rfl⟩ := Option.map_eq_some_iff.mp hx'
        have ej : (joinM ms r)[j]? = some (if y = ms.getD r.2.1 0 then ms.getD r.1 0 else y) := by unfold joinM; rw [List.getElem?_map, hy]; rfl
        refine ⟨_, rfl, _, rfl, _, rfl, l, _, _, _, rfl, rfl, SqL.of (sm _ _ hl2), g2, rfl, _, rfl, ?_⟩
        by_cases hye : y = ms.getD r.2.1 0
        · refine iteDT (iv (by rw [hye])) ?_
          rw [if_pos hye] at ej
          refine ⟨_, rfl, _, rfl, l, _, _, _, rfl, rfl, SqL.of (sm _ _ hl2), g1, hCc _ _ _ (Same.refl _) ⟨?_, _, rfl⟩⟩
          rw [take_snoc ej, natV_app]
        · refine iteDF (ivn (by (first | lia | omega))) ?_
          rw [if_neg hye] at ej
          refine ⟨_, rfl, hCc _ _ _ (Same.refl _) ⟨?_, _, rfl⟩⟩
          rw [take_snoc ej, natV_app]
      rintro ys σ H3 s3 ha3 hl3 ⟨rfl, u, rfl⟩
      have mk' := mk.join (r := r) r1
      rw [List.length_map, mk.len, List.take_of_length_le (by rw [mk'.len]; exact Nat.le_refl _)] at ha3
      refine ⟨s2.trans s3, acc, joinM ms r, _, _, _, _, rfl, ha3, mk', ?_⟩
      rw [em]
      conv => lhs; unfold marksF
      rw [if_neg heq]
  · rintro σ H2 ⟨s2, l, ms, u3, u4, u5, u6, rfl, hl2, mk, em⟩
    have el : (natV row).length = (pickR rs row).length := by unfold pickR; rw [List.length_map, List.length_map]
    rw [el, List.drop_length] at em
    exact ⟨_, rfl, q1 ms em mk.len l H2 s2 hl2⟩
end
end My
namespace My
open PySem L2 Mth Wd
section
variable {P : Program} {w : World} {K : PySem.W.Frag} {mg : Str → Option Value} {base : Heap} {f g h f1 f2 f3 f4 C : Addr} {fd gd hd d1 d2 d3 d4 : FuncData}
noncomputable def spLT (k : Nat) (t : Nat → List Rope → Bool) : Sp := fun vs H Q _ => ∃ (a : Addr) (n m : Nat) (rs : List Rope), vs = [.ref a] ∧ NetR H a n rs ∧ NetJ n m rs ∧ m ≤ 9 ∧ ∀ p H', Same H H' → LstR RowN H' p ((riseR m (n - k)).filter fun row => t n (pickR rs row)) → Q (.ref p) H'
theorem scLTr : FnScope ["_law_net_here"] ["_law_net_here"] (defScope s_law_trees) := ⟨rfl, rfl, rfl, by decide +kernel, rfl, by decide +kernel, by decide +kernel⟩
theorem ndON : (["_law_one", "_law_net_here"] : List Str).Nodup := by decide +kernel
noncomputable abbrev rNotN : R2 := fun x y H Q => y = .non ∧ Q (.bl (!decide (x = .non))) H
theorem nn_ref (l : Addr) : ¬ (V.ref l = V.non) := fun z => by cases z
set_option maxHeartbeats 1000000 in
theorem ok_ltrees (F : Fun K "_law_trees" "_law_trees" s_law_trees f fd) (G1 : FnOk P w K mg base CX0 1 f1 d1 ["_law_count", "_law_many"] spRise) (b1 : Binds K d1 ["_law_count", "_law_many"] []) (k1 : PySem.W.keepIn K (.ref f1) = true) (m1 : mg "_law_rising" = some (.ref f1))
    (G2 : FnOk P w K mg base CX0 1 f2 d2 ["_law_net_here", "_law_chosen"] spMarks) (b2 : Binds K d2 ["_law_net_here", "_law_chosen"] []) (k2 : PySem.W.keepIn K (.ref f2) = true) (m2 : mg "_law_marks" = some (.ref f2)) (ml : mg "len" = none) : FnOk P w K mg base CX0 2 f fd ["_law_net_here"] (spLT 1 treeB) := by
  refine F.ok scLTr (fun vs H Q E h => ?_) (fun cdv A outer s H vs Q E hr h => ?_)
  · obtain ⟨a, n, m, rs, rfl, _⟩ := h
    rfl
  obtain ⟨a, n, m, rs, rfl, ⟨ra, tv, ha, cs, hra, hC⟩, J, hm, q⟩ := h
  refine ⟨_, pss_one (ps_ret (pe_compF (Nc := ["_law_one", "_law_net_here"]) (cap := [(1, 0)]) (g := gName 0) (tt := tTest (tOp rNotN (tCall spMarks [] E0 (tCons (tVar 1) (tCons (tVar 0) tNil))) (tC .non))) (te := tVar 0) rfl
      (piLst (K := K) (pe_call G1 hr (by rfl) m1 k1 b1 .nil pass0 (pa_cons (pe_callB (callLen (K := K)) (by rfl) ml bt_len (pa_cons (pe_ix (ixT (K := K)) (pv 0) pe_int (fun _ _ => rfl)) pa_nil)) (pa_cons (pe_op op_sub (pe_ix (ixT (K := K)) (pv 0) pe_int (fun _ _ => rfl)) pe_int) pa_nil))))
      (comp_mk rfl rfl (by decide +kernel) (by decide +kernel) (List.forall_mem_cons.mpr ⟨⟨rfl, rfl⟩, List.forall_mem_nil _⟩) rfl (List.forall_mem_cons.mpr ⟨⟨_, _, rfl, rfl, rfl, rfl, rfl⟩, List.forall_mem_nil _⟩))
      (fun C fp pins s' H' => pg_name (i := 0) ndON rfl (Or.inl rfl))
      (fun C fp pins s' H' => pt_cmpR op_notN (pe_call G2 hr (by rfl) m2 k2 b2 .nil pass0 (pa_cons (pv 1) (pa_cons (pv 0) pa_nil))) pe_non (nomark _))
      (fun C fp pins s' H' => pv 0))), ?_⟩
  have two := J.two
  have few := J.few
  have lcs : (cs.map V.ref).length = m := by rw [List.length_map, hC.1, J.len]
  refine ⟨_, rfl, a, _, _, _, rfl, rfl, SqT.of ha, t3_1 _ _ _, ra, _, rfl, .inr (SqT.of hra), _, rfl, a, _, _, _, rfl, rfl, SqT.of ha, t3_0 _ _ _, _, _, rfl, rfl, m, n - 1, ?_, by (first | lia | omega), by (first | lia | omega), fun p H1 s1 _ hp => ?_⟩
  · dsimp only
    rw [lcs, show ((n : Int) - 1) = ((n - 1 : Nat) : Int) by (first | lia | omega)]; rfl
  obtain ⟨bs, hp1, hB⟩ := hp
  have few' := rise_few m (by (first | lia | omega)) (n - 1) (by (first | lia | omega))
  refine ⟨p, rfl, ⟨_, SqL.of hp1⟩, fun acc hacc => ?_⟩
  refine comp_runF (run_list hp1) (by rw [List.length_map, hB.1]; (first | lia | omega)) hacc (fun i ys σ hp => ∃ gs : List Addr, ys = gs.map V.ref ∧ At RowN hp gs (((riseR m (n - 1)).take i).filter fun row => treeB n (pickR rs row)) ∧ ∃ u, σ = [u, some (.ref a)]) ⟨[], rfl, At.nil, none, rfl⟩ ?_ ?_
  · rintro i ys σ H2' x H2 hi sm hacc2 ⟨gs, rfl, hG, u, rfl⟩ ⟨rfl, hx⟩ Cc Nn hCc hNn
    obtain ⟨b, r, rfl, _, hy, hb⟩ := hB.ref hx
    obtain ⟨rl, rb⟩ := rise_len (List.mem_of_getElem? hy)
    have hb2 : H2 b = some (.tup (natV r)) := sm _ _ hb
    have s02 := s1.trans sm
    have fs := filter_snoc (fun row => treeB n (pickR rs row)) hy
    refine ⟨_, rfl, _, rfl, a, b, n, m, rs, r, rfl, ⟨ra, tv, s02 _ _ ha, cs, s02 _ _ hra, hC.keep mo_rope s02⟩, J, by (first | lia | omega), hb2, rb, by (first | lia | omega), fun hnone H3 s3 => ⟨rfl, _, rfl, ?_⟩, fun ms hms _ l H3 s3 hl => ⟨rfl, _, rfl, ?_⟩⟩
    · have ht : treeB n (pickR rs r) = false := by unfold treeB; rw [hnone]; rfl
      refine hNn _ _ s3 ⟨gs, rfl, ?_, _, rfl⟩
      rw [fs, if_neg (by rw [ht]; decide), List.append_nil]
      exact hG.keep mo_rowN (del_mono acc s3)
    · have ht : treeB n (pickR rs r) = true := by unfold treeB; rw [hms]; rfl
      refine ⟨_, rfl, hCc _ _ _ s3 ⟨gs ++ [b], by simp, ?_, _, rfl⟩⟩
      rw [fs, if_pos ht]
      exact (hG.keep mo_rowN (del_mono acc s3)).snoc (RowN.del (t := r) (s3 _ _ hb2) (s3 _ _ hacc2))
  rintro ys σ H2 s2 ha2 ⟨gs, rfl, hG, u, rfl⟩
  rw [List.length_map, hB.1, List.take_length] at hG
  exact q acc H2 (s1.trans s2) ⟨gs, ha2, hG.keep mo_rowN (del_sub H2 acc)⟩
theorem scLHa : FnScope ["_law_net_here", "_law_found", "_law_one", "_law_marks_here"] ["_law_net_here"] (defScope s_law_halves) := ⟨rfl, rfl, rfl, by decide +kernel, rfl, by decide +kernel, by decide +kernel⟩
set_option maxHeartbeats 1000000 in
seal L2.PSs L2.PS L2.PE L2.PA in
theorem ok_lhalves (F : Fun K "_law_halves" "_law_halves" s_law_halves f fd) (G1 : FnOk P w K mg base CX0 1 f1 d1 ["_law_count", "_law_many"] spRise) (b1 : Binds K d1 ["_law_count", "_law_many"] []) (k1 : PySem.W.keepIn K (.ref f1) = true) (m1 : mg "_law_rising" = some (.ref f1))
    (G2 : FnOk P w K mg base CX0 1 f2 d2 ["_law_net_here", "_law_chosen"] spMarks) (b2 : Binds K d2 ["_law_net_here", "_law_chosen"] []) (k2 : PySem.W.keepIn K (.ref f2) = true) (m2 : mg "_law_marks" = some (.ref f2)) (ml : mg "len" = none) : FnOk P w K mg base CX0 2 f fd ["_law_net_here"] (spLT 2 halfB) := by
  refine F.ok scLHa (fun vs H Q E h => ?_) (fun cdv A outer s H vs Q E hr h => ?_)
  · obtain ⟨a, n, m, rs, rfl, _⟩ := h
    rfl
  obtain ⟨a, n, m, rs, rfl, ⟨ra, tv, ha, cs, hra, hC⟩, J, hm, q⟩ := h
  refine ⟨_, pss_cons (ps_set (i := 1) scLHa.nd rfl (Or.inl rfl) (pe_lst pa_nil))
    (pss_cons (ps_for PassesOwn.never rfl (piLst (K := K) (pe_call G1 hr (by rfl) m1 k1 b1 .nil pass0 (pa_cons (pe_callB (callLen (K := K)) (by rfl) ml bt_len (pa_cons (pe_ix (ixT (K := K)) (pv 0) pe_int (fun _ _ => rfl)) pa_nil)) (pa_cons (pe_op op_sub (pe_ix (ixT (K := K)) (pv 0) pe_int (fun _ _ => rfl)) pe_int) pa_nil)))) (pg_name (i := 2) scLHa.nd rfl (Or.inl rfl))
      (pss_cons (ps_set (i := 3) scLHa.nd rfl (Or.inl rfl) (pe_call G2 hr (by rfl) m2 k2 b2 .nil pass0 (pa_cons (pv 0) (pa_cons (pv 2) pa_nil))))
      (pss_one (ps_if (PW.pt (pw_and (pt_cmpR op_notN (pv 3) pe_non (nomark _)) (pw_and1 (pt_cmpR op_ne (pe_ix (ixL (K := K)) (pv 3) pe_int (fun _ _ => rfl)) (pe_ix (ixL (K := K)) (pv 3) pe_int (fun _ _ => rfl)) (nomark _)))))
        (pss_one (ps_expr (pe_bm PySem.F.plainAttrs_list PySem.F.slot_list_append PySem.F.type_list_append mt_append (pv 1) (pa_cons (pv 2) pa_nil)))) pss_nil))))
    (pss_one (ps_ret (pv 1)))), ?_⟩
  have two := J.two
  have few := J.few
  have lcs : (cs.map V.ref).length = m := by rw [List.length_map, hC.1, J.len]
  refine ⟨by show 0 ≤ sizeLine; decide, fun L hL => ?_⟩
  have sL := same_new hL (.lst [])
  have eL : (upd H L (.lst [])) L = some (.lst (([] : List Addr).map V.ref)) := upd_same
  generalize upd H L (.lst []) = H0 at sL eL
  refine ⟨_, rfl, a, _, _, _, rfl, rfl, SqT.of (sL _ _ ha), t3_1 _ _ _, ra, _, rfl, .inr (SqT.of (sL _ _ hra)), _, rfl, a, _, _, _, rfl, rfl, SqT.of (sL _ _ ha), t3_0 _ _ _, _, _, rfl, rfl, m, n - 2, ?_, by (first | lia | omega), by (first | lia | omega), fun p H1 s1 np hp => ?_⟩
  · dsimp only
    rw [lcs, show ((n : Int) - 2) = ((n - 2 : Nat) : Int) by (first | lia | omega)]; rfl
  obtain ⟨bs, hp1, hB⟩ := hp
  have few' := rise_few m (by (first | lia | omega)) (n - 2) (by (first | lia | omega))
  have s01 := sL.trans s1
  have eL1 := s1 _ _ eL
  have pL : p ≠ L := fun z => by rw [z, eL] at np; cases np
  refine ⟨p, rfl, ⟨_, SqL.of hp1⟩, ?_⟩
  refine for_list (xs := bs.map V.ref) (fun i σ H2 => SameB L H1 H2 ∧ Same H H2 ∧ ∃ gs u2 u3, σ = [some (.ref a), some (.ref L), u2, u3] ∧ H2 L = some (.lst (gs.map V.ref)) ∧ At RowN H2 gs (((riseR m (n - 2)).take i).filter fun row => halfB n (pickR rs row)))
    ⟨SameB.refl _ _, s01, [], none, none, rfl, eL1, At.nil⟩ (fun i σ H2 _ h => SqL.of (h.1 _ _ pL hp1)) ?_ ?_
  · rintro i x σ H2 hx ⟨sb2, s2, gs, u2, u3, rfl, hL2, hG⟩
    obtain ⟨b, r, rfl, _, hy, hb⟩ := hB.ref hx
    obtain ⟨rl, rb⟩ := rise_len (List.mem_of_getElem? hy)
    have hbL : b ≠ L := fun z => by
      rw [z] at hb
      have := hb.symm.trans eL1
      cases this
    have hb2 : H2 b = some (.tup (natV r)) := sb2 _ _ hbL hb
    have hi : i < (riseR m (n - 2)).length := (List.getElem?_eq_some_iff.mp hy).1
    have fs := filter_snoc (fun row => halfB n (pickR rs row)) hy
    have gl : gs.length ≤ i := by
      rw [hG.1]
      refine Nat.le_trans (List.length_filter_le ..) ?_
      rw [List.length_take]; (first | lia | omega)
    refine name_go ?_
    refine ⟨_, rfl, _, rfl, a, b, n, m, rs, r, rfl, ⟨ra, tv, s2 _ _ ha, cs, s2 _ _ hra, hC.keep mo_rope s2⟩, J, by (first | lia | omega), hb2, rb, by (first | lia | omega), fun hnone H3 s3 => ?_, fun ms hms hlen l H3 s3 hl => ?_⟩
    · have ht : halfB n (pickR rs r) = false := by unfold halfB; rw [hnone]
      refine ⟨_, rfl, rfl, _, rfl, iteNS rfl ?_⟩
      refine ⟨sb2.trans s3.b, s2.trans s3, gs, _, _, rfl, s3 _ _ hL2, ?_⟩
      rw [fs, if_neg (by rw [ht]; decide), List.append_nil]
      exact hG.keep mo_rowN s3
    · have g0 := nat_getD (ms := ms) (i := 0) (by (first | lia | omega))
      have g1 := nat_getD (ms := ms) (i := 1) (by (first | lia | omega))
      refine ⟨_, rfl, rfl, _, rfl, iteNN (nn_ref l) ?_⟩
      refine ⟨_, rfl, l, _, _, _, rfl, rfl, SqL.of hl, g0, _, rfl, l, _, _, _, rfl, rfl, SqL.of hl, g1, rfl, _, rfl, ?_⟩
      by_cases he : ms.getD 0 0 = ms.getD 1 0
      · have ht : halfB n (pickR rs r) = false := by unfold halfB; rw [hms]; exact decide_eq_false fun z => z he
        refine iteNS (iv (by rw [he])) ?_
        refine ⟨sb2.trans s3.b, s2.trans s3, gs, _, _, rfl, s3 _ _ hL2, ?_⟩
        rw [fs, if_neg (by rw [ht]; decide), List.append_nil]
        exact hG.keep mo_rowN s3
      · have ht : halfB n (pickR rs r) = true := by unfold halfB; rw [hms]; exact decide_eq_true he
        refine iteNN (ivn (by (first | lia | omega))) ?_
        have hL3 := s3 _ _ hL2
        refine ⟨_, rfl, .inl ⟨rfl, _, SqL.of hL3⟩, _, rfl, L, _, .ref b, rfl, rfl, hL3, by rw [List.length_map]; exact szl (by (first | lia | omega)), ?_⟩
        have eA : gs.map V.ref ++ [V.ref b] = (gs ++ [b]).map V.ref := by simp
        rw [eA]
        refine ⟨(sb2.trans s3.b).put _, (s2.trans s3).up hL _, gs ++ [b], _, _, rfl, upd_same, ?_⟩
        rw [fs, if_pos ht]
        exact at_row_upd hL3 ((hG.keep mo_rowN s3).snoc (mo_rowN s3 hb2))
  · rintro σ H2 ⟨sb2, s2, gs, u2, u3, rfl, hL2, hG⟩
    rw [List.length_map, hB.1, List.take_length] at hG
    exact ⟨_, rfl, q L H2 s2 ⟨gs, hL2, hG⟩⟩
end
end My
namespace My
open PySem L2 Mth Wd
structure NetS (n : Nat) (rs : List Rope) : Prop where
  n13 : n ≤ 13
  m14 : rs.length ≤ 14
  ends : ∀ r ∈ rs, r.1 < n + 2 ∧ r.2.1 < n + 2 ∧ Sb 52 34 r.2.2
theorem NetS.two {n : Nat} {rs : List Rope} (k : NetS n rs) : ∀ r ∈ rs, r.1 < n + 2 ∧ r.2.1 < n + 2 := fun r hr => ⟨(k.ends r hr).1, (k.ends r hr).2.1⟩
theorem NetS.den {n : Nat} {rs : List Rope} (k : NetS n rs) {D : Nat} (hD : D = 476) : denP rs ≤ 2 ^ D :=
  Nat.le_trans (denP_le fun r hr => (k.ends r hr).2.2.2) (Nat.pow_le_pow_right (by decide) (by have := k.m14; (first | lia | omega)))
theorem mem_en {T : List (List Rat)} {r : List Rat} (hr : r ∈ T) {q : Rat} (hq : q ∈ r) : ∃ i j, q = en T i j := by
  obtain ⟨i, hi, rfl⟩ := List.getElem_of_mem hr
  obtain ⟨j, hj, rfl⟩ := List.getElem_of_mem hq
  refine ⟨i, j, ?_⟩
  unfold en
  rw [List.getD_eq_getElem?_getD (l := T), List.getElem?_eq_getElem hi, Option.getD_some, List.getD_eq_getElem?_getD, List.getElem?_eq_getElem hj]; rfl
theorem tk_of {k D : Nat} {rs : List Rope} {T : List (List Rat)} (hD : D = 476) (hl : T.length = k) (hc : ∀ r ∈ T, r.length = k) (k14 : k ≤ 14) (hd : denP rs ≤ 2 ^ D) (h : ∀ r ∈ T, ∀ q ∈ r, IsI ((denP rs : Nat) * q) ∧ Vb 56 q) : TK k k D (D + 56) D T ∧ D * k < 7990 := by
  have pd : (0 : Int) < (denP rs : Int) := by have := denP_pos rs; (first | lia | omega)
  have dv : ∀ r ∈ T, ∀ q ∈ r, (q.den : Int) ∣ (denP rs : Int) := fun r hr q hq => by
    obtain ⟨c, hc⟩ := (h r hr q hq).1
    exact den_dvd (k := c) (by rw [ic]; exact hc)
  have hcb : ∀ r ∈ T, (cb r).natAbs ≤ 2 ^ D := fun r hr => Nat.le_trans (cb_le pd (dv r hr)) (by rw [Int.natAbs_natCast]; exact hd)
  have hdq : ∀ r ∈ T, ∀ q ∈ r, q.den ≤ 2 ^ D := fun r hr q hq => Nat.le_trans (Nat.le_of_dvd (denP_pos rs) (by exact_mod_cast dv r hr q hq)) hd
  have e1 : (4 + (D + 56)) * k ≤ (4 + (476 + 56)) * 14 := Nat.mul_le_mul (by (first | lia | omega)) k14
  have e2 : D * k ≤ 476 * 14 := Nat.mul_le_mul (by (first | lia | omega)) k14
  refine ⟨⟨hl, hc, Nat.le_refl _, by (first | lia | omega), hdq, fun r hr q hq => ?_, hcb, fun r hr q hq => ?_, by (first | lia | omega), by (first | lia | omega), by (first | lia | omega)⟩, by (first | lia | omega)⟩
  · have h1 := wh_vb (b := (q.den : Int)) (D := D) (Int.dvd_refl _) (h r hr q hq).2 (by rw [Int.natAbs_natCast]; exact hdq r hr q hq)
    have : wh (q.den : Int) q = q.num := by
      unfold wh
      rw [Int.fdiv_self (by have := q.den_nz; (first | lia | omega)), Int.mul_one]
    rw [this] at h1
    exact big2 h1 (by (first | lia | omega))
  · exact wh_vb ((cb_pos r).2 q hq) (h r hr q hq).2 (hcb r hr)
theorem NetS.tkH {n : Nat} {rs : List Rope} (k : NetS n rs) : ∃ D, TK n n D (D + 56) D (cutT (lapT (n+2) rs)) ∧ D * n < 7990 := by
  obtain ⟨D, hD⟩ : ∃ D, D = 476 := ⟨_, rfl⟩
  have sq := (lapT_sq k.two).1
  have m14 := k.m14
  have n13 := k.n13
  refine ⟨D, tk_of hD (cut_len sq).1 (cut_len sq).2 (by (first | lia | omega)) (k.den hD) fun r hr q hq => ?_⟩
  obtain ⟨x, hx, rfl⟩ := List.mem_map.mp hr
  obtain ⟨i, j, rfl⟩ := mem_en (List.mem_of_mem_drop hx) (List.mem_of_mem_drop hq)
  exact lap_bd k.ends (by (first | lia | omega)) i j
theorem NetS.tkT {n : Nat} {rs : List Rope} (k : NetS n rs) : ∃ D, TK (n+1) (n+1) D (D + 56) D (cut1 (lapT (n+2) rs)) ∧ D * (n+1) < 7990 := by
  obtain ⟨D, hD⟩ : ∃ D, D = 476 := ⟨_, rfl⟩
  have sq := (lapT_sq k.two).1
  have m14 := k.m14
  have n13 := k.n13
  refine ⟨D, tk_of hD (cut1_len sq).1 (cut1_len sq).2 (by (first | lia | omega)) (k.den hD) fun r hr q hq => ?_⟩
  have mem : ∀ {α : Type} {l : List α} {y : α}, y ∈ l.take 1 ++ l.drop 2 → y ∈ l := fun h => by
    rcases List.mem_append.mp h with z | z
    · exact List.mem_of_mem_take z
    · exact List.mem_of_mem_drop z
  obtain ⟨x, hx, rfl⟩ := List.mem_map.mp hr
  obtain ⟨i, j, rfl⟩ := mem_en (mem hx) (mem hq)
  exact lap_bd k.ends (by (first | lia | omega)) i j
theorem sIx_one {n : Nat} (h : 2 ≤ n) : HT.sIx n n (some 1) = 1 := by simp [HT.sIx]; (first | lia | omega)
theorem sl1_go {K : PySem.W.Frag} {H : Hp} {a : Addr} {xs : List V} {Q : VK} (ha : H a = some (.tup xs)) (h : 2 ≤ xs.length) (k : ∀ p, H p = none → Q (.ref p) (upd H p (.tup (xs.take 1)))) : rSlT K (.ref a) none (some 1) H Q := by
  refine ⟨a, xs, rfl, SqT.of ha, fun z => ?_, fun p hp => ?_⟩
  · have := z.2
    rw [sIx_one h] at this
    (first | lia | omega)
  · rw [show cutV xs none (some 1) = xs.take 1 from cut_take xs (j := 1) (by (first | lia | omega))]
    exact k p hp
theorem sl2_go {K : PySem.W.Frag} {H : Hp} {a : Addr} {xs : List V} {Q : VK} (ha : H a = some (.tup xs)) (h : 2 ≤ xs.length) (k : ∀ p, H p = none → Q (.ref p) (upd H p (.tup (xs.drop 2)))) : rSlT K (.ref a) (some 2) none H Q := by
  refine ⟨a, xs, rfl, SqT.of ha, fun z => ?_, fun p hp => ?_⟩
  · have := z.1
    rw [sIx2 h] at this
    (first | lia | omega)
  · rw [show cutV xs (some 2) none = xs.drop 2 from cut_drop xs (j := 2) (by (first | lia | omega))]
    exact k p hp
theorem catT_go {K : PySem.W.Frag} {H : Hp} {a b : Addr} {xs ys : List V} {Q : VK} (ha : H a = some (.tup xs)) (hb : H b = some (.tup ys)) (hx : xs ≠ []) (hz : xs.length + ys.length ≤ sizeLine) (k : ∀ p H', Same H H' → H' p = some (.tup (xs ++ ys)) → Q (.ref p) H') : rCatT K (.ref a) (.ref b) H Q := by
  refine ⟨a, b, xs, ys, rfl, rfl, SqT.of ha, SqT.of hb, hx, hz, fun z => ?_, fun _ p hp => k p _ (same_new hp _) upd_same⟩
  refine k a H (Same.refl _) ?_
  rw [z, List.append_nil]
  exact ha
theorem out_go {K : PySem.W.Frag} {H : Hp} {a : Addr} {cs : List Addr} {Q : VK} (ha : H a = some (.tup (cs.map V.ref))) (h : 2 ≤ cs.length) (h2 : cs.length ≤ 1000) (k : ∀ p H', Same H H' → H' p = some (.tup ((cs.take 1 ++ cs.drop 2).map V.ref)) → Q (.ref p) H') :
    rSlT K (.ref a) none (some 1) H fun v H1 => ∃ w, Option.some (Option.some (V.ref a)) = some (some w) ∧ ∃ i, V.int 2 = .int i ∧ rSlT K w (some i) none H1 fun u H2 => rCatT K v u H2 Q := by
  have l : 2 ≤ (cs.map V.ref).length := by rw [List.length_map]; exact h
  refine sl1_go ha l fun p1 hp1 => ?_
  have s1 := same_new hp1 (.tup ((cs.map V.ref).take 1))
  have e1 : (upd H p1 (.tup ((cs.map V.ref).take 1))) p1 = some (.tup ((cs.map V.ref).take 1)) := upd_same
  generalize upd H p1 (.tup ((cs.map V.ref).take 1)) = H1 at s1 e1
  refine ⟨_, rfl, 2, rfl, sl2_go (s1 _ _ ha) l fun p2 hp2 => ?_⟩
  have s2 := same_new hp2 (.tup ((cs.map V.ref).drop 2))
  have e2 : (upd H1 p2 (.tup ((cs.map V.ref).drop 2))) p2 = some (.tup ((cs.map V.ref).drop 2)) := upd_same
  generalize upd H1 p2 (.tup ((cs.map V.ref).drop 2)) = H2 at s2 e2
  refine catT_go (s2 _ _ e1) e2 (fun z => ?_) (by rw [List.length_take, List.length_drop, List.length_map]; exact szle (by (first | lia | omega))) fun p H3 s3 h3 => k p H3 ((s1.trans s2).trans s3) ?_
  · have := congrArg List.length z
    rw [List.length_take, List.length_map, List.length_nil] at this
    (first | lia | omega)
  · rw [h3, List.map_append, List.map_take, List.map_drop]
section
variable {P : Program} {w : World} {K : PySem.W.Frag} {mg : Str → Option Value} {base : Heap} {f g h f1 f2 f3 f4 C : Addr} {fd gd hd d1 d2 d3 d4 : FuncData}
noncomputable def spTSum : Sp := fun vs H Q _ => ∃ (a : Addr) (n : Nat) (rs : List Rope), vs = [.ref a] ∧ NetR H a (n+2) rs ∧ NetS n rs ∧ ∀ p H', Same H H' → FrR H' p (setT (n+1) (treeB (n+2)) rs) → Q (.ref p) H'
noncomputable def spHSum : Sp := fun vs H Q _ => ∃ (a : Addr) (n : Nat) (rs : List Rope), vs = [.ref a] ∧ NetR H a (n+2) rs ∧ NetS n rs ∧ ∀ p H', Same H H' → FrR H' p (setT n (halfB (n+2)) rs) → Q (.ref p) H'
theorem scTs : FnScope ["net", "table"] ["net"] (defScope s_tree_sum) := ⟨rfl, rfl, rfl, by decide +kernel, rfl, by decide +kernel, by decide +kernel⟩
theorem scHs : FnScope ["net"] ["net"] (defScope s_half_sum) := ⟨rfl, rfl, rfl, by decide +kernel, rfl, by decide +kernel, by decide +kernel⟩
theorem ok_hsum (F : Fun K "half_sum" "half_sum" s_half_sum f fd) (G1 : FnOk P w K mg base CX0 4 f1 d1 ["net"] spETab) (b1 : Binds K d1 ["net"] []) (k1 : PySem.W.keepIn K (.ref f1) = true) (m1 : mg "ease_table" = some (.ref f1))
    (G2 : FnOk P w K mg base CX0 3 f2 d2 ["table"] spMeasure) (b2 : Binds K d2 ["table"] []) (k2 : PySem.W.keepIn K (.ref f2) = true) (m2 : mg "measure" = some (.ref f2))
    (G3 : FnOk P w K mg base CX0 1 f3 d3 ["table"] spPole) (b3 : Binds K d3 ["table"] []) (k3 : PySem.W.keepIn K (.ref f3) = true) (m3 : mg "poleless" = some (.ref f3)) :
    FnOk P w K mg base CX0 5 f fd ["net"] spHSum := by
  refine F.ok scHs (fun vs H Q E h => ?_) (fun cdv A outer s H vs Q E hr h => ?_)
  · obtain ⟨a, n, rs, rfl, _⟩ := h
    rfl
  obtain ⟨a, n, rs, rfl, hN, k, q⟩ := h
  have hr3 := hr.mono (show 3 ≤ 4 by decide)
  have hr1 := hr.mono (show 1 ≤ 4 by decide)
  refine ⟨_, pss_one (ps_ret (pe_call G2 hr3 (by rfl) m2 k2 b2 .nil pass0 (pa_cons (pe_call G3 hr1 (by rfl) m3 k3 b3 .nil pass0 (pa_cons (pe_call G1 hr (by rfl) m1 k1 b1 .nil pass0 (pa_cons (pv 0) pa_nil)) pa_nil)) pa_nil))), ?_⟩
  have n13 := k.n13
  have m14 := k.m14
  have sq := (lapT_sq k.two).1
  refine ⟨_, rfl, a, n+2, 52, 34, rs, rfl, hN, by (first | lia | omega), by (first | lia | omega), k.ends, by (first | lia | omega), by (first | lia | omega), fun t H1 s1 hT => ?_⟩
  refine ⟨t, lapT (n+2) rs, n, rfl, hT, sq, by (first | lia | omega), fun p H2 s2 hC => ?_⟩
  obtain ⟨D, tk, hD⟩ := k.tkH
  refine ⟨p, _, n, D, D + 56, D, rfl, hC, tk, hD, fun p' H' s' hf => q p' H' ((s1.trans s2).trans s') ?_⟩
  rw [← half_dt k.two]
  exact hf
seal L2.PSs L2.PS L2.PE L2.PA in
theorem ok_tsum (F : Fun K "tree_sum" "tree_sum" s_tree_sum f fd) (G1 : FnOk P w K mg base CX0 4 f1 d1 ["net"] spETab) (b1 : Binds K d1 ["net"] []) (k1 : PySem.W.keepIn K (.ref f1) = true) (m1 : mg "ease_table" = some (.ref f1))
    (G2 : FnOk P w K mg base CX0 3 f2 d2 ["table"] spMeasure) (b2 : Binds K d2 ["table"] []) (k2 : PySem.W.keepIn K (.ref f2) = true) (m2 : mg "measure" = some (.ref f2)) (mt : mg "tuple" = none) :
    FnOk P w K mg base CX0 5 f fd ["net"] spTSum := by
  refine F.ok scTs (fun vs H Q E h => ?_) (fun cdv A outer s H vs Q E hr h => ?_)
  · obtain ⟨a, n, rs, rfl, _⟩ := h
    rfl
  obtain ⟨a, n, rs, rfl, hN, k, q⟩ := h
  have hr3 := hr.mono (show 3 ≤ 4 by decide)
  refine ⟨_, pss_cons (ps_set (i := 1) scTs.nd rfl (Or.inl rfl) (pe_call G1 hr (by rfl) m1 k1 b1 .nil pass0 (pa_cons (pv 0) pa_nil)))
    (pss_one (ps_ret (pe_call G2 hr3 (by rfl) m2 k2 b2 .nil pass0 (pa_cons (pe_callTy call_tuple_of (by rfl) mt bt_tuple (pa_cons (pe_comp (Nc := ["row"]) (cap := []) (g := gName 0) (te := tOp (rCatT K) (tSl (rSlT K) (tVar 0) tNoPart (tPart (tC (.int 1)))) (tSl (rSlT K) (tVar 0) (tPart (tC (.int 2))) tNoPart)) rfl
        (pi_tup (pe_op op_catT (pe_slice sl_tup (pv 1) po_none (po_some pe_int)) (pe_slice sl_tup (pv 1) (po_some pe_int) po_none)))
      (comp_mk rfl rfl (by decide +kernel) (by decide +kernel) (List.forall_mem_nil _) rfl (List.forall_mem_nil _)) (fun C fp pins s' H' => pg_name (i := 0) ndRo' rfl (Or.inl rfl))
      (fun C fp pins s' H' => pe_op op_catT (pe_slice sl_tup (pv 0) po_none (po_some pe_int)) (pe_slice sl_tup (pv 0) (po_some pe_int) po_none))) pa_nil)) pa_nil)))), ?_⟩
  have n13 := k.n13
  have m14 := k.m14
  have sq := (lapT_sq k.two).1
  refine ⟨_, rfl, a, n+2, 52, 34, rs, rfl, hN, by (first | lia | omega), by (first | lia | omega), k.ends, by (first | lia | omega), by (first | lia | omega), fun t H1 s1 hT => ?_⟩
  obtain ⟨bs, ha, hA⟩ := hT
  have lb : bs.length = n + 2 := by rw [hA.1]; exact sq.len
  refine ⟨_, rfl, 1, rfl, out_go ha (by (first | lia | omega)) (by (first | lia | omega)) fun p3 H2 s2 h2 => ?_⟩
  have hA2 : At (TupR FrR) H2 (bs.take 1 ++ bs.drop 2) ((lapT (n+2) rs).take 1 ++ (lapT (n+2) rs).drop 2) := ((hA.take 1).app (hA.drop 2)).keep mo_tf' s2
  have ll : (bs.take 1 ++ bs.drop 2).length = n + 1 := by rw [List.length_append, List.length_take, List.length_drop]; (first | lia | omega)
  refine ⟨p3, rfl, ⟨_, SqT.of h2⟩, fun acc hacc => ?_⟩
  refine comp_run (run_tup h2) (by rw [List.length_map]; (first | lia | omega)) hacc (fun i ys σ hp => ∃ ds : List Addr, ys = ds.map V.ref ∧ At (TupR FrR) hp ds ((cut1 (lapT (n+2) rs)).take i) ∧ ∃ u, σ = [u]) ⟨[], rfl, At.nil, none, rfl⟩ ?_ ?_
  · rintro i ys σ H3 x H4 hi sm hacc2 ⟨ds, rfl, hD, u, rfl⟩ ⟨rfl, hx⟩ Cc hC
    obtain ⟨b, row, rfl, _, hy, cs, hB, hCs⟩ := hA2.ref hx
    have rm : row ∈ lapT (n+2) rs := by
      rcases List.mem_append.mp (List.mem_of_getElem? hy) with z | z
      · exact List.mem_of_mem_take z
      · exact List.mem_of_mem_drop z
    have cl : cs.length = n + 2 := by rw [hCs.1]; exact sq.col row rm
    refine ⟨_, rfl, 1, rfl, out_go (sm _ _ hB) (by (first | lia | omega)) (by (first | lia | omega)) fun p H5 s5 h5 => ?_⟩
    have ec : (cut1 (lapT (n+2) rs))[i]? = some (row.take 1 ++ row.drop 2) := by unfold cut1; rw [List.getElem?_map, hy]; rfl
    refine hC _ _ _ s5 ⟨ds ++ [p], by simp, ?_, _, rfl⟩
    rw [take_succ_of ec]
    exact (hD.keep mo_tf' (del_mono acc s5)).snoc (tfd' ⟨cs.take 1 ++ cs.drop 2, h5, ((hCs.take 1).app (hCs.drop 2)).keep mo_fr (sm.trans s5)⟩ (s5 _ _ hacc2))
  · rintro ys σ H3 s3 ha3 hl3 ⟨gs, rfl, hG, u, rfl⟩
    rw [List.length_map, ll, List.take_of_length_le (by rw [(cut1_len sq).1]; exact Nat.le_refl _)] at hG
    refine ⟨acc, _, rfl, .inl ⟨SqL.of ha3, fun p hp => ?_⟩⟩
    have sp := same_new hp (.tup (gs.map V.ref))
    obtain ⟨D, tk, hD⟩ := k.tkT
    refine ⟨p, _, n + 1, D, D + 56, D, rfl, ⟨gs, upd_same, (hG.keep mo_tf' (del_sub H3 acc)).keep mo_tf' sp⟩, tk, hD, fun p' H' s' hf => q p' H' ((((s1.trans s2).trans s3).trans sp).trans s') ?_⟩
    rw [← tree_dt k.two]
    exact hf
end
end My
namespace My
open PySem L2 Mth Wd
theorem wth_snoc : ∀ (S : List Rope) (r : Rope), wth (S ++ [r]) = wth S * r.2.2
  | [], r => by show r.2.2 * 1 = 1 * r.2.2; grind
  | x :: S, r => by
    show x.2.2 * wth (S ++ [r]) = x.2.2 * wth S * r.2.2
    rw [wth_snoc S r]; grind
theorem wth_sb {α β : Nat} : ∀ {S : List Rope}, (∀ r ∈ S, Sb α β r.2.2) → Sb (α * S.length) (β * S.length) (wth S)
  | [], _ => Sb.one.mono (Nat.zero_le _) (Nat.zero_le _)
  | r :: S, h => by
    have := (h r (by simp)).mul (wth_sb (S := S) fun x hx => h x (by simp [hx]))
    exact this.mono (by rw [List.length_cons, Nat.mul_succ]; (first | lia | omega)) (by rw [List.length_cons, Nat.mul_succ]; (first | lia | omega))
theorem pick_ease {n m : Nat} {rs : List Rope} (j : NetE n m rs) {row : List Nat} (h : ∀ x ∈ row, x < m) : ∀ r ∈ pickR rs row, Sb 30 17 r.2.2 := fun r hr => by
  obtain ⟨k, hk, rfl⟩ := List.mem_map.mp hr
  have hl : k < rs.length := by rw [j.j.len]; exact h k hk
  rw [List.getD_eq_getElem?_getD, List.getElem?_eq_getElem hl]
  exact j.ease _ (List.getElem_mem hl)
theorem sumL_snoc {α : Type} (g : α → Rat) (l : List α) (x : α) : sumL g (l ++ [x]) = sumL g l + g x := by rw [sumL_app, sumL_cons, sumL_nil]; grind
section
variable {P : Program} {w : World} {K : PySem.W.Frag} {mg : Str → Option Value} {base : Heap} {f g h f1 f2 f3 f4 C : Addr} {fd gd hd d1 d2 d3 d4 : FuncData}
noncomputable def spWorth : Sp := fun vs H Q _ => ∃ (a b : Addr) (n m : Nat) (rs : List Rope) (row : List Nat), vs = [.ref a, .ref b] ∧ NetR H a n rs ∧ NetE n m rs ∧ RowN H b row ∧ (∀ x ∈ row, x < m) ∧ row.length ≤ 100 ∧ ∀ p H', Same H H' → FrR H' p (wth (pickR rs row)) → Q (.ref p) H'
theorem scWo : FnScope ["_law_net_here", "_law_chosen", "_law_found", "_law_rope"] ["_law_net_here", "_law_chosen"] (defScope s_law_worth) := ⟨rfl, rfl, rfl, by decide +kernel, rfl, by decide +kernel, by decide +kernel⟩
set_option maxHeartbeats 1000000 in
seal L2.PSs L2.PS L2.PE L2.PA in
theorem ok_worth (F : Fun K "_law_worth" "_law_worth" s_law_worth f fd) (G1 : FnOk P w K mg base CX0 2 f1 d1 ["_law_one", "_law_other"] (spBin fun x y => x * y)) (b1 : Binds K d1 ["_law_one", "_law_other"] []) (k1 : PySem.W.keepIn K (.ref f1) = true) (m1 : mg "_law_mul" = some (.ref f1)) :
    FnOk P w K mg base CX0 3 f fd ["_law_net_here", "_law_chosen"] spWorth := by
  refine F.ok scWo (fun vs H Q E h => ?_) (fun cdv A outer s H vs Q E hr h => ?_)
  · obtain ⟨a, b, n, m, rs, row, rfl, _⟩ := h
    rfl
  obtain ⟨a, b, n, m, rs, row, rfl, ⟨ra, tv, ha, cs, hra, hC⟩, J, hb, hrow, hl100, q⟩ := h
  refine ⟨_, pss_cons (ps_set (i := 2) scWo.nd rfl (Or.inl rfl) (pe_tup (pa_cons pe_int (pa_cons pe_int pa_nil))))
    (pss_cons (ps_for PassesOwn.never rfl (piTup (K := K) (pv 1)) (pg_name (i := 3) scWo.nd rfl (Or.inl rfl))
      (pss_one (ps_set (i := 2) scWo.nd rfl (Or.inl rfl) (pe_call G1 hr (by rfl) m1 k1 b1 .nil pass0 (pa_cons (pv 2) (pa_cons (pe_ix (ixT (K := K)) (pe_ix (ixT (K := K)) (pe_ix (ixT (K := K)) (pv 0) pe_int (fun _ _ => rfl)) (pv 3) (fun _ _ => rfl)) pe_int (fun _ _ => rfl)) pa_nil))))))
    (pss_one (ps_ret (pv 2)))), ?_⟩
  refine ⟨by show 2 ≤ sizeLine; decide, fun z1 hz1 => ?_⟩
  have t1 := same_new hz1 (.tup [.int 1, .int 1])
  have e1 : FrR (upd H z1 (.tup [.int 1, .int 1])) z1 1 := upd_same
  generalize upd H z1 (.tup [.int 1, .int 1]) = H1 at t1 e1
  refine ⟨_, rfl, b, rfl, ⟨_, SqT.of (t1 _ _ hb)⟩, ?_⟩
  refine for_tup (xs := natV row) (fun i σ H2 => Same H H2 ∧ ∃ (e : Addr) (u3 : Option V), σ = [some (.ref a), some (.ref b), some (.ref e), u3] ∧ FrR H2 e (wth (pickR rs (row.take i)))) ⟨t1, z1, none, rfl, e1⟩ (fun i σ H2 _ h => SqT.of (h.1 _ _ hb)) ?_ ?_
  · rintro i x σ H2 hx ⟨s2, e, u3, rfl, he⟩
    rw [List.getElem?_map] at hx
    obtain ⟨k, hk, rfl⟩ := Option.map_eq_some_iff.mp hx
    have hkm : k < rs.length := by rw [J.j.len]; exact hrow k (List.mem_of_getElem? hk)
    have hi : i < row.length := (List.getElem?_eq_some_iff.mp hk).1
    obtain ⟨c, hc, hcR⟩ := hC.get (List.getElem?_eq_getElem hkm)
    have es := J.ease _ (List.getElem_mem hkm)
    have ep : rs.getD k (0, 0, 0) = rs[k] := by rw [List.getD_eq_getElem?_getD, List.getElem?_eq_getElem hkm]; rfl
    generalize rs[k] = r at hcR es ep
    obtain ⟨ea, hc1, hea⟩ := mo_rope s2 hcR
    have sz := wth_sb (pick_ease J (row := row.take i) fun x hx => hrow x (List.mem_of_mem_take hx))
    have len : (pickR rs (row.take i)).length ≤ 100 := by unfold pickR; rw [List.length_map, List.length_take]; (first | lia | omega)
    refine name_go ?_
    refine ⟨_, rfl, _, rfl, a, _, _, _, rfl, rfl, SqT.of (s2 _ _ ha), t3_1 _ _ _, _, rfl, ra, _, _, _, rfl, rfl, SqT.of (s2 _ _ hra), atI_nat (ref_at hc), c, _, _, _, rfl, rfl, SqT.of hc1, t3_2 _ _ _, ?_⟩
    refine ⟨e, ea, _, _, rfl, he, hea, sz.mono (by (first | lia | omega)) (by (first | lia | omega)), es.mono (by (first | lia | omega)) (by (first | lia | omega)), fun p hp => ?_⟩
    have s3 := same_new hp (.tup [.int (wth (pickR rs (row.take i)) * r.2.2).num, .int (wth (pickR rs (row.take i)) * r.2.2).den])
    refine ⟨s2.trans s3, p, _, rfl, ?_⟩
    rw [take_snoc hk, pickR_snoc, wth_snoc, ep]
    exact upd_same
  · rintro σ H2 ⟨s2, e, u3, rfl, he⟩
    refine ⟨_, rfl, q _ _ s2 ?_⟩
    rw [List.length_map, List.take_length] at he
    exact he
noncomputable def spLSum : Sp := fun vs H Q _ => ∃ (a b : Addr) (n m s : Nat) (rs : List Rope) (rows : List (List Nat)), vs = [.ref a, .ref b] ∧ NetR H a n rs ∧ NetE n m rs ∧ LstR RowN H b rows ∧ (∀ r ∈ rows, r.length = s ∧ ∀ x ∈ r, x < m) ∧ s ≤ 100 ∧ (17 * s + 1) * rows.length + 30 * s ≤ 3900 ∧
  ∀ p H', Same H H' → FrR H' p (sumL (fun row => wth (pickR rs row)) rows) → Q (.ref p) H'
theorem scSu : FnScope ["_law_net_here", "_law_sets", "_law_found", "_law_one"] ["_law_net_here", "_law_sets"] (defScope s_law_sum) := ⟨rfl, rfl, rfl, by decide +kernel, rfl, by decide +kernel, by decide +kernel⟩
theorem sum_sb {n m s : Nat} {rs : List Rope} (J : NetE n m rs) : ∀ {rows : List (List Nat)}, (∀ r ∈ rows, r.length = s ∧ ∀ x ∈ r, x < m) → ∀ i, i ≤ rows.length → Sb (30 * s + (17 * s + 1) * i) (17 * s * i) (sumL (fun row => wth (pickR rs row)) (rows.take i)) := by
  intro rows h i
  induction i with
  | zero => intro _; rw [List.take_zero]; exact Sb.zero.mono (Nat.zero_le _) (Nat.zero_le _)
  | succ i ih =>
    intro hi
    have e : rows[i]? = some rows[i] := List.getElem?_eq_getElem (by (first | lia | omega))
    obtain ⟨h1, h2⟩ := h _ (List.getElem_mem (by (first | lia | omega) : i < rows.length))
    have w := wth_sb (pick_ease J h2)
    have l : (pickR rs rows[i]).length = s := by unfold pickR; rw [List.length_map, h1]
    rw [l] at w
    rw [take_snoc e, sumL_snoc]
    have a := (ih (by (first | lia | omega))).add w (N := 30 * s + (17 * s + 1) * i + 17 * s) (Nat.le_refl _) (by rw [Nat.add_mul, Nat.one_mul]; (first | lia | omega))
    exact a.mono (by rw [Nat.mul_succ]; (first | lia | omega)) (by rw [Nat.mul_succ]; (first | lia | omega))
set_option maxHeartbeats 1000000 in
seal L2.PSs L2.PS L2.PE L2.PA in
theorem ok_lsum (F : Fun K "_law_sum" "_law_sum" s_law_sum f fd) (G1 : FnOk P w K mg base CX0 2 f1 d1 ["_law_one", "_law_other"] (spBin fun x y => x + y)) (b1 : Binds K d1 ["_law_one", "_law_other"] []) (k1 : PySem.W.keepIn K (.ref f1) = true) (m1 : mg "_law_add" = some (.ref f1))
    (G2 : FnOk P w K mg base CX0 3 f2 d2 ["_law_net_here", "_law_chosen"] spWorth) (b2 : Binds K d2 ["_law_net_here", "_law_chosen"] []) (k2 : PySem.W.keepIn K (.ref f2) = true) (m2 : mg "_law_worth" = some (.ref f2)) :
    FnOk P w K mg base CX0 4 f fd ["_law_net_here", "_law_sets"] spLSum := by
  refine F.ok scSu (fun vs H Q E h => ?_) (fun cdv A outer s H vs Q E hr h => ?_)
  · obtain ⟨a, b, n, m, sz, rs, rows, rfl, _⟩ := h
    rfl
  obtain ⟨a, b, n, m, sz, rs, rows, rfl, hN, J, ⟨bs, hb, hB⟩, hrows, hs100, hbig, q⟩ := h
  have hr2 := hr.mono (show 2 ≤ 3 by decide)
  refine ⟨_, pss_cons (ps_set (i := 2) scSu.nd rfl (Or.inl rfl) (pe_tup (pa_cons pe_int (pa_cons pe_int pa_nil))))
    (pss_cons (ps_for PassesOwn.never rfl (piLst (K := K) (pv 1)) (pg_name (i := 3) scSu.nd rfl (Or.inl rfl))
      (pss_one (ps_set (i := 2) scSu.nd rfl (Or.inl rfl) (pe_call G1 hr2 (by rfl) m1 k1 b1 .nil pass0 (pa_cons (pv 2) (pa_cons (pe_call G2 hr (by rfl) m2 k2 b2 .nil pass0 (pa_cons (pv 0) (pa_cons (pv 3) pa_nil))) pa_nil))))))
    (pss_one (ps_ret (pv 2)))), ?_⟩
  refine ⟨by show 2 ≤ sizeLine; decide, fun z1 hz1 => ?_⟩
  have t1 := same_new hz1 (.tup [.int 0, .int 1])
  have e1 : FrR (upd H z1 (.tup [.int 0, .int 1])) z1 0 := upd_same
  generalize upd H z1 (.tup [.int 0, .int 1]) = H1 at t1 e1
  refine ⟨_, rfl, b, rfl, ⟨_, SqL.of (t1 _ _ hb)⟩, ?_⟩
  refine for_list (xs := bs.map V.ref) (fun i σ H2 => Same H H2 ∧ ∃ (e : Addr) (u3 : Option V), σ = [some (.ref a), some (.ref b), some (.ref e), u3] ∧ FrR H2 e (sumL (fun row => wth (pickR rs row)) (rows.take i))) ⟨t1, z1, none, rfl, e1⟩ (fun i σ H2 _ h => SqL.of (h.1 _ _ hb)) ?_ ?_
  · rintro i x σ H2 hx ⟨s2, e, u3, rfl, he⟩
    obtain ⟨c, row, rfl, _, hy, hc⟩ := hB.ref hx
    have hi : i < rows.length := (List.getElem?_eq_some_iff.mp hy).1
    obtain ⟨rl, rb⟩ := hrows row (List.mem_of_getElem? hy)
    have sb := sum_sb J hrows i (by (first | lia | omega))
    have m1' : (17 * sz + 1) * i ≤ (17 * sz + 1) * rows.length := Nat.mul_le_mul_left _ (by (first | lia | omega))
    have m2' : 17 * sz * i ≤ (17 * sz + 1) * i := Nat.mul_le_mul_right _ (by (first | lia | omega))
    have w := wth_sb (pick_ease J rb)
    have l : (pickR rs row).length = sz := by unfold pickR; rw [List.length_map, rl]
    rw [l] at w
    refine name_go ?_
    refine ⟨_, rfl, _, rfl, _, rfl, a, c, n, m, rs, row, rfl, mo_net s2 hN, J, mo_rowN s2 hc, rb, by (first | lia | omega), fun p H3 s3 hp => ?_⟩
    refine ⟨e, p, _, _, rfl, s3 _ _ he, hp, sb.mono (by (first | lia | omega)) (by (first | lia | omega)), w.mono (by (first | lia | omega)) (by (first | lia | omega)), fun p2 hp2 => ?_⟩
    have s4 := same_new hp2 (.tup [.int (sumL (fun row => wth (pickR rs row)) (rows.take i) + wth (pickR rs row)).num, .int (sumL (fun row => wth (pickR rs row)) (rows.take i) + wth (pickR rs row)).den])
    refine ⟨(s2.trans s3).trans s4, p2, _, rfl, ?_⟩
    rw [take_snoc hy, sumL_snoc]
    exact upd_same
  · rintro σ H2 ⟨s2, e, u3, rfl, he⟩
    refine ⟨_, rfl, q _ _ s2 ?_⟩
    rw [List.length_map, hB.1, List.take_length] at he
    exact he
noncomputable def spIs : Sp := fun vs H Q _ => ∃ (p t : Addr) (q : Rat), vs = [.ref p, .ref t] ∧ FrR H p q ∧ FrR H t q ∧ Big (q.den : Int) ∧ ∀ H', Same H H' → Q (.bl true) H'
theorem scIs : FnScope ["_law_found", "_law_due"] ["_law_found", "_law_due"] (defScope sIs) := ⟨rfl, rfl, rfl, by decide +kernel, rfl, by decide +kernel, by decide +kernel⟩
theorem ok_is (F : Fun K "_law_is" "_law_is" sIs f fd) (G : FnOk P w K mg base CX0 2 g gd ["_law_found"] spLFrac) (bG : Binds K gd ["_law_found"] []) (kG : PySem.W.keepIn K (.ref g) = true) (mG : mg "_law_fraction" = some (.ref g)) : FnOk P w K mg base CX0 3 f fd ["_law_found", "_law_due"] spIs := by
  refine F.ok scIs (fun vs H Q E h => ?_) (fun cdv A outer s H vs Q E hr h => ?_)
  · obtain ⟨p, t, q, rfl, _⟩ := h
    rfl
  obtain ⟨p, t, q, rfl, hp, ht, bd, k⟩ := h
  have hu : (A.deeper (PyProof.Rows.envOfC "_law_is" (defScope sIs) s.heap.objs.size f cdv)).units + 64 < cLine := by
    have := (hr.mono (show 1 ≤ 2 by decide)).units
    exact this
  refine ⟨_, pss_one (ps_ret (pe_and (pe_call G hr (by rfl) mG kG bG .nil pass0 (pa_cons (pv 0) pa_nil)) (pe_one (pe_cmpR (op_eq_tup hu) (pv 0) (pv 1) (nomark _))))), ?_⟩
  refine ⟨_, rfl, p, q, rfl, hp, bd, fun H2 s2 => ⟨_, rfl, iteT ?_⟩⟩
  refine ⟨_, rfl, _, rfl, p, t, [q.num, q.den], [q.num, q.den], rfl, rfl, s2 _ _ hp, s2 _ _ ht, ?_⟩
  rw [decide_eq_true rfl]
  exact k _ s2
noncomputable def spWith : Sp := fun vs H Q _ => ∃ (a b : Addr) (n k : Nat) (rs : List Rope) (r : Rope) (st : Rat), vs = [.ref a, .int (k : Int), .ref b] ∧ NetR H a n rs ∧ rs[k]? = some r ∧ rs.length ≤ 100 ∧ FrR H b st ∧ Sf r.2.2 ∧ Sf st ∧
  ∀ p H', Same H H' → NetR H' p n (rs.set k (r.1, r.2.1, r.2.2 + st)) → Q (.ref p) H'
theorem scWi : FnScope ["_law_net_here", "_law_rope", "_law_step", "_law_ropes"] ["_law_net_here", "_law_rope", "_law_step"] (defScope s_law_with) := ⟨rfl, rfl, rfl, by decide +kernel, rfl, by decide +kernel, by decide +kernel⟩
set_option maxHeartbeats 1000000 in
seal L2.PSs L2.PS L2.PE L2.PA in
theorem ok_with (F : Fun K "_law_with" "_law_with" s_law_with f fd) (G1 : FnOk P w K mg base CX0 2 f1 d1 ["_law_one", "_law_other"] (spBin fun x y => x + y)) (b1 : Binds K d1 ["_law_one", "_law_other"] []) (k1 : PySem.W.keepIn K (.ref f1) = true) (m1 : mg "_law_add" = some (.ref f1)) (mli : mg "list" = none) (mt : mg "tuple" = none) :
    FnOk P w K mg base CX0 3 f fd ["_law_net_here", "_law_rope", "_law_step"] spWith := by
  refine F.ok scWi (fun vs H Q E h => ?_) (fun cdv A outer s H vs Q E hr h => ?_)
  · obtain ⟨a, b, n, k, rs, r, st, rfl, _⟩ := h
    rfl
  obtain ⟨a, b, n, k, rs, r, st, rfl, ⟨ra, tv, ha, cs, hra, hC⟩, hk, l100, hst, sr, sst, q⟩ := h
  refine ⟨_, pss_cons (ps_set (i := 3) scWi.nd rfl (Or.inl rfl) (pe_callTy call_list_of (by rfl) mli bt_list (pa_cons (pe_ix (ixT (K := K)) (pv 0) pe_int (fun _ _ => rfl)) pa_nil)))
    (pss_cons (ps_asg (pe_tup (pa_cons (pe_ix (ixT (K := K)) (pe_ix (ixL (K := K)) (pv 3) (pv 1) (fun _ _ => rfl)) pe_int (fun _ _ => rfl)) (pa_cons (pe_ix (ixT (K := K)) (pe_ix (ixL (K := K)) (pv 3) (pv 1) (fun _ _ => rfl)) pe_int (fun _ _ => rfl))
        (pa_cons (pe_call G1 hr (by rfl) m1 k1 b1 .nil pass0 (pa_cons (pe_ix (ixT (K := K)) (pe_ix (ixL (K := K)) (pv 3) (pv 1) (fun _ _ => rfl)) pe_int (fun _ _ => rfl)) (pa_cons (pv 2) pa_nil))) pa_nil)))) (pg_sub (pv 3) (pv 1) set_list))
    (pss_one (ps_ret (pe_tup (pa_cons (pe_ix (ixT (K := K)) (pv 0) pe_int (fun _ _ => rfl)) (pa_cons (pe_callTy call_tuple_of (by rfl) mt bt_tuple (pa_cons (pv 3) pa_nil)) (pa_cons (pe_ix (ixT (K := K)) (pv 0) pe_int (fun _ _ => rfl)) pa_nil))))))), ?_⟩
  obtain ⟨hkl, ek⟩ := List.getElem?_eq_some_iff.mp hk
  obtain ⟨c, hc, hcR⟩ := hC.get hk
  have lcs : cs.length = rs.length := hC.1
  refine ⟨_, rfl, a, _, _, _, rfl, rfl, SqT.of ha, t3_1 _ _ _, ra, _, rfl, .inr (SqT.of hra), fun l hl => ?_⟩
  have s1 := same_new hl (.lst (cs.map V.ref))
  have e1 : (upd H l (.lst (cs.map V.ref))) l = some (.lst (cs.map V.ref)) := upd_same
  generalize upd H l (.lst (cs.map V.ref)) = H1 at s1 e1
  obtain ⟨ea, hc1, hea⟩ := mo_rope s1 hcR
  have ix := atI_nat (xs := cs.map V.ref) (ref_at hc)
  refine name_go ?_
  refine ⟨_, rfl, _, rfl, l, _, _, _, rfl, rfl, SqL.of e1, ix, c, _, _, _, rfl, rfl, SqT.of hc1, t3_0 _ _ _, _, rfl, _, rfl, l, _, _, _, rfl, rfl, SqL.of e1, ix, c, _, _, _, rfl, rfl, SqT.of hc1, t3_1 _ _ _,
    _, rfl, _, rfl, l, _, _, _, rfl, rfl, SqL.of e1, ix, c, _, _, _, rfl, rfl, SqT.of hc1, t3_2 _ _ _, _, rfl, ea, b, _, _, rfl, hea, s1 _ _ hst, sr, sst, fun pe hpe => ?_⟩
  have s2 := same_new hpe (.tup [.int (r.2.2 + st).num, .int (r.2.2 + st).den])
  have e2 : FrR (upd H1 pe (.tup [.int (r.2.2 + st).num, .int (r.2.2 + st).den])) pe (r.2.2 + st) := upd_same
  generalize upd H1 pe (.tup [.int (r.2.2 + st).num, .int (r.2.2 + st).den]) = H2 at s2 e2
  refine ⟨by show 3 ≤ sizeLine; decide, fun pr hpr => ?_⟩
  have s3 := same_new hpr (.tup [.int (r.1 : Int), .int (r.2.1 : Int), .ref pe])
  have e3 : RopeR (upd H2 pr (.tup [.int (r.1 : Int), .int (r.2.1 : Int), .ref pe])) pr (r.1, r.2.1, r.2.2 + st) := ⟨pe, upd_same, s3 _ _ e2⟩
  generalize upd H2 pr (.tup [.int (r.1 : Int), .int (r.2.1 : Int), .ref pe]) = H3 at s3 e3
  have s13 := s2.trans s3
  have l3 := s13 _ _ e1
  have s03 := s1.trans s13
  refine ⟨_, rfl, _, rfl, l, _, _, k, rfl, rfl, l3, ixN_nat (by rw [List.length_map]; (first | lia | omega)), ?_⟩
  have eA : (cs.map V.ref).set k (V.ref pr) = (cs.set k pr).map V.ref := by rw [List.map_set]
  rw [eA]
  have l4 : (upd H3 l (.lst ((cs.set k pr).map V.ref))) l = some (.lst ((cs.set k pr).map V.ref)) := upd_same
  have s04 : Same H (upd H3 l (.lst ((cs.set k pr).map V.ref))) := same_up s03 hl _
  have A4 : At RopeR (upd H3 l (.lst ((cs.set k pr).map V.ref))) (cs.set k pr) (rs.set k (r.1, r.2.1, r.2.2 + st)) := ropes_upd l3 ((hC.keep mo_rope s03).set k e3)
  generalize upd H3 l (.lst ((cs.set k pr).map V.ref)) = H4 at l4 s04 A4
  refine ⟨_, rfl, a, _, _, _, rfl, rfl, SqT.of (s04 _ _ ha), t3_0 _ _ _, _, rfl, l, _, rfl, .inl ⟨SqL.of l4, fun t ht => ?_⟩⟩
  have s5 := same_new ht (.tup ((cs.set k pr).map V.ref))
  have e5 : TupR RopeR (upd H4 t (.tup ((cs.set k pr).map V.ref))) t (rs.set k (r.1, r.2.1, r.2.2 + st)) := ⟨_, upd_same, A4.keep mo_rope s5⟩
  generalize upd H4 t (.tup ((cs.set k pr).map V.ref)) = H5 at s5 e5
  have s05 := s04.trans s5
  refine ⟨_, rfl, a, _, _, _, rfl, rfl, SqT.of (s05 _ _ ha), t3_2 _ _ _, by show 3 ≤ sizeLine; decide, fun p hp => ?_⟩
  have s6 := same_new hp (.tup [.int (n : Int), .ref t, tv])
  exact q p _ (s05.trans s6) ⟨t, tv, upd_same, mo_tup (R := RopeR) (fun s h => mo_rope s h) s6 e5⟩
noncomputable def spEven : Sp := fun vs H Q _ => ∃ (a : Addr) (x y z : Rat), vs = [.ref a] ∧ LstR FrR H a [x, y, z] ∧ Sf x ∧ Sf y ∧ Sf z ∧ z - y = y - x ∧ 0 ≤ y - x ∧ ∀ H', Same H H' → Q (.bl true) H'
theorem scEv : FnScope ["_law_three", "_law_first"] ["_law_three"] (defScope s_law_even) := ⟨rfl, rfl, rfl, by decide +kernel, rfl, by decide +kernel, by decide +kernel⟩
theorem num_nn {q : Rat} (h : 0 ≤ q) : 0 ≤ q.num := Rat.num_nonneg.mpr h
set_option maxHeartbeats 1000000 in
seal L2.PSs L2.PS L2.PE L2.PA in
theorem ok_even (F : Fun K "_law_even" "_law_even" s_law_even f fd) (G1 : FnOk P w K mg base CX0 3 f1 d1 ["_law_found", "_law_many"] spLFracs) (b1 : Binds K d1 ["_law_found", "_law_many"] []) (k1 : PySem.W.keepIn K (.ref f1) = true) (m1 : mg "_law_fractions" = some (.ref f1))
    (G2 : FnOk P w K mg base CX0 2 f2 d2 ["_law_one", "_law_other"] (spBin fun x y => x - y)) (b2 : Binds K d2 ["_law_one", "_law_other"] []) (k2 : PySem.W.keepIn K (.ref f2) = true) (m2 : mg "_law_take" = some (.ref f2)) (mt : mg "tuple" = none) :
    FnOk P w K mg base CX0 4 f fd ["_law_three"] spEven := by
  refine F.ok scEv (fun vs H Q E h => ?_) (fun cdv A outer s H vs Q E hr h => ?_)
  · obtain ⟨a, x, y, z, rfl, _⟩ := h
    rfl
  obtain ⟨a, x, y, z, rfl, ⟨bs, ha, hA⟩, sx, sy, sz, ev, up, q⟩ := h
  have hr2 := hr.mono (show 2 ≤ 3 by decide)
  have hu : (A.deeper (PyProof.Rows.envOfC "_law_even" (defScope s_law_even) s.heap.objs.size f cdv)).units + 64 < cLine := by
    have := (hr.mono (show 1 ≤ 3 by decide)).units
    exact this
  refine ⟨_, pss_cons (ps_if (pt_not (pt_val (pe_call G1 hr (by rfl) m1 k1 b1 .nil pass0 (pa_cons (pe_callTy call_tuple_of (by rfl) mt bt_tuple (pa_cons (pv 0) pa_nil)) (pa_cons pe_int pa_nil))))) (pss_one (ps_ret pe_bl)) pss_nil)
    (pss_cons (ps_set (i := 1) scEv.nd rfl (Or.inl rfl) (pe_call G2 hr2 (by rfl) m2 k2 b2 .nil pass0 (pa_cons (pe_ix (ixL (K := K)) (pv 0) pe_int (fun _ _ => rfl)) (pa_cons (pe_ix (ixL (K := K)) (pv 0) pe_int (fun _ _ => rfl)) pa_nil))))
    (pss_one (ps_ret (pe_and (pe_cmpR op_ge (pe_ix (ixT (K := K)) (pv 1) pe_int (fun _ _ => rfl)) pe_int (nomark _))
      (pe_one (pe_cmpR (op_eq_tup hu) (pe_call G2 hr2 (by rfl) m2 k2 b2 .nil pass0 (pa_cons (pe_ix (ixL (K := K)) (pv 0) pe_int (fun _ _ => rfl)) (pa_cons (pe_ix (ixL (K := K)) (pv 0) pe_int (fun _ _ => rfl)) pa_nil))) (pv 1) (nomark _))))))), ?_⟩
  obtain ⟨p0, hp0, f0⟩ := hA.get (i := 0) rfl
  obtain ⟨p1, hp1, fp1⟩ := hA.get (i := 1) rfl
  obtain ⟨p2, hp2, fp2⟩ := hA.get (i := 2) rfl
  have i0 : atI (bs.map V.ref) 0 = some (.ref p0) := atI_nat (j := 0) (ref_at hp0)
  have i1 : atI (bs.map V.ref) 1 = some (.ref p1) := atI_nat (j := 1) (ref_at hp1)
  have i2 : atI (bs.map V.ref) 2 = some (.ref p2) := atI_nat (j := 2) (ref_at hp2)
  refine ⟨_, rfl, a, _, rfl, .inl ⟨SqL.of ha, fun t ht => ?_⟩⟩
  have s1 := same_new ht (.tup (bs.map V.ref))
  have e1 : TupR FrR (upd H t (.tup (bs.map V.ref))) t [x, y, z] := ⟨bs, upd_same, hA.keep mo_fr s1⟩
  generalize upd H t (.tup (bs.map V.ref)) = H1 at s1 e1
  refine ⟨t, _, 3, rfl, e1, rfl, (show 3 ≤ 1000 by decide), fun q hq => ?_, fun H2 t2 => ⟨_, rfl, iteF ?_⟩⟩
  · simp only [List.mem_cons, List.not_mem_nil, or_false] at hq
    rcases hq with rfl | rfl | rfl
    · exact sx.d
    · exact sy.d
    · exact sz.d
  have s2 := s1.trans t2
  refine ⟨_, rfl, a, _, _, _, rfl, rfl, SqL.of (s2 _ _ ha), i1, _, rfl, a, _, _, _, rfl, rfl, SqL.of (s2 _ _ ha), i0, p1, p0, _, _, rfl, mo_fr s2 fp1, mo_fr s2 f0, sy, sx, fun pd hpd => ?_⟩
  have t3 := same_new hpd (.tup [.int (y - x).num, .int (y - x).den])
  have e3 : FrR (upd H2 pd (.tup [.int (y - x).num, .int (y - x).den])) pd (y - x) := upd_same
  generalize upd H2 pd (.tup [.int (y - x).num, .int (y - x).den]) = H3 at t3 e3
  have s3 := s2.trans t3
  refine ⟨_, rfl, pd, _, _, _, rfl, rfl, SqT.of e3, at0, _, _, rfl, rfl, _, rfl, iteDT (num_nn up) ?_⟩
  refine ⟨_, rfl, a, _, _, _, rfl, rfl, SqL.of (s3 _ _ ha), i2, _, rfl, a, _, _, _, rfl, rfl, SqL.of (s3 _ _ ha), i1, p2, p1, _, _, rfl, mo_fr s3 fp2, mo_fr s3 fp1, sz, sy, fun pg hpg => ?_⟩
  dsimp only
  rw [ev]
  have t4 := same_new hpg (.tup [.int (y - x).num, .int (y - x).den])
  refine ⟨_, rfl, pg, pd, [(y - x).num, (y - x).den], [(y - x).num, (y - x).den], rfl, rfl, upd_same, t4 _ _ e3, ?_⟩
  rw [decide_eq_true rfl]
  exact q _ (s3.trans t4)
end
end My
namespace My
open PySem L2 Mth Wd
theorem NetE.s {n m : Nat} {rs : List Rope} (J : NetE (n+2) m rs) (h : m ≤ 14) : NetS n rs := by
  have := J.j.few
  exact ⟨by (first | lia | omega), by rw [J.j.len]; exact h, fun r hr => ⟨(J.j.ends r hr).1, (J.j.ends r hr).2, (J.ease r hr).mono (by (first | lia | omega)) (by (first | lia | omega))⟩⟩
theorem NetS.sf {n : Nat} {rs : List Rope} (k : NetS n rs) (s : Nat) (t : List Rope → Bool) : Sf (setT s t rs) := (setT_sb (m := 14) (fun r hr => (k.ends r hr).2.2) k.m14).mono (by (first | lia | omega)) (by (first | lia | omega))
theorem NetS.put {n : Nat} {rs : List Rope} (k : NetS n rs) {j : Nat} {r : Rope} (h : rs[j]? = some r) {q : Rat} (hq : Sb 52 34 q) : NetS n (rs.set j (r.1, r.2.1, q)) :=
  ⟨k.n13, by rw [List.length_set]; exact k.m14, fun x hx => by
    rcases List.mem_or_eq_of_mem_set hx with z | z
    · exact k.ends x z
    · subst z
      have := k.ends r (List.mem_of_getElem? h)
      exact ⟨this.1, this.2.1, hq⟩⟩
theorem three_even {s : Nat} {t : List Rope → Bool} (bl : Blind t) {rs : List Rope} {j : Nat} {r : Rope} (h : rs[j]? = some r) (p : ∀ r ∈ rs, 0 < r.2.2) {st : Rat} (hs : 0 < st) :
    setT s t (rs.set j (r.1, r.2.1, r.2.2 + (st + st))) - setT s t (rs.set j (r.1, r.2.1, r.2.2 + st)) = setT s t (rs.set j (r.1, r.2.1, r.2.2 + st)) - setT s t rs ∧ 0 ≤ setT s t (rs.set j (r.1, r.2.1, r.2.2 + st)) - setT s t rs := by
  obtain ⟨a, b, nb, e⟩ := setT_even (s := s) bl (k := j) (u := r.1) (v := r.2.1) (q0 := r.2.2) h (fun x hx => Rat.le_of_lt (p x hx))
  have e0 : setT s t rs = a + r.2.2 * b := by
    rw [← e]
    obtain ⟨hj, ej⟩ := List.getElem?_eq_some_iff.mp h
    congr 1
    have : (r.1, r.2.1, r.2.2) = rs[j] := ej.symm
    rw [this, List.set_getElem_self]
  have := Rat.mul_nonneg (Rat.le_of_lt hs) nb
  rw [e0, e, e]
  constructor <;> grind
noncomputable def RN (n : Nat) (H : Hp) (a : Addr) (rs : List Rope) : Prop := NetR H a n rs
theorem told_rows {n m s : Nat} {t : List Rope → Bool} {rs : List Rope} (J : NetE n m rs) (hm : m < 8) (hs : s < 8) : (∀ r ∈ (riseR m s).filter fun row => t (pickR rs row), r.length = s ∧ ∀ x ∈ r, x < m) ∧ (17 * s + 1) * ((riseR m s).filter fun row => t (pickR rs row)).length + 30 * s ≤ 3900 ∧
    setT s t rs = sumL (fun row => wth (pickR rs row)) ((riseR m s).filter fun row => t (pickR rs row)) := by
  refine ⟨fun r hr => rise_len (List.mem_filter.mp hr).1, ?_, ?_⟩
  · have a := rise_small m hm s hs
    have b := Nat.mul_le_mul_left (17 * s + 1) (List.length_filter_le (fun row => t (pickR rs row)) (riseR m s))
    (first | lia | omega)
  · rw [setT_rise, J.j.len]
section
variable {P : Program} {w : World} {K : PySem.W.Frag} {mg : Str → Option Value} {base : Heap} {f g h f1 f2 f3 f4 f5 f6 f7 f8 f9 f10 f11 : Addr} {fd gd hd d1 d2 d3 d4 d5 d6 d7 d8 d9 d10 d11 : FuncData}
noncomputable def spLaw (K : PySem.W.Frag) : Sp := fun vs H Q _ => ∃ (a : Addr) (ns : List Int), vs = [.ref a] ∧ SqL K H a (ns.map V.int) ∧ ns.length ≤ 63 ∧ ∀ H', Q (.bl true) H'
theorem scLw : FnScope ["_law_script", "_law_net_here", "_law_rope", "_law_step", "_law_further"] ["_law_script"] (defScope sLaw) := ⟨rfl, rfl, rfl, by decide +kernel, rfl, by decide +kernel, by decide +kernel⟩
set_option maxHeartbeats 4000000 in
seal L2.PSs L2.PS L2.PE L2.PA in
theorem ok_law (F : Fun K "law" "law" sLaw f fd) (G1 : FnOk P w K mg base CX0 5 f1 d1 ["_law_script", "_law_at", "_law_sizes"] (spSome K)) (b1 : Binds K d1 ["_law_script", "_law_at", "_law_sizes"] []) (k1 : PySem.W.keepIn K (.ref f1) = true) (m1 : mg "_law_some_net" = some (.ref f1))
    (G2 : FnOk P w K mg base CX0 1 f2 d2 ["_law_script", "_law_k"] (spCell K)) (b2 : Binds K d2 ["_law_script", "_law_k"] []) (k2 : PySem.W.keepIn K (.ref f2) = true) (m2 : mg "_law_cell" = some (.ref f2))
    (G3 : FnOk P w K mg base CX0 2 f3 d3 ["_law_cell_here"] spEase) (b3 : Binds K d3 ["_law_cell_here"] []) (k3 : PySem.W.keepIn K (.ref f3) = true) (m3 : mg "_law_ease" = some (.ref f3))
    (G4 : FnOk P w K mg base CX0 5 f4 d4 ["net"] spTSum) (b4 : Binds K d4 ["net"] []) (k4 : PySem.W.keepIn K (.ref f4) = true) (m4 : mg "tree_sum" = some (.ref f4))
    (G5 : FnOk P w K mg base CX0 5 f5 d5 ["net"] spHSum) (b5 : Binds K d5 ["net"] []) (k5 : PySem.W.keepIn K (.ref f5) = true) (m5 : mg "half_sum" = some (.ref f5))
    (G6 : FnOk P w K mg base CX0 4 f6 d6 ["_law_net_here", "_law_sets"] spLSum) (b6 : Binds K d6 ["_law_net_here", "_law_sets"] []) (k6 : PySem.W.keepIn K (.ref f6) = true) (m6 : mg "_law_sum" = some (.ref f6))
    (G7 : FnOk P w K mg base CX0 2 f7 d7 ["_law_net_here"] (spLT 1 treeB)) (b7 : Binds K d7 ["_law_net_here"] []) (k7 : PySem.W.keepIn K (.ref f7) = true) (m7 : mg "_law_trees" = some (.ref f7))
    (G8 : FnOk P w K mg base CX0 2 f8 d8 ["_law_net_here"] (spLT 2 halfB)) (b8 : Binds K d8 ["_law_net_here"] []) (k8 : PySem.W.keepIn K (.ref f8) = true) (m8 : mg "_law_halves" = some (.ref f8))
    (G9 : FnOk P w K mg base CX0 3 f9 d9 ["_law_found", "_law_due"] spIs) (b9 : Binds K d9 ["_law_found", "_law_due"] []) (k9 : PySem.W.keepIn K (.ref f9) = true) (m9 : mg "_law_is" = some (.ref f9))
    (G10 : FnOk P w K mg base CX0 3 f10 d10 ["_law_net_here", "_law_rope", "_law_step"] spWith) (b10 : Binds K d10 ["_law_net_here", "_law_rope", "_law_step"] []) (k10 : PySem.W.keepIn K (.ref f10) = true) (m10 : mg "_law_with" = some (.ref f10))
    (G11 : FnOk P w K mg base CX0 4 f11 d11 ["_law_three"] spEven) (b11 : Binds K d11 ["_law_three"] []) (k11 : PySem.W.keepIn K (.ref f11) = true) (m11 : mg "_law_even" = some (.ref f11))
    (G12 : FnOk P w K mg base CX0 2 g gd ["_law_one", "_law_other"] (spBin fun x y => x + y)) (b12 : Binds K gd ["_law_one", "_law_other"] []) (k12 : PySem.W.keepIn K (.ref g) = true) (m12 : mg "_law_add" = some (.ref g))
    (ml : mg "len" = none) : FnOk P w K mg base CX0 6 f fd ["_law_script"] (spLaw K) := by
  refine F.ok scLw (fun vs H Q E h => ?_) (fun cdv A outer s H vs Q E hr h => ?_)
  · obtain ⟨a, ns, rfl, _⟩ := h
    rfl
  obtain ⟨a, ns, rfl, hS0, hS1, q⟩ := h
  have h1r := hr.mono (show 1 ≤ 5 by decide)
  have h2r := hr.mono (show 2 ≤ 5 by decide)
  have h3r := hr.mono (show 3 ≤ 5 by decide)
  have h4r := hr.mono (show 4 ≤ 5 by decide)
  refine ⟨_, pss_cons (ps_set (i := 1) scLw.nd rfl (Or.inl rfl) (pe_call G1 hr (by rfl) m1 k1 b1 .nil pass0 (pa_cons (pv 0) (pa_cons pe_int (pa_cons (pe_lst (pa_cons pe_int (pa_cons pe_int (pa_cons pe_int (pa_cons pe_int (pa_cons pe_int (pa_cons pe_int (pa_cons pe_int pa_nil)))))))) pa_nil)))))
    (pss_cons (ps_if (pt_not (pt_val (pe_call G9 h3r (by rfl) m9 k9 b9 .nil pass0 (pa_cons (pe_call G4 hr (by rfl) m4 k4 b4 .nil pass0 (pa_cons (pv 1) pa_nil)) (pa_cons (pe_call G6 h4r (by rfl) m6 k6 b6 .nil pass0 (pa_cons (pv 1) (pa_cons (pe_call G7 h2r (by rfl) m7 k7 b7 .nil pass0 (pa_cons (pv 1) pa_nil)) pa_nil))) pa_nil))))) (pss_one (ps_ret pe_bl)) pss_nil)
    (pss_cons (ps_if (pt_not (pt_val (pe_call G9 h3r (by rfl) m9 k9 b9 .nil pass0 (pa_cons (pe_call G5 hr (by rfl) m5 k5 b5 .nil pass0 (pa_cons (pv 1) pa_nil)) (pa_cons (pe_call G6 h4r (by rfl) m6 k6 b6 .nil pass0 (pa_cons (pv 1) (pa_cons (pe_call G8 h2r (by rfl) m8 k8 b8 .nil pass0 (pa_cons (pv 1) pa_nil)) pa_nil))) pa_nil))))) (pss_one (ps_ret pe_bl)) pss_nil)
    (pss_cons (ps_set (i := 1) scLw.nd rfl (Or.inl rfl) (pe_call G1 hr (by rfl) m1 k1 b1 .nil pass0 (pa_cons (pv 0) (pa_cons pe_int (pa_cons (pe_lst (pa_cons pe_int (pa_cons pe_int (pa_cons pe_int (pa_cons pe_int (pa_cons pe_int (pa_cons pe_int pa_nil))))))) pa_nil)))))
    (pss_cons (ps_set (i := 2) scLw.nd rfl (Or.inl rfl) (pe_op op_mod (pe_call G2 h1r (by rfl) m2 k2 b2 .nil pass0 (pa_cons (pv 0) (pa_cons pe_int pa_nil))) (pe_callB (callLen (K := K)) (by rfl) ml bt_len (pa_cons (pe_ix (ixT (K := K)) (pv 1) pe_int (fun _ _ => rfl)) pa_nil))))
    (pss_cons (ps_set (i := 3) scLw.nd rfl (Or.inl rfl) (pe_call G3 h2r (by rfl) m3 k3 b3 .nil pass0 (pa_cons (pe_call G2 h1r (by rfl) m2 k2 b2 .nil pass0 (pa_cons (pv 0) (pa_cons pe_int pa_nil))) pa_nil)))
    (pss_cons (ps_set (i := 4) scLw.nd rfl (Or.inl rfl) (pe_lst (pa_cons (pv 1) (pa_cons (pe_call G10 h3r (by rfl) m10 k10 b10 .nil pass0 (pa_cons (pv 1) (pa_cons (pv 2) (pa_cons (pv 3) pa_nil)))) (pa_cons (pe_call G10 h3r (by rfl) m10 k10 b10 .nil pass0 (pa_cons (pv 1) (pa_cons (pv 2) (pa_cons (pe_call G12 h2r (by rfl) m12 k12 b12 .nil pass0 (pa_cons (pv 3) (pa_cons (pv 3) pa_nil))) pa_nil)))) pa_nil)))))
    (pss_cons (ps_if (pt_not (pt_val (pe_call G11 h4r (by rfl) m11 k11 b11 .nil pass0 (pa_cons (pe_comp (Nc := ["_law_one"]) (cap := []) (g := gName 0) (te := tCall spTSum [] E0 (tCons (tVar 0) tNil)) rfl (piLst (K := K) (pv 4))
        (comp_mk rfl rfl (by decide +kernel) (by decide +kernel) (List.forall_mem_nil _) rfl (List.forall_mem_nil _)) (fun C fp pins s' H' => pg_name (i := 0) ndOne rfl (Or.inl rfl)) (fun C fp pins s' H' => pe_call G4 hr (by rfl) m4 k4 b4 .nil pass0 (pa_cons (pv 0) pa_nil))) pa_nil)))) (pss_one (ps_ret pe_bl)) pss_nil)
    (pss_one (ps_ret (pe_call G11 h4r (by rfl) m11 k11 b11 .nil pass0 (pa_cons (pe_comp (Nc := ["_law_one"]) (cap := []) (g := gName 0) (te := tCall spHSum [] E0 (tCons (tVar 0) tNil)) rfl (piLst (K := K) (pv 4))
        (comp_mk rfl rfl (by decide +kernel) (by decide +kernel) (List.forall_mem_nil _) rfl (List.forall_mem_nil _)) (fun C fp pins s' H' => pg_name (i := 0) ndOne rfl (Or.inl rfl)) (fun C fp pins s' H' => pe_call G5 hr (by rfl) m5 k5 b5 .nil pass0 (pa_cons (pv 0) pa_nil))) pa_nil))))))))))), ?_⟩
  -- the first net
  refine ⟨_, rfl, by show 7 ≤ sizeLine; decide, fun l hl => ?_⟩
  have sl := same_new hl (.lst [.int 5, .int 0, .int 1, .int 2, .int 3, .int 4, .int 6])
  refine ⟨a, l, ns, [5, 0, 1, 2, 3, 4, 6], 7, 0, rfl, by decide, ⟨sl.seq hS0, hS1⟩, upd_same, by decide, by decide, by decide, by decide, fun pn H1 n' m rs s1 hN J hm => ?_⟩
  generalize upd H l (.lst [.int 5, .int 0, .int 1, .int 2, .int 3, .int 4, .int 6]) = H0 at sl s1
  obtain ⟨n, rfl⟩ : ∃ n, n' = n + 2 := ⟨n' - 2, by have := J.j.two; (first | lia | omega)⟩
  have few := J.j.few
  have kS := J.s (show m ≤ 14 by (first | lia | omega))
  refine name_go (nx_go ?_)
  refine seq_join (t := tIfS _ _ _) (G := fun σ H' => Same H1 H' ∧ σ = [some (.ref a), some (.ref pn), none, none, none]) (fun fin => ?_) ?_
  · obtain ⟨r1, r2, r3⟩ := told_rows (t := treeB (n+2)) (s := n + 1) J (by (first | lia | omega)) (by (first | lia | omega))
    refine ⟨_, rfl, pn, n, rs, rfl, hN, kS, fun p1 H2 t2 fp1 => ?_⟩
    refine ⟨_, rfl, _, rfl, pn, n + 2, m, rs, rfl, mo_net t2 hN, J.j, by (first | lia | omega), fun pl H3 t3 hl3 => ?_⟩
    refine ⟨pn, pl, n + 2, m, n + 1, rs, _, rfl, mo_net (t2.trans t3) hN, J, hl3, r1, by (first | lia | omega), r2, fun p2 H4 t4 fp2 => ?_⟩
    refine ⟨p1, p2, setT (n+1) (treeB (n+2)) rs, rfl, (t3.trans t4) _ _ fp1, by rw [r3]; exact fp2, (kS.sf _ _).d, fun H5 t5 => ⟨_, rfl, iteF (fin _ _ ⟨((t2.trans t3).trans t4).trans t5, rfl⟩)⟩⟩
  rintro σ H2 ⟨s2, rfl⟩
  refine seq_join (t := tIfS _ _ _) (G := fun σ H' => Same H1 H' ∧ σ = [some (.ref a), some (.ref pn), none, none, none]) (fun fin => ?_) ?_
  · obtain ⟨r1, r2, r3⟩ := told_rows (t := halfB (n+2)) (s := n) J (by (first | lia | omega)) (by (first | lia | omega))
    refine ⟨_, rfl, pn, n, rs, rfl, mo_net s2 hN, kS, fun p1 H3 t2 fp1 => ?_⟩
    have s3 := s2.trans t2
    refine ⟨_, rfl, _, rfl, pn, n + 2, m, rs, rfl, mo_net s3 hN, J.j, by (first | lia | omega), fun pl H4 t3 hl3 => ?_⟩
    have s4 := s3.trans t3
    refine ⟨pn, pl, n + 2, m, n, rs, _, rfl, mo_net s4 hN, J, hl3, r1, by (first | lia | omega), r2, fun p2 H5 t4 fp2 => ?_⟩
    refine ⟨p1, p2, setT n (halfB (n+2)) rs, rfl, (t3.trans t4) _ _ fp1, by rw [r3]; exact fp2, (kS.sf _ _).d, fun H6 t5 => ⟨_, rfl, iteF (fin _ _ ⟨(s4.trans t4).trans t5, rfl⟩)⟩⟩
  rintro σ H3 ⟨s3, rfl⟩
  have sH3 := (sl.trans s1).trans s3
  clear hN J hm few kS
  -- the second net
  refine ⟨_, rfl, by show 6 ≤ sizeLine; decide, fun l2 hl2 => ?_⟩
  have sl2 := same_new hl2 (.lst [.int 3, .int 5, .int 6, .int 7, .int 9, .int 13])
  refine ⟨a, l2, ns, [3, 5, 6, 7, 9, 13], 14, 9, rfl, by decide, ⟨(sH3.trans sl2).seq hS0, hS1⟩, upd_same, by decide, by decide, by decide, by decide, fun pn2 H4 n2' m2' rs s4 hN J hm => ?_⟩
  generalize upd H3 l2 (.lst [.int 3, .int 5, .int 6, .int 7, .int 9, .int 13]) = H3' at sl2 s4
  have sH4 := (sH3.trans sl2).trans s4
  obtain ⟨n, rfl⟩ : ∃ n, n2' = n + 2 := ⟨n2' - 2, by have := J.j.two; (first | lia | omega)⟩
  have few := J.j.few
  have two := J.j.two
  have kS := J.s hm
  have hS : ∀ {H'}, Same H4 H' → ScA K H' a ns := fun s => ⟨(sH4.trans s).seq hS0, hS1⟩
  obtain ⟨ra, tv, ha, cs, hra, hC⟩ := id hN
  have lcs : (cs.map V.ref).length = m2' := by rw [List.length_map, hC.1, J.j.len]
  refine ⟨_, rfl, a, ns, 8, rfl, hS (Same.refl _), by decide, fun z1 hz1 => ⟨_, rfl, pn2, _, _, _, rfl, rfl, SqT.of ha, t3_1 _ _ _, ra, _, rfl, .inr (SqT.of hra), _, _, rfl, rfl, (show (0 : Int) < ((cs.map V.ref).length : Int) by (first | lia | omega)), ?_⟩⟩
  obtain ⟨k, hk⟩ := Int.eq_ofNat_of_zero_le (Int.emod_nonneg z1 (show ((cs.map V.ref).length : Int) ≠ 0 by (first | lia | omega)))
  have hk2 := Int.emod_lt_of_pos z1 (show (0 : Int) < ((cs.map V.ref).length : Int) by (first | lia | omega))
  rw [hk, lcs] at hk2
  have hkl : k < rs.length := by rw [J.j.len]; (first | lia | omega)
  have er : rs[k]? = some rs[k] := List.getElem?_eq_getElem hkl
  have sr := J.ease _ (List.getElem_mem hkl)
  generalize rs[k] = r at er sr
  dsimp only
  rw [hk]
  refine ⟨_, rfl, a, ns, 21, rfl, hS (Same.refl _), by decide, fun z2 hz2 => ⟨z2, rfl, fun st hst st0 ps hps => ?_⟩⟩
  have t5 := same_new hps (.tup [.int st.num, .int st.den])
  have fs : FrR (upd H4 ps (.tup [.int st.num, .int st.den])) ps st := upd_same
  generalize upd H4 ps (.tup [.int st.num, .int st.den]) = H5 at t5 fs
  have l14 : rs.length ≤ 100 := by rw [J.j.len]; (first | lia | omega)
  have sst : Sf st := hst.mono (by (first | lia | omega)) (by (first | lia | omega))
  have ssr : Sf r.2.2 := sr.mono (by (first | lia | omega)) (by (first | lia | omega))
  have st2 : Sb 31 17 (st + st) := by
    have : st + st = 2 * st := by grind
    rw [this]
    exact ((show Sb 1 0 (2 : Rat) by constructor <;> decide).mul hst).mono (by (first | lia | omega)) (by (first | lia | omega))
  refine ⟨_, rfl, _, rfl, _, rfl, _, rfl, pn2, ps, n + 2, k, rs, r, st, rfl, mo_net t5 hN, er, l14, fs, ssr, sst, fun p1 H6 t6 hN1 => ?_⟩
  have s6 := t5.trans t6
  refine ⟨_, rfl, _, rfl, _, rfl, _, rfl, ps, ps, st, st, rfl, t6 _ _ fs, t6 _ _ fs, sst, sst, fun pd hpd => ?_⟩
  have t7 := same_new hpd (.tup [.int (st + st).num, .int (st + st).den])
  have fd2 : FrR (upd H6 pd (.tup [.int (st + st).num, .int (st + st).den])) pd (st + st) := upd_same
  generalize upd H6 pd (.tup [.int (st + st).num, .int (st + st).den]) = H7 at t7 fd2
  have s7 := s6.trans t7
  refine ⟨pn2, pd, n + 2, k, rs, r, st + st, rfl, mo_net s7 hN, er, l14, fd2, ssr, st2.mono (by (first | lia | omega)) (by (first | lia | omega)), fun p2 H8 t8 hN2 => ?_⟩
  have s8 := s7.trans t8
  have hN1' := mo_net (t7.trans t8) hN1
  have k1' := kS.put (q := r.2.2 + st) er ((sr.add hst (N := 47) (by (first | lia | omega)) (by (first | lia | omega))).mono (by (first | lia | omega)) (by (first | lia | omega)))
  have k2' := kS.put (q := r.2.2 + (st + st)) er ((sr.add st2 (N := 48) (by (first | lia | omega)) (by (first | lia | omega))).mono (by (first | lia | omega)) (by (first | lia | omega)))
  have evT := three_even (s := n + 1) (blind_tree (n+2)) er J.pos st0
  have evH := three_even (s := n) (blind_half (n+2)) er J.pos st0
  refine ⟨by show 3 ≤ sizeLine; decide, fun L hL => ?_⟩
  have t9 := same_new hL (.lst [.ref pn2, .ref p1, .ref p2])
  have eL : (upd H8 L (.lst [.ref pn2, .ref p1, .ref p2])) L = some (.lst ([pn2, p1, p2].map V.ref)) := upd_same
  generalize upd H8 L (.lst [.ref pn2, .ref p1, .ref p2]) = H9 at t9 eL
  have aN : At (RN (n+2)) H9 [pn2, p1, p2] [rs, rs.set k (r.1, r.2.1, r.2.2 + st), rs.set k (r.1, r.2.1, r.2.2 + (st + st))] :=
    At.snoc (bs := [pn2, p1]) (xs := [_, _]) (At.snoc (bs := [pn2]) (xs := [_]) (At.snoc (bs := []) (xs := []) At.nil (mo_net (s8.trans t9) hN)) (mo_net t9 hN1')) (mo_net t9 hN2)
  generalize e1 : rs.set k (r.1, r.2.1, r.2.2 + st) = rs1 at *
  generalize e2 : rs.set k (r.1, r.2.1, r.2.2 + (st + st)) = rs2 at *
  have all : ∀ x ∈ [rs, rs1, rs2], NetS n x := fun x hx => by
    simp only [List.mem_cons, List.not_mem_nil, or_false] at hx
    rcases hx with rfl | rfl | rfl
    · exact kS
    · exact k1'
    · exact k2'
  have sH9 := (sH4.trans s8).trans t9
  refine name_go (nx_go ?_)
  refine seq_join (t := tIfS _ _ _) (G := fun σ H' => Same H9 H' ∧ ∃ u1 u2 u3, σ = [some (.ref a), u1, u2, u3, some (.ref L)]) (fun fin => ?_) ?_
  · refine ⟨_, rfl, L, rfl, ⟨_, SqL.of eL⟩, fun acc hacc => ?_⟩
    refine comp_run (run_list eL) (show 3 ≤ 1000 by decide) hacc (fun i ys σ hp => ∃ ds : List Addr, ys = ds.map V.ref ∧ At FrR hp ds (([rs, rs1, rs2].map (setT (n+1) (treeB (n+2)))).take i) ∧ ∃ u, σ = [u]) ⟨[], rfl, At.nil, none, rfl⟩ ?_ ?_
    · rintro i ys σ H10 x H11 hi sm hacc2 ⟨ds, rfl, hD, u, rfl⟩ ⟨rfl, hx⟩ Cc hCc
      obtain ⟨b, x, rfl, _, hy, hb⟩ := aN.ref hx
      refine ⟨_, rfl, b, n, x, rfl, mo_net sm hb, all x (List.mem_of_getElem? hy), fun p H12 t12 fp => ?_⟩
      refine hCc _ _ _ t12 ⟨ds ++ [p], by simp, ?_, _, rfl⟩
      have ec : ([rs, rs1, rs2].map (setT (n+1) (treeB (n+2))))[i]? = some (setT (n+1) (treeB (n+2)) x) := by rw [List.getElem?_map, hy]; rfl
      rw [take_succ_of ec]
      exact (hD.keep mo_fr (del_mono acc t12)).snoc (FrR.del fp (t12 _ _ hacc2))
    · rintro ys σ H10 s10 ha10 hl10 ⟨ds, rfl, hD, u, rfl⟩
      have hD' := hD.keep mo_fr (del_sub H10 acc)
      refine ⟨acc, setT (n+1) (treeB (n+2)) rs, setT (n+1) (treeB (n+2)) rs1, setT (n+1) (treeB (n+2)) rs2, rfl, ⟨ds, ha10, hD'⟩, kS.sf _ _, k1'.sf _ _, k2'.sf _ _, evT.1, evT.2, fun H11 t11 => ⟨_, rfl, iteF (fin _ _ ⟨s10.trans t11, _, _, _, rfl⟩)⟩⟩
  rintro σ H10 ⟨s10, u1, u2, u3, rfl⟩
  refine ⟨_, rfl, L, rfl, ⟨_, SqL.of (s10 _ _ eL)⟩, fun acc hacc => ?_⟩
  refine comp_run (run_list (s10 _ _ eL)) (show 3 ≤ 1000 by decide) hacc (fun i ys σ hp => ∃ ds : List Addr, ys = ds.map V.ref ∧ At FrR hp ds (([rs, rs1, rs2].map (setT n (halfB (n+2)))).take i) ∧ ∃ u, σ = [u]) ⟨[], rfl, At.nil, none, rfl⟩ ?_ ?_
  · rintro i ys σ H11 x H12 hi sm hacc2 ⟨ds, rfl, hD, u, rfl⟩ ⟨rfl, hx⟩ Cc hCc
    obtain ⟨b, x, rfl, _, hy, hb⟩ := aN.ref hx
    refine ⟨_, rfl, b, n, x, rfl, mo_net (s10.trans sm) hb, all x (List.mem_of_getElem? hy), fun p H13 t12 fp => ?_⟩
    refine hCc _ _ _ t12 ⟨ds ++ [p], by simp, ?_, _, rfl⟩
    have ec : ([rs, rs1, rs2].map (setT n (halfB (n+2))))[i]? = some (setT n (halfB (n+2)) x) := by rw [List.getElem?_map, hy]; rfl
    rw [take_succ_of ec]
    exact (hD.keep mo_fr (del_mono acc t12)).snoc (FrR.del fp (t12 _ _ hacc2))
  · rintro ys σ H11 s11 ha11 hl11 ⟨ds, rfl, hD, u, rfl⟩
    have hD' := hD.keep mo_fr (del_sub H11 acc)
    exact ⟨acc, setT n (halfB (n+2)) rs, setT n (halfB (n+2)) rs1, setT n (halfB (n+2)) rs2, rfl, ⟨ds, ha11, hD'⟩, kS.sf _ _, k1'.sf _ _, k2'.sf _ _, evH.1, evH.2, fun H12 t12 => q _⟩
end
end My
namespace My
open PySem L2 Mth
theorem len_1 {α : Type} {us : List α} (h : us.length = 1) : ∃ a0, us = [a0] := by
  match us, h with
  | [a0], _ => exact ⟨a0, rfl⟩
theorem len_2 {α : Type} {us : List α} (h : us.length = 2) : ∃ a0 a1, us = [a0, a1] := by
  match us, h with
  | [a0, a1], _ => exact ⟨a0, a1, rfl⟩
theorem len_3 {α : Type} {us : List α} (h : us.length = 3) : ∃ a0 a1 a2, us = [a0, a1, a2] := by
  match us, h with
  | [a0, a1, a2], _ => exact ⟨a0, a1, a2, rfl⟩
theorem len_4 {α : Type} {us : List α} (h : us.length = 4) : ∃ a0 a1 a2 a3, us = [a0, a1, a2, a3] := by
  match us, h with
  | [a0, a1, a2, a3], _ => exact ⟨a0, a1, a2, a3, rfl⟩
set_option maxHeartbeats 4000000 in
theorem all_mk {l : PySem.W.OpenLaw} {w : World} {K : PySem.W.Frag} {h : Heap} {mg : Str → Option Value} {fa C f1 f2 f3 f4 f5 f6 f7 f8 f9 f10 f11 f12 f13 f14 f15 f16 f17 f18 f19 f20 f21 f22 f23 f24 f25 f26 f27 f28 f29 f30 f31 f32 f33 f34 f35 f36 f37 f38 f39 : Addr} (X : K.In h) (G : h.Ns mainGlobals mg) (hfa : mg "law" = some (.ref fa))
    {od1 an1 od2 an2 od3 an3 od4 an4 od5 an5 od6 an6 od7 an7 od8 an8 od9 an9 od10 an10 od11 an11 od12 an12 od13 an13 od14 an14 od15 an15 od16 an16 od17 an17 od18 an18 od19 an19 od20 an20 od21 an21 od22 an22 od23 an23 od24 an24 od25 an25 od26 an26 od27 an27 od28 an28 od29 an29 od30 an30 od31 an31 od32 an32 od33 an33 od34 an34 od35 an35 od36 an36 od37 an37 od38 an38 od39 an39 : Option Addr}
    {sl1 sl2 sl3 sl4 sl5 sl6 sl7 sl8 sl9 sl10 sl11 sl12 sl13 sl14 sl15 sl16 sl17 sl18 sl19 sl20 sl21 sl22 sl23 sl24 sl25 sl26 sl27 sl28 sl29 sl30 sl31 sl32 sl33 sl34 sl35 sl36 sl37 sl38 sl39 : Array (Option Value)}
    {oc1 kV1 dc1 pm1 cd1 ct1 oc2 kV2 dc2 pm2 cd2 ct2 oc3 kV3 dc3 pm3 cd3 ct3 oc4 kV4 dc4 pm4 cd4 ct4 oc5 kV5 dc5 pm5 cd5 ct5 oc6 kV6 dc6 pm6 cd6 ct6 oc7 kV7 dc7 pm7 cd7 ct7 oc8 kV8 dc8 pm8 cd8 ct8 oc9 kV9 dc9 pm9 cd9 ct9 oc10 kV10 dc10 pm10 cd10 ct10 oc11 kV11 dc11 pm11 cd11 ct11 oc12 kV12 dc12 pm12 cd12 ct12 oc13 kV13 dc13 pm13 cd13 ct13 oc14 kV14 dc14 pm14 cd14 ct14 oc15 kV15 dc15 pm15 cd15 ct15 oc16 kV16 dc16 pm16 cd16 ct16 oc17 kV17 dc17 pm17 cd17 ct17 oc18 kV18 dc18 pm18 cd18 ct18 oc19 kV19 dc19 pm19 cd19 ct19 oc20 kV20 dc20 pm20 cd20 ct20 oc21 kV21 dc21 pm21 cd21 ct21 oc22 kV22 dc22 pm22 cd22 ct22 oc23 kV23 dc23 pm23 cd23 ct23 oc24 kV24 dc24 pm24 cd24 ct24 oc25 kV25 dc25 pm25 cd25 ct25 oc26 kV26 dc26 pm26 cd26 ct26 oc27 kV27 dc27 pm27 cd27 ct27 oc28 kV28 dc28 pm28 cd28 ct28 oc29 kV29 dc29 pm29 cd29 ct29 oc30 kV30 dc30 pm30 cd30 ct30 oc31 kV31 dc31 pm31 cd31 ct31 oc32 kV32 dc32 pm32 cd32 ct32 oc33 kV33 dc33 pm33 cd33 ct33 oc34 kV34 dc34 pm34 cd34 ct34 oc35 kV35 dc35 pm35 cd35 ct35 oc36 kV36 dc36 pm36 cd36 ct36 oc37 kV37 dc37 pm37 cd37 ct37 oc38 kV38 dc38 pm38 cd38 ct38 oc39 kV39 dc39 pm39 cd39 ct39 : Value}
    (a1 : PySem.W.nsIn K mainGlobals "common_part" = some (some (.ref f1))) (l1 : K.lookup f1 = some ⟨oc1, od1, .func (PySem.W.fnOf "common_part" "common_part" (defArgs sCommon) (defBody sCommon) (defScope sCommon) .none kV1 dc1 pm1 an1 cd1 ct1), sl1⟩) (c1 : PySem.W.codeIn K cd1 "common_part" = true) (k1 : PySem.W.keepIn K (.ref f1) = true)
    (a2 : PySem.W.nsIn K mainGlobals "fraction" = some (some (.ref f2))) (l2 : K.lookup f2 = some ⟨oc2, od2, .func (PySem.W.fnOf "fraction" "fraction" (defArgs sFraction) (defBody sFraction) (defScope sFraction) .none kV2 dc2 pm2 an2 cd2 ct2), sl2⟩) (c2 : PySem.W.codeIn K cd2 "fraction" = true) (k2 : PySem.W.keepIn K (.ref f2) = true)
    (a3 : PySem.W.nsIn K mainGlobals "plus" = some (some (.ref f3))) (l3 : K.lookup f3 = some ⟨oc3, od3, .func (PySem.W.fnOf "plus" "plus" (defArgs sPlus) (defBody sPlus) (defScope sPlus) .none kV3 dc3 pm3 an3 cd3 ct3), sl3⟩) (c3 : PySem.W.codeIn K cd3 "plus" = true) (k3 : PySem.W.keepIn K (.ref f3) = true)
    (a4 : PySem.W.nsIn K mainGlobals "minus" = some (some (.ref f4))) (l4 : K.lookup f4 = some ⟨oc4, od4, .func (PySem.W.fnOf "minus" "minus" (defArgs sMinus) (defBody sMinus) (defScope sMinus) .none kV4 dc4 pm4 an4 cd4 ct4), sl4⟩) (c4 : PySem.W.codeIn K cd4 "minus" = true) (k4 : PySem.W.keepIn K (.ref f4) = true)
    (a5 : PySem.W.nsIn K mainGlobals "common_bottom" = some (some (.ref f5))) (l5 : K.lookup f5 = some ⟨oc5, od5, .func (PySem.W.fnOf "common_bottom" "common_bottom" (defArgs sCBot) (defBody sCBot) (defScope sCBot) .none kV5 dc5 pm5 an5 cd5 ct5), sl5⟩) (c5 : PySem.W.codeIn K cd5 "common_bottom" = true) (k5 : PySem.W.keepIn K (.ref f5) = true)
    (a6 : PySem.W.nsIn K mainGlobals "wholes" = some (some (.ref f6))) (l6 : K.lookup f6 = some ⟨oc6, od6, .func (PySem.W.fnOf "wholes" "wholes" (defArgs sWholes) (defBody sWholes) (defScope sWholes) .none kV6 dc6 pm6 an6 cd6 ct6), sl6⟩) (c6 : PySem.W.codeIn K cd6 "wholes" = true) (k6 : PySem.W.keepIn K (.ref f6) = true)
    (a7 : PySem.W.nsIn K mainGlobals "led" = some (some (.ref f7))) (l7 : K.lookup f7 = some ⟨oc7, od7, .func (PySem.W.fnOf "led" "led" (defArgs sLed) (defBody sLed) (defScope sLed) .none kV7 dc7 pm7 an7 cd7 ct7), sl7⟩) (c7 : PySem.W.codeIn K cd7 "led" = true) (k7 : PySem.W.keepIn K (.ref f7) = true)
    (a8 : PySem.W.nsIn K mainGlobals "swept_row" = some (some (.ref f8))) (l8 : K.lookup f8 = some ⟨oc8, od8, .func (PySem.W.fnOf "swept_row" "swept_row" (defArgs sSweptRow) (defBody sSweptRow) (defScope sSweptRow) .none kV8 dc8 pm8 an8 cd8 ct8), sl8⟩) (c8 : PySem.W.codeIn K cd8 "swept_row" = true) (k8 : PySem.W.keepIn K (.ref f8) = true)
    (a9 : PySem.W.nsIn K mainGlobals "swept" = some (some (.ref f9))) (l9 : K.lookup f9 = some ⟨oc9, od9, .func (PySem.W.fnOf "swept" "swept" (defArgs sSwept) (defBody sSwept) (defScope sSwept) .none kV9 dc9 pm9 an9 cd9 ct9), sl9⟩) (c9 : PySem.W.codeIn K cd9 "swept" = true) (k9 : PySem.W.keepIn K (.ref f9) = true)
    (a10 : PySem.W.nsIn K mainGlobals "measure" = some (some (.ref f10))) (l10 : K.lookup f10 = some ⟨oc10, od10, .func (PySem.W.fnOf "measure" "measure" (defArgs sMeasure) (defBody sMeasure) (defScope sMeasure) .none kV10 dc10 pm10 an10 cd10 ct10), sl10⟩) (c10 : PySem.W.codeIn K cd10 "measure" = true) (k10 : PySem.W.keepIn K (.ref f10) = true)
    (a11 : PySem.W.nsIn K mainGlobals "ease_table" = some (some (.ref f11))) (l11 : K.lookup f11 = some ⟨oc11, od11, .func (PySem.W.fnOf "ease_table" "ease_table" (defArgs sEaseTable) (defBody sEaseTable) (defScope sEaseTable) .none kV11 dc11 pm11 an11 cd11 ct11), sl11⟩) (c11 : PySem.W.codeIn K cd11 "ease_table" = true) (k11 : PySem.W.keepIn K (.ref f11) = true)
    (a12 : PySem.W.nsIn K mainGlobals "poleless" = some (some (.ref f12))) (l12 : K.lookup f12 = some ⟨oc12, od12, .func (PySem.W.fnOf "poleless" "poleless" (defArgs sPoleless) (defBody sPoleless) (defScope sPoleless) .none kV12 dc12 pm12 an12 cd12 ct12), sl12⟩) (c12 : PySem.W.codeIn K cd12 "poleless" = true) (k12 : PySem.W.keepIn K (.ref f12) = true)
    (a13 : PySem.W.nsIn K mainGlobals "tree_sum" = some (some (.ref f13))) (l13 : K.lookup f13 = some ⟨oc13, od13, .func (PySem.W.fnOf "tree_sum" "tree_sum" (defArgs s_tree_sum) (defBody s_tree_sum) (defScope s_tree_sum) .none kV13 dc13 pm13 an13 cd13 ct13), sl13⟩) (c13 : PySem.W.codeIn K cd13 "tree_sum" = true) (k13 : PySem.W.keepIn K (.ref f13) = true)
    (a14 : PySem.W.nsIn K mainGlobals "half_sum" = some (some (.ref f14))) (l14 : K.lookup f14 = some ⟨oc14, od14, .func (PySem.W.fnOf "half_sum" "half_sum" (defArgs s_half_sum) (defBody s_half_sum) (defScope s_half_sum) .none kV14 dc14 pm14 an14 cd14 ct14), sl14⟩) (c14 : PySem.W.codeIn K cd14 "half_sum" = true) (k14 : PySem.W.keepIn K (.ref f14) = true)
    (a15 : PySem.W.nsIn K mainGlobals "_law_cell" = some (some (.ref f15))) (l15 : K.lookup f15 = some ⟨oc15, od15, .func (PySem.W.fnOf "_law_cell" "_law_cell" (defArgs sCellAt) (defBody sCellAt) (defScope sCellAt) .none kV15 dc15 pm15 an15 cd15 ct15), sl15⟩) (c15 : PySem.W.codeIn K cd15 "_law_cell" = true) (k15 : PySem.W.keepIn K (.ref f15) = true)
    (a16 : PySem.W.nsIn K mainGlobals "_law_low" = some (some (.ref f16))) (l16 : K.lookup f16 = some ⟨oc16, od16, .func (PySem.W.fnOf "_law_low" "_law_low" (defArgs sLow) (defBody sLow) (defScope sLow) .none kV16 dc16 pm16 an16 cd16 ct16), sl16⟩) (c16 : PySem.W.codeIn K cd16 "_law_low" = true) (k16 : PySem.W.keepIn K (.ref f16) = true)
    (a17 : PySem.W.nsIn K mainGlobals "_law_add" = some (some (.ref f17))) (l17 : K.lookup f17 = some ⟨oc17, od17, .func (PySem.W.fnOf "_law_add" "_law_add" (defArgs sLAdd) (defBody sLAdd) (defScope sLAdd) .none kV17 dc17 pm17 an17 cd17 ct17), sl17⟩) (c17 : PySem.W.codeIn K cd17 "_law_add" = true) (k17 : PySem.W.keepIn K (.ref f17) = true)
    (a18 : PySem.W.nsIn K mainGlobals "_law_take" = some (some (.ref f18))) (l18 : K.lookup f18 = some ⟨oc18, od18, .func (PySem.W.fnOf "_law_take" "_law_take" (defArgs sLTake) (defBody sLTake) (defScope sLTake) .none kV18 dc18 pm18 an18 cd18 ct18), sl18⟩) (c18 : PySem.W.codeIn K cd18 "_law_take" = true) (k18 : PySem.W.keepIn K (.ref f18) = true)
    (a19 : PySem.W.nsIn K mainGlobals "_law_mul" = some (some (.ref f19))) (l19 : K.lookup f19 = some ⟨oc19, od19, .func (PySem.W.fnOf "_law_mul" "_law_mul" (defArgs sLMul) (defBody sLMul) (defScope sLMul) .none kV19 dc19 pm19 an19 cd19 ct19), sl19⟩) (c19 : PySem.W.codeIn K cd19 "_law_mul" = true) (k19 : PySem.W.keepIn K (.ref f19) = true)
    (a20 : PySem.W.nsIn K mainGlobals "_law_whole" = some (some (.ref f20))) (l20 : K.lookup f20 = some ⟨oc20, od20, .func (PySem.W.fnOf "_law_whole" "_law_whole" (defArgs sWhole) (defBody sWhole) (defScope sWhole) .none kV20 dc20 pm20 an20 cd20 ct20), sl20⟩) (c20 : PySem.W.codeIn K cd20 "_law_whole" = true) (k20 : PySem.W.keepIn K (.ref f20) = true)
    (a21 : PySem.W.nsIn K mainGlobals "_law_fraction" = some (some (.ref f21))) (l21 : K.lookup f21 = some ⟨oc21, od21, .func (PySem.W.fnOf "_law_fraction" "_law_fraction" (defArgs sLFrac) (defBody sLFrac) (defScope sLFrac) .none kV21 dc21 pm21 an21 cd21 ct21), sl21⟩) (c21 : PySem.W.codeIn K cd21 "_law_fraction" = true) (k21 : PySem.W.keepIn K (.ref f21) = true)
    (a22 : PySem.W.nsIn K mainGlobals "_law_fractions" = some (some (.ref f22))) (l22 : K.lookup f22 = some ⟨oc22, od22, .func (PySem.W.fnOf "_law_fractions" "_law_fractions" (defArgs sLFracs) (defBody sLFracs) (defScope sLFracs) .none kV22 dc22 pm22 an22 cd22 ct22), sl22⟩) (c22 : PySem.W.codeIn K cd22 "_law_fractions" = true) (k22 : PySem.W.keepIn K (.ref f22) = true)
    (a23 : PySem.W.nsIn K mainGlobals "_law_ease" = some (some (.ref f23))) (l23 : K.lookup f23 = some ⟨oc23, od23, .func (PySem.W.fnOf "_law_ease" "_law_ease" (defArgs sLEase) (defBody sLEase) (defScope sLEase) .none kV23 dc23 pm23 an23 cd23 ct23), sl23⟩) (c23 : PySem.W.codeIn K cd23 "_law_ease" = true) (k23 : PySem.W.keepIn K (.ref f23) = true)
    (a24 : PySem.W.nsIn K mainGlobals "_law_spot" = some (some (.ref f24))) (l24 : K.lookup f24 = some ⟨oc24, od24, .func (PySem.W.fnOf "_law_spot" "_law_spot" (defArgs sSpot) (defBody sSpot) (defScope sSpot) .none kV24 dc24 pm24 an24 cd24 ct24), sl24⟩) (c24 : PySem.W.codeIn K cd24 "_law_spot" = true) (k24 : PySem.W.keepIn K (.ref f24) = true)
    (a25 : PySem.W.nsIn K mainGlobals "_law_next" = some (some (.ref f25))) (l25 : K.lookup f25 = some ⟨oc25, od25, .func (PySem.W.fnOf "_law_next" "_law_next" (defArgs sNext) (defBody sNext) (defScope sNext) .none kV25 dc25 pm25 an25 cd25 ct25), sl25⟩) (c25 : PySem.W.codeIn K cd25 "_law_next" = true) (k25 : PySem.W.keepIn K (.ref f25) = true)
    (a26 : PySem.W.nsIn K mainGlobals "_law_put" = some (some (.ref f26))) (l26 : K.lookup f26 = some ⟨oc26, od26, .func (PySem.W.fnOf "_law_put" "_law_put" (defArgs sPut) (defBody sPut) (defScope sPut) .none kV26 dc26 pm26 an26 cd26 ct26), sl26⟩) (c26 : PySem.W.codeIn K cd26 "_law_put" = true) (k26 : PySem.W.keepIn K (.ref f26) = true)
    (a27 : PySem.W.nsIn K mainGlobals "_law_grow" = some (some (.ref f27))) (l27 : K.lookup f27 = some ⟨oc27, od27, .func (PySem.W.fnOf "_law_grow" "_law_grow" (defArgs sGrow) (defBody sGrow) (defScope sGrow) .none kV27 dc27 pm27 an27 cd27 ct27), sl27⟩) (c27 : PySem.W.codeIn K cd27 "_law_grow" = true) (k27 : PySem.W.keepIn K (.ref f27) = true)
    (a28 : PySem.W.nsIn K mainGlobals "_law_net" = some (some (.ref f28))) (l28 : K.lookup f28 = some ⟨oc28, od28, .func (PySem.W.fnOf "_law_net" "_law_net" (defArgs sNet) (defBody sNet) (defScope sNet) .none kV28 dc28 pm28 an28 cd28 ct28), sl28⟩) (c28 : PySem.W.codeIn K cd28 "_law_net" = true) (k28 : PySem.W.keepIn K (.ref f28) = true)
    (a29 : PySem.W.nsIn K mainGlobals "_law_some_net" = some (some (.ref f29))) (l29 : K.lookup f29 = some ⟨oc29, od29, .func (PySem.W.fnOf "_law_some_net" "_law_some_net" (defArgs sSomeNet) (defBody sSomeNet) (defScope sSomeNet) .none kV29 dc29 pm29 an29 cd29 ct29), sl29⟩) (c29 : PySem.W.codeIn K cd29 "_law_some_net" = true) (k29 : PySem.W.keepIn K (.ref f29) = true)
    (a30 : PySem.W.nsIn K mainGlobals "_law_rising" = some (some (.ref f30))) (l30 : K.lookup f30 = some ⟨oc30, od30, .func (PySem.W.fnOf "_law_rising" "_law_rising" (defArgs s_law_rising) (defBody s_law_rising) (defScope s_law_rising) .none kV30 dc30 pm30 an30 cd30 ct30), sl30⟩) (c30 : PySem.W.codeIn K cd30 "_law_rising" = true) (k30 : PySem.W.keepIn K (.ref f30) = true)
    (a31 : PySem.W.nsIn K mainGlobals "_law_marks" = some (some (.ref f31))) (l31 : K.lookup f31 = some ⟨oc31, od31, .func (PySem.W.fnOf "_law_marks" "_law_marks" (defArgs s_law_marks) (defBody s_law_marks) (defScope s_law_marks) .none kV31 dc31 pm31 an31 cd31 ct31), sl31⟩) (c31 : PySem.W.codeIn K cd31 "_law_marks" = true) (k31 : PySem.W.keepIn K (.ref f31) = true)
    (a32 : PySem.W.nsIn K mainGlobals "_law_trees" = some (some (.ref f32))) (l32 : K.lookup f32 = some ⟨oc32, od32, .func (PySem.W.fnOf "_law_trees" "_law_trees" (defArgs s_law_trees) (defBody s_law_trees) (defScope s_law_trees) .none kV32 dc32 pm32 an32 cd32 ct32), sl32⟩) (c32 : PySem.W.codeIn K cd32 "_law_trees" = true) (k32 : PySem.W.keepIn K (.ref f32) = true)
    (a33 : PySem.W.nsIn K mainGlobals "_law_halves" = some (some (.ref f33))) (l33 : K.lookup f33 = some ⟨oc33, od33, .func (PySem.W.fnOf "_law_halves" "_law_halves" (defArgs s_law_halves) (defBody s_law_halves) (defScope s_law_halves) .none kV33 dc33 pm33 an33 cd33 ct33), sl33⟩) (c33 : PySem.W.codeIn K cd33 "_law_halves" = true) (k33 : PySem.W.keepIn K (.ref f33) = true)
    (a34 : PySem.W.nsIn K mainGlobals "_law_worth" = some (some (.ref f34))) (l34 : K.lookup f34 = some ⟨oc34, od34, .func (PySem.W.fnOf "_law_worth" "_law_worth" (defArgs s_law_worth) (defBody s_law_worth) (defScope s_law_worth) .none kV34 dc34 pm34 an34 cd34 ct34), sl34⟩) (c34 : PySem.W.codeIn K cd34 "_law_worth" = true) (k34 : PySem.W.keepIn K (.ref f34) = true)
    (a35 : PySem.W.nsIn K mainGlobals "_law_sum" = some (some (.ref f35))) (l35 : K.lookup f35 = some ⟨oc35, od35, .func (PySem.W.fnOf "_law_sum" "_law_sum" (defArgs s_law_sum) (defBody s_law_sum) (defScope s_law_sum) .none kV35 dc35 pm35 an35 cd35 ct35), sl35⟩) (c35 : PySem.W.codeIn K cd35 "_law_sum" = true) (k35 : PySem.W.keepIn K (.ref f35) = true)
    (a36 : PySem.W.nsIn K mainGlobals "_law_is" = some (some (.ref f36))) (l36 : K.lookup f36 = some ⟨oc36, od36, .func (PySem.W.fnOf "_law_is" "_law_is" (defArgs sIs) (defBody sIs) (defScope sIs) .none kV36 dc36 pm36 an36 cd36 ct36), sl36⟩) (c36 : PySem.W.codeIn K cd36 "_law_is" = true) (k36 : PySem.W.keepIn K (.ref f36) = true)
    (a37 : PySem.W.nsIn K mainGlobals "_law_with" = some (some (.ref f37))) (l37 : K.lookup f37 = some ⟨oc37, od37, .func (PySem.W.fnOf "_law_with" "_law_with" (defArgs s_law_with) (defBody s_law_with) (defScope s_law_with) .none kV37 dc37 pm37 an37 cd37 ct37), sl37⟩) (c37 : PySem.W.codeIn K cd37 "_law_with" = true) (k37 : PySem.W.keepIn K (.ref f37) = true)
    (a38 : PySem.W.nsIn K mainGlobals "_law_even" = some (some (.ref f38))) (l38 : K.lookup f38 = some ⟨oc38, od38, .func (PySem.W.fnOf "_law_even" "_law_even" (defArgs s_law_even) (defBody s_law_even) (defScope s_law_even) .none kV38 dc38 pm38 an38 cd38 ct38), sl38⟩) (c38 : PySem.W.codeIn K cd38 "_law_even" = true) (k38 : PySem.W.keepIn K (.ref f38) = true)
    (a39 : PySem.W.nsIn K mainGlobals "law" = some (some (.ref f39))) (l39 : K.lookup f39 = some ⟨oc39, od39, .func (PySem.W.fnOf "law" "law" (defArgs sLaw) (defBody sLaw) (defScope sLaw) .none kV39 dc39 pm39 an39 cd39 ct39), sl39⟩) (c39 : PySem.W.codeIn K cd39 "law" = true) (k39 : PySem.W.keepIn K (.ref f39) = true)
    (aC : PySem.W.nsIn K mainGlobals "NoNumber" = some (some (.ref C)))
    (xC : PySem.W.excIn K C [.type "ValueError", .type "Exception", .type "BaseException", .type "object"] "ValueError.__new__" = true)
    (z_abs : PySem.W.nsIn K mainGlobals "abs" = some none)
    (z_len : PySem.W.nsIn K mainGlobals "len" = some none)
    (z_range : PySem.W.nsIn K mainGlobals "range" = some none)
    (z_list : PySem.W.nsIn K mainGlobals "list" = some none)
    (z_zip : PySem.W.nsIn K mainGlobals "zip" = some none)
    (z_tuple : PySem.W.nsIn K mainGlobals "tuple" = some none)
    (z_isinstance : PySem.W.nsIn K mainGlobals "isinstance" = some none)
    (z_int : PySem.W.nsIn K mainGlobals "int" = some none)
    (z_bool : PySem.W.nsIn K mainGlobals "bool" = some none)
    (z_all : PySem.W.nsIn K mainGlobals "all" = some none)
    (z_min : PySem.W.nsIn K mainGlobals "min" = some none)
    : ∃ fd : FuncData, (∀ (s : Shared) (v : Value), BindsTo s fd ⟨[v], []⟩ [("_law_script", v)]) ∧ ∀ base : Heap, K.In base → base.Ns mainGlobals mg → FnOk l.prog w K mg base CX0 6 fa fd ["_law_script"] (spLaw K) := by
  have e := hfa.symm.trans (PySem.W.mg_of X G a39)
  cases e
  have F1 := fun_mk (st := sCommon) l1 c1 k1
  have b1 := F1.binds (ps := ["one", "other"]) fun _ _ _ _ _ _ us hl => by obtain ⟨_, _, rfl⟩ := len_2 hl; rfl
  have m1 := PySem.W.mg_of X G a1
  have F2 := fun_mk (st := sFraction) l2 c2 k2
  have b2 := F2.binds (ps := ["top", "bottom"]) fun _ _ _ _ _ _ us hl => by obtain ⟨_, _, rfl⟩ := len_2 hl; rfl
  have m2 := PySem.W.mg_of X G a2
  have F3 := fun_mk (st := sPlus) l3 c3 k3
  have b3 := F3.binds (ps := ["one", "other"]) fun _ _ _ _ _ _ us hl => by obtain ⟨_, _, rfl⟩ := len_2 hl; rfl
  have m3 := PySem.W.mg_of X G a3
  have F4 := fun_mk (st := sMinus) l4 c4 k4
  have b4 := F4.binds (ps := ["one", "other"]) fun _ _ _ _ _ _ us hl => by obtain ⟨_, _, rfl⟩ := len_2 hl; rfl
  have m4 := PySem.W.mg_of X G a4
  have F5 := fun_mk (st := sCBot) l5 c5 k5
  have b5 := F5.binds (ps := ["row"]) fun _ _ _ _ _ _ us hl => by obtain ⟨_, rfl⟩ := len_1 hl; rfl
  have m5 := PySem.W.mg_of X G a5
  have F6 := fun_mk (st := sWholes) l6 c6 k6
  have b6 := F6.binds (ps := ["row", "bottom"]) fun _ _ _ _ _ _ us hl => by obtain ⟨_, _, rfl⟩ := len_2 hl; rfl
  have m6 := PySem.W.mg_of X G a6
  have F7 := fun_mk (st := sLed) l7 c7 k7
  have b7 := F7.binds (ps := ["rows", "k"]) fun _ _ _ _ _ _ us hl => by obtain ⟨_, _, rfl⟩ := len_2 hl; rfl
  have m7 := PySem.W.mg_of X G a7
  have F8 := fun_mk (st := sSweptRow) l8 c8 k8
  have b8 := F8.binds (ps := ["row", "lead", "k", "before"]) fun _ _ _ _ _ _ us hl => by obtain ⟨_, _, _, _, rfl⟩ := len_4 hl; rfl
  have m8 := PySem.W.mg_of X G a8
  have F9 := fun_mk (st := sSwept) l9 c9 k9
  have b9 := F9.binds (ps := ["rows"]) fun _ _ _ _ _ _ us hl => by obtain ⟨_, rfl⟩ := len_1 hl; rfl
  have m9 := PySem.W.mg_of X G a9
  have F10 := fun_mk (st := sMeasure) l10 c10 k10
  have b10 := F10.binds (ps := ["table"]) fun _ _ _ _ _ _ us hl => by obtain ⟨_, rfl⟩ := len_1 hl; rfl
  have m10 := PySem.W.mg_of X G a10
  have F11 := fun_mk (st := sEaseTable) l11 c11 k11
  have b11 := F11.binds (ps := ["net"]) fun _ _ _ _ _ _ us hl => by obtain ⟨_, rfl⟩ := len_1 hl; rfl
  have m11 := PySem.W.mg_of X G a11
  have F12 := fun_mk (st := sPoleless) l12 c12 k12
  have b12 := F12.binds (ps := ["table"]) fun _ _ _ _ _ _ us hl => by obtain ⟨_, rfl⟩ := len_1 hl; rfl
  have m12 := PySem.W.mg_of X G a12
  have F13 := fun_mk (st := s_tree_sum) l13 c13 k13
  have b13 := F13.binds (ps := ["net"]) fun _ _ _ _ _ _ us hl => by obtain ⟨_, rfl⟩ := len_1 hl; rfl
  have m13 := PySem.W.mg_of X G a13
  have F14 := fun_mk (st := s_half_sum) l14 c14 k14
  have b14 := F14.binds (ps := ["net"]) fun _ _ _ _ _ _ us hl => by obtain ⟨_, rfl⟩ := len_1 hl; rfl
  have m14 := PySem.W.mg_of X G a14
  have F15 := fun_mk (st := sCellAt) l15 c15 k15
  have b15 := F15.binds (ps := ["_law_script", "_law_k"]) fun _ _ _ _ _ _ us hl => by obtain ⟨_, _, rfl⟩ := len_2 hl; rfl
  have m15 := PySem.W.mg_of X G a15
  have F16 := fun_mk (st := sLow) l16 c16 k16
  have b16 := F16.binds (ps := ["_law_top", "_law_bottom"]) fun _ _ _ _ _ _ us hl => by obtain ⟨_, _, rfl⟩ := len_2 hl; rfl
  have m16 := PySem.W.mg_of X G a16
  have F17 := fun_mk (st := sLAdd) l17 c17 k17
  have b17 := F17.binds (ps := ["_law_one", "_law_other"]) fun _ _ _ _ _ _ us hl => by obtain ⟨_, _, rfl⟩ := len_2 hl; rfl
  have m17 := PySem.W.mg_of X G a17
  have F18 := fun_mk (st := sLTake) l18 c18 k18
  have b18 := F18.binds (ps := ["_law_one", "_law_other"]) fun _ _ _ _ _ _ us hl => by obtain ⟨_, _, rfl⟩ := len_2 hl; rfl
  have m18 := PySem.W.mg_of X G a18
  have F19 := fun_mk (st := sLMul) l19 c19 k19
  have b19 := F19.binds (ps := ["_law_one", "_law_other"]) fun _ _ _ _ _ _ us hl => by obtain ⟨_, _, rfl⟩ := len_2 hl; rfl
  have m19 := PySem.W.mg_of X G a19
  have F20 := fun_mk (st := sWhole) l20 c20 k20
  have b20 := F20.binds (ps := ["_law_found"]) fun _ _ _ _ _ _ us hl => by obtain ⟨_, rfl⟩ := len_1 hl; rfl
  have m20 := PySem.W.mg_of X G a20
  have F21 := fun_mk (st := sLFrac) l21 c21 k21
  have b21 := F21.binds (ps := ["_law_found"]) fun _ _ _ _ _ _ us hl => by obtain ⟨_, rfl⟩ := len_1 hl; rfl
  have m21 := PySem.W.mg_of X G a21
  have F22 := fun_mk (st := sLFracs) l22 c22 k22
  have b22 := F22.binds (ps := ["_law_found", "_law_many"]) fun _ _ _ _ _ _ us hl => by obtain ⟨_, _, rfl⟩ := len_2 hl; rfl
  have m22 := PySem.W.mg_of X G a22
  have F23 := fun_mk (st := sLEase) l23 c23 k23
  have b23 := F23.binds (ps := ["_law_cell_here"]) fun _ _ _ _ _ _ us hl => by obtain ⟨_, rfl⟩ := len_1 hl; rfl
  have m23 := PySem.W.mg_of X G a23
  have F24 := fun_mk (st := sSpot) l24 c24 k24
  have b24 := F24.binds (ps := ["_law_turns", "_law_end"]) fun _ _ _ _ _ _ us hl => by obtain ⟨_, _, rfl⟩ := len_2 hl; rfl
  have m24 := PySem.W.mg_of X G a24
  have F25 := fun_mk (st := sNext) l25 c25 k25
  have b25 := F25.binds (ps := ["_law_turns", "_law_end"]) fun _ _ _ _ _ _ us hl => by obtain ⟨_, _, rfl⟩ := len_2 hl; rfl
  have m25 := PySem.W.mg_of X G a25
  have F26 := fun_mk (st := sPut) l26 c26 k26
  have b26 := F26.binds (ps := ["_law_turns", "_law_end", "_law_fresh"]) fun _ _ _ _ _ _ us hl => by obtain ⟨_, _, _, rfl⟩ := len_3 hl; rfl
  have m26 := PySem.W.mg_of X G a26
  have F27 := fun_mk (st := sGrow) l27 c27 k27
  have b27 := F27.binds (ps := ["_law_ropes", "_law_turns", "_law_cell_here"]) fun _ _ _ _ _ _ us hl => by obtain ⟨_, _, _, rfl⟩ := len_3 hl; rfl
  have m27 := PySem.W.mg_of X G a27
  have F28 := fun_mk (st := sNet) l28 c28 k28
  have b28 := F28.binds (ps := ["_law_cells", "_law_first"]) fun _ _ _ _ _ _ us hl => by obtain ⟨_, _, rfl⟩ := len_2 hl; rfl
  have m28 := PySem.W.mg_of X G a28
  have F29 := fun_mk (st := sSomeNet) l29 c29 k29
  have b29 := F29.binds (ps := ["_law_script", "_law_at", "_law_sizes"]) fun _ _ _ _ _ _ us hl => by obtain ⟨_, _, _, rfl⟩ := len_3 hl; rfl
  have m29 := PySem.W.mg_of X G a29
  have F30 := fun_mk (st := s_law_rising) l30 c30 k30
  have b30 := F30.binds (ps := ["_law_count", "_law_many"]) fun _ _ _ _ _ _ us hl => by obtain ⟨_, _, rfl⟩ := len_2 hl; rfl
  have m30 := PySem.W.mg_of X G a30
  have F31 := fun_mk (st := s_law_marks) l31 c31 k31
  have b31 := F31.binds (ps := ["_law_net_here", "_law_chosen"]) fun _ _ _ _ _ _ us hl => by obtain ⟨_, _, rfl⟩ := len_2 hl; rfl
  have m31 := PySem.W.mg_of X G a31
  have F32 := fun_mk (st := s_law_trees) l32 c32 k32
  have b32 := F32.binds (ps := ["_law_net_here"]) fun _ _ _ _ _ _ us hl => by obtain ⟨_, rfl⟩ := len_1 hl; rfl
  have m32 := PySem.W.mg_of X G a32
  have F33 := fun_mk (st := s_law_halves) l33 c33 k33
  have b33 := F33.binds (ps := ["_law_net_here"]) fun _ _ _ _ _ _ us hl => by obtain ⟨_, rfl⟩ := len_1 hl; rfl
  have m33 := PySem.W.mg_of X G a33
  have F34 := fun_mk (st := s_law_worth) l34 c34 k34
  have b34 := F34.binds (ps := ["_law_net_here", "_law_chosen"]) fun _ _ _ _ _ _ us hl => by obtain ⟨_, _, rfl⟩ := len_2 hl; rfl
  have m34 := PySem.W.mg_of X G a34
  have F35 := fun_mk (st := s_law_sum) l35 c35 k35
  have b35 := F35.binds (ps := ["_law_net_here", "_law_sets"]) fun _ _ _ _ _ _ us hl => by obtain ⟨_, _, rfl⟩ := len_2 hl; rfl
  have m35 := PySem.W.mg_of X G a35
  have F36 := fun_mk (st := sIs) l36 c36 k36
  have b36 := F36.binds (ps := ["_law_found", "_law_due"]) fun _ _ _ _ _ _ us hl => by obtain ⟨_, _, rfl⟩ := len_2 hl; rfl
  have m36 := PySem.W.mg_of X G a36
  have F37 := fun_mk (st := s_law_with) l37 c37 k37
  have b37 := F37.binds (ps := ["_law_net_here", "_law_rope", "_law_step"]) fun _ _ _ _ _ _ us hl => by obtain ⟨_, _, _, rfl⟩ := len_3 hl; rfl
  have m37 := PySem.W.mg_of X G a37
  have F38 := fun_mk (st := s_law_even) l38 c38 k38
  have b38 := F38.binds (ps := ["_law_three"]) fun _ _ _ _ _ _ us hl => by obtain ⟨_, rfl⟩ := len_1 hl; rfl
  have m38 := PySem.W.mg_of X G a38
  have F39 := fun_mk (st := sLaw) l39 c39 k39
  have mC := PySem.W.mg_of X G aC
  have m_abs := PySem.W.mg_none_of X G z_abs
  have m_len := PySem.W.mg_none_of X G z_len
  have m_range := PySem.W.mg_none_of X G z_range
  have m_list := PySem.W.mg_none_of X G z_list
  have m_zip := PySem.W.mg_none_of X G z_zip
  have m_tuple := PySem.W.mg_none_of X G z_tuple
  have m_isinstance := PySem.W.mg_none_of X G z_isinstance
  have m_int := PySem.W.mg_none_of X G z_int
  have m_bool := PySem.W.mg_none_of X G z_bool
  have m_all := PySem.W.mg_none_of X G z_all
  have m_min := PySem.W.mg_none_of X G z_min
  refine ⟨PySem.W.fnOf "law" "law" (defArgs sLaw) (defBody sLaw) (defScope sLaw) .none kV39 dc39 pm39 an39 cd39 ct39, fun s v => .of_eq rfl, fun base _ _ => ?_⟩
  have O1 : FnOk l.prog w K mg base CX0 1 f1 _ ["one", "other"] spGcd := ok_common F1  m_abs
  have O2 : FnOk l.prog w K mg base (CXr l.prog w) 2 f2 _ ["top", "bottom"] (spFrac C) := ok_fraction (bm := []) F2 O1 b1 k1 m1 mC xC
  have O3 : FnOk l.prog w K mg base CX0 3 f3 _ ["one", "other"] (spBin fun x y => x + y) := ok_plus F3 O2 b2 k2 m2 
  have O4 : FnOk l.prog w K mg base CX0 3 f4 _ ["one", "other"] (spBin fun x y => x - y) := ok_minus F4 O2 b2 k2 m2 
  have O5 : FnOk l.prog w K mg base CX0 2 f5 _ ["row"] spCB := ok_cbot F5 O1 b1 k1 m1 
  have O6 : FnOk l.prog w K mg base CX0 1 f6 _ ["row", "bottom"] spWholes := ok_wholes F6  
  have O7 : FnOk l.prog w K mg base CX0 1 f7 _ ["rows", "k"] spLed := ok_led F7  m_len m_range m_list
  have O8 : FnOk l.prog w K mg base CX0 1 f8 _ ["row", "lead", "k", "before"] spSwr := ok_sweptRow F8  m_zip
  have O9 : FnOk l.prog w K mg base CX0 2 f9 _ ["rows"] spSwept := ok_swept F9 O7 b7 k7 m7 O8 b8 k8 m8 m_len m_range
  have O10 : FnOk l.prog w K mg base CX0 3 f10 _ ["table"] spMeasure := ok_measure F10 O5 b5 k5 m5 O6 b6 k6 m6 O9 b9 k9 m9 O2 b2 k2 m2 m_len m_zip
  have O11 : FnOk l.prog w K mg base CX0 4 f11 _ ["net"] spETab := ok_etab F11 O3 b3 k3 m3 O4 b4 k4 m4 m_range m_tuple
  have O12 : FnOk l.prog w K mg base CX0 1 f12 _ ["table"] spPole := ok_pole F12  m_tuple
  have O13 : FnOk l.prog w K mg base CX0 5 f13 _ ["net"] spTSum := ok_tsum F13 O11 b11 k11 m11 O10 b10 k10 m10 m_tuple
  have O14 : FnOk l.prog w K mg base CX0 5 f14 _ ["net"] spHSum := ok_hsum F14 O11 b11 k11 m11 O10 b10 k10 m10 O12 b12 k12 m12 
  have O15 : FnOk l.prog w K mg base CX0 1 f15 _ ["_law_script", "_law_k"] (spCell K) := ok_cell F15  m_len
  have O16 : FnOk l.prog w K mg base CX0 1 f16 _ ["_law_top", "_law_bottom"] spLow := ok_low F16  m_abs
  have O17 : FnOk l.prog w K mg base CX0 2 f17 _ ["_law_one", "_law_other"] (spBin fun x y => x + y) := ok_ladd F17 O16 b16 k16 m16 
  have O18 : FnOk l.prog w K mg base CX0 2 f18 _ ["_law_one", "_law_other"] (spBin fun x y => x - y) := ok_ltake F18 O16 b16 k16 m16 
  have O19 : FnOk l.prog w K mg base CX0 2 f19 _ ["_law_one", "_law_other"] (spBin fun x y => x * y) := ok_lmul F19 O16 b16 k16 m16 
  have O20 : FnOk l.prog w K mg base CX0 1 f20 _ ["_law_found"] spWhole := ok_whole F20  m_isinstance m_int m_bool
  have O21 : FnOk l.prog w K mg base CX0 2 f21 _ ["_law_found"] spLFrac := ok_lfrac F21 O16 b16 k16 m16 O20 b20 k20 m20 m_isinstance m_tuple m_len
  have O22 : FnOk l.prog w K mg base CX0 3 f22 _ ["_law_found", "_law_many"] spLFracs := ok_lfracs F22 O21 b21 k21 m21 m_isinstance m_tuple m_len m_all
  have O23 : FnOk l.prog w K mg base CX0 2 f23 _ ["_law_cell_here"] spEase := ok_ease F23 O16 b16 k16 m16 
  have O24 : FnOk l.prog w K mg base CX0 1 f24 _ ["_law_turns", "_law_end"] spSpot := ok_spot F24  m_len m_range
  have O25 : FnOk l.prog w K mg base CX0 2 f25 _ ["_law_turns", "_law_end"] spNext := ok_next F25 O24 b24 k24 m24 
  have O26 : FnOk l.prog w K mg base CX0 2 f26 _ ["_law_turns", "_law_end", "_law_fresh"] spPut := ok_put F26 O24 b24 k24 m24 
  have O27 : FnOk l.prog w K mg base CX0 3 f27 _ ["_law_ropes", "_law_turns", "_law_cell_here"] spGrow := ok_grow F27 O23 b23 k23 m23 O26 b26 k26 m26 O24 b24 k24 m24 O25 b25 k25 m25 m_len m_range
  have O28 : FnOk l.prog w K mg base CX0 4 f28 _ ["_law_cells", "_law_first"] spNet := ok_net F28 O23 b23 k23 m23 O27 b27 k27 m27 m_len m_tuple
  have O29 : FnOk l.prog w K mg base CX0 5 f29 _ ["_law_script", "_law_at", "_law_sizes"] (spSome K) := ok_some F29 O15 b15 k15 m15 O28 b28 k28 m28 m_len m_min m_range
  have O30 : FnOk l.prog w K mg base CX0 1 f30 _ ["_law_count", "_law_many"] spRise := ok_lrise F30  m_range
  have O31 : FnOk l.prog w K mg base CX0 1 f31 _ ["_law_net_here", "_law_chosen"] spMarks := ok_marks F31  m_range m_list
  have O32 : FnOk l.prog w K mg base CX0 2 f32 _ ["_law_net_here"] (spLT 1 Wd.treeB) := ok_ltrees F32 O30 b30 k30 m30 O31 b31 k31 m31 m_len
  have O33 : FnOk l.prog w K mg base CX0 2 f33 _ ["_law_net_here"] (spLT 2 Wd.halfB) := ok_lhalves F33 O30 b30 k30 m30 O31 b31 k31 m31 m_len
  have O34 : FnOk l.prog w K mg base CX0 3 f34 _ ["_law_net_here", "_law_chosen"] spWorth := ok_worth F34 O19 b19 k19 m19 
  have O35 : FnOk l.prog w K mg base CX0 4 f35 _ ["_law_net_here", "_law_sets"] spLSum := ok_lsum F35 O17 b17 k17 m17 O34 b34 k34 m34 
  have O36 : FnOk l.prog w K mg base CX0 3 f36 _ ["_law_found", "_law_due"] spIs := ok_is F36 O21 b21 k21 m21 
  have O37 : FnOk l.prog w K mg base CX0 3 f37 _ ["_law_net_here", "_law_rope", "_law_step"] spWith := ok_with F37 O17 b17 k17 m17 m_list m_tuple
  have O38 : FnOk l.prog w K mg base CX0 4 f38 _ ["_law_three"] spEven := ok_even F38 O22 b22 k22 m22 O18 b18 k18 m18 m_tuple
  exact ok_law F39 O29 b29 k29 m29 O15 b15 k15 m15 O23 b23 k23 m23 O13 b13 k13 m13 O14 b14 k14 m14 O35 b35 k35 m35 O32 b32 k32 m32 O33 b33 k33 m33 O36 b36 k36 m36 O37 b37 k37 m37 O38 b38 k38 m38 O17 b17 k17 m17 m_len
theorem walk {l : PySem.W.OpenLaw} {q : Program} {loose : List Str} {XP : (Str → Option Value) → Heap → Prop} {YP : World → Heap → Prop} {d : DefRec} {K : Params → PySem.W.Frag} (hn : l.most = some 63) (hdf : d.params.defaults = [])
    (hY : ∀ (w : World) (h : Heap), YP w h → (K w.params).In h)
    (F : ∀ (w : World) (mg : Str → Option Value) (fa : Addr) (h : Heap), (K w.params).In h → h.Ns mainGlobals mg → mg d.name = some (.ref fa) →
      ∃ fd : FuncData, (∀ (s : Shared) (u : Value), BindsTo s fd ⟨[u], []⟩ [("_law_script", u)]) ∧ ∀ base : Heap, (K w.params).In base → base.Ns mainGlobals mg → FnOk l.prog w (K w.params) mg base CX0 6 fa fd ["_law_script"] (spLaw (K w.params))) :
    PySem.W.WalkO q loose XP YP l.row.toRowW d [] (fun f vs => PySem.call f vs) :=
  L2.walk_of (n := 63) (k := 6) (x := "_law_script") (CX := fun _ => CX0) (sp := fun w => spLaw (K w.params)) hn (by decide) hdf ⟨rfl, by decide, by decide⟩ hY F (fun _ _ a ns hl _ hS => ⟨a, ns, rfl, hS, hl, fun _ => rfl⟩) fun _ _ _ _ _ z => z
end My
open PySem PySem.W PyProof.Rows
set_option maxRecDepth 100000 in
set_option maxHeartbeats 0 in
theorem PySem.Challenge.cw_currentfloor_k21_sums_of_trees_holds : PySem.Challenge.rw_currentfloor_k21_sums_of_trees.Holds := by
  w_on; o_law; k_head; (case hw => w_witness2)
  k_fill
  refine My.walk (l := PySem.Challenge.rw_currentfloor_k21_sums_of_trees) rfl rfl (fun w h Y => PySem.W.kIn_of Y) ?F
  case F =>
    intro w mg fa h KX G hmg
    refine' My.all_mk KX G hmg ?a1 ?l1 ?c1 ?k1 ?a2 ?l2 ?c2 ?k2 ?a3 ?l3 ?c3 ?k3 ?a4 ?l4 ?c4 ?k4 ?a5 ?l5 ?c5 ?k5 ?a6 ?l6 ?c6 ?k6 ?a7 ?l7 ?c7 ?k7 ?a8 ?l8 ?c8 ?k8 ?a9 ?l9 ?c9 ?k9 ?a10 ?l10 ?c10 ?k10 ?a11 ?l11 ?c11 ?k11 ?a12 ?l12 ?c12 ?k12 ?a13 ?l13 ?c13 ?k13 ?a14 ?l14 ?c14 ?k14 ?a15 ?l15 ?c15 ?k15 ?a16 ?l16 ?c16 ?k16 ?a17 ?l17 ?c17 ?k17 ?a18 ?l18 ?c18 ?k18 ?a19 ?l19 ?c19 ?k19 ?a20 ?l20 ?c20 ?k20 ?a21 ?l21 ?c21 ?k21 ?a22 ?l22 ?c22 ?k22 ?a23 ?l23 ?c23 ?k23 ?a24 ?l24 ?c24 ?k24 ?a25 ?l25 ?c25 ?k25 ?a26 ?l26 ?c26 ?k26 ?a27 ?l27 ?c27 ?k27 ?a28 ?l28 ?c28 ?k28 ?a29 ?l29 ?c29 ?k29 ?a30 ?l30 ?c30 ?k30 ?a31 ?l31 ?c31 ?k31 ?a32 ?l32 ?c32 ?k32 ?a33 ?l33 ?c33 ?k33 ?a34 ?l34 ?c34 ?k34 ?a35 ?l35 ?c35 ?k35 ?a36 ?l36 ?c36 ?k36 ?a37 ?l37 ?c37 ?k37 ?a38 ?l38 ?c38 ?k38 ?a39 ?l39 ?c39 ?k39 ?aC ?xC ?z_abs ?z_len ?z_range ?z_list ?z_zip ?z_tuple ?z_isinstance ?z_int ?z_bool ?z_all ?z_min
    (case a1 => k_is)
    (case l1 => k_is)
    (case c1 => k_is)
    (case k1 => k_is)
    (case a2 => k_is)
    (case l2 => k_is)
    (case c2 => k_is)
    (case k2 => k_is)
    (case a3 => k_is)
    (case l3 => k_is)
    (case c3 => k_is)
    (case k3 => k_is)
    (case a4 => k_is)
    (case l4 => k_is)
    (case c4 => k_is)
    (case k4 => k_is)
    (case a5 => k_is)
    (case l5 => k_is)
    (case c5 => k_is)
    (case k5 => k_is)
    (case a6 => k_is)
    (case l6 => k_is)
    (case c6 => k_is)
    (case k6 => k_is)
    (case a7 => k_is)
    (case l7 => k_is)
    (case c7 => k_is)
    (case k7 => k_is)
    (case a8 => k_is)
    (case l8 => k_is)
    (case c8 => k_is)
    (case k8 => k_is)
    (case a9 => k_is)
    (case l9 => k_is)
    (case c9 => k_is)
    (case k9 => k_is)
    (case a10 => k_is)
    (case l10 => k_is)
    (case c10 => k_is)
    (case k10 => k_is)
    (case a11 => k_is)
    (case l11 => k_is)
    (case c11 => k_is)
    (case k11 => k_is)
    (case a12 => k_is)
    (case l12 => k_is)
    (case c12 => k_is)
    (case k12 => k_is)
    (case a13 => k_is)
    (case l13 => k_is)
    (case c13 => k_is)
    (case k13 => k_is)
    (case a14 => k_is)
    (case l14 => k_is)
    (case c14 => k_is)
    (case k14 => k_is)
    (case a15 => k_is)
    (case l15 => k_is)
    (case c15 => k_is)
    (case k15 => k_is)
    (case a16 => k_is)
    (case l16 => k_is)
    (case c16 => k_is)
    (case k16 => k_is)
    (case a17 => k_is)
    (case l17 => k_is)
    (case c17 => k_is)
    (case k17 => k_is)
    (case a18 => k_is)
    (case l18 => k_is)
    (case c18 => k_is)
    (case k18 => k_is)
    (case a19 => k_is)
    (case l19 => k_is)
    (case c19 => k_is)
    (case k19 => k_is)
    (case a20 => k_is)
    (case l20 => k_is)
    (case c20 => k_is)
    (case k20 => k_is)
    (case a21 => k_is)
    (case l21 => k_is)
    (case c21 => k_is)
    (case k21 => k_is)
    (case a22 => k_is)
    (case l22 => k_is)
    (case c22 => k_is)
    (case k22 => k_is)
    (case a23 => k_is)
    (case l23 => k_is)
    (case c23 => k_is)
    (case k23 => k_is)
    (case a24 => k_is)
    (case l24 => k_is)
    (case c24 => k_is)
    (case k24 => k_is)
    (case a25 => k_is)
    (case l25 => k_is)
    (case c25 => k_is)
    (case k25 => k_is)
    (case a26 => k_is)
    (case l26 => k_is)
    (case c26 => k_is)
    (case k26 => k_is)
    (case a27 => k_is)
    (case l27 => k_is)
    (case c27 => k_is)
    (case k27 => k_is)
    (case a28 => k_is)
    (case l28 => k_is)
    (case c28 => k_is)
    (case k28 => k_is)
    (case a29 => k_is)
    (case l29 => k_is)
    (case c29 => k_is)
    (case k29 => k_is)
    (case a30 => k_is)
    (case l30 => k_is)
    (case c30 => k_is)
    (case k30 => k_is)
    (case a31 => k_is)
    (case l31 => k_is)
    (case c31 => k_is)
    (case k31 => k_is)
    (case a32 => k_is)
    (case l32 => k_is)
    (case c32 => k_is)
    (case k32 => k_is)
    (case a33 => k_is)
    (case l33 => k_is)
    (case c33 => k_is)
    (case k33 => k_is)
    (case a34 => k_is)
    (case l34 => k_is)
    (case c34 => k_is)
    (case k34 => k_is)
    (case a35 => k_is)
    (case l35 => k_is)
    (case c35 => k_is)
    (case k35 => k_is)
    (case a36 => k_is)
    (case l36 => k_is)
    (case c36 => k_is)
    (case k36 => k_is)
    (case a37 => k_is)
    (case l37 => k_is)
    (case c37 => k_is)
    (case k37 => k_is)
    (case a38 => k_is)
    (case l38 => k_is)
    (case c38 => k_is)
    (case k38 => k_is)
    (case a39 => k_is)
    (case l39 => k_is)
    (case c39 => k_is)
    (case k39 => k_is)
    (case aC => k_is)
    (case xC => k_exc)
    (case z_abs => k_is)
    (case z_len => k_is)
    (case z_range => k_is)
    (case z_list => k_is)
    (case z_zip => k_is)
    (case z_tuple => k_is)
    (case z_isinstance => k_is)
    (case z_int => k_is)
    (case z_bool => k_is)
    (case z_all => k_is)
    (case z_min => k_is)
