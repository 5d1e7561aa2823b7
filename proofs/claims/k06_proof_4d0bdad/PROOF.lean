import PyProof.Rows.All
import Wide.All
import OpenK.AllK
import Wide.FinOn
import Lean
import PyProof.EqAt
import PyProof.EqKinds
import PyProof.TupleCall
import PySem.Challenge.RW_currentfloor_k06_texts_written_and_read
set_option Elab.async false
set_option linter.all false
set_option maxRecDepth 100000
namespace L2
open PySem PySem.Spec PyProof.Rows

noncomputable abbrev Key := Sum Int Str
noncomputable def keyIs : Key → Value → Bool
  | .inl k, v => Value.isInt k v
  | .inr x, v => Value.isStrOf x v
noncomputable def keyH (w : World) : Key → Int
  | .inl k => hashInt k
  | .inr x => hashStr w x
theorem keyIs_shape : ∀ {k : Key} {v : Value}, keyIs k v = true → (∃ i t, k = Sum.inl i ∧ v = Value.int i t) ∨ (∃ x t, k = Sum.inr x ∧ v = Value.str x t)
  | .inl i, v, h => by
    obtain ⟨t, e⟩ := Value.isInt_shape (k := i) (v := v) h
    exact .inl ⟨i, t, rfl, e⟩
  | .inr x, v, h => by
    obtain ⟨t, e⟩ := Value.isStrOf_shape (x := x) (v := v) h
    exact .inr ⟨x, t, rfl, e⟩
theorem keyIs_int (i : Int) (t : Tok) : keyIs (.inl i) (.int i t) = true := by simp [keyIs, Value.isInt]
theorem keyIs_str (x : Str) (t : Tok) : keyIs (.inr x) (.str x t) = true := by simp [keyIs, Value.isStrOf]
theorem key_ll (a b : Int) : decide ((Sum.inl a : Key) = Sum.inl b) = (a == b) := by
  by_cases e : a = b
  · subst e; simp
  · have h : ¬ (Sum.inl a : Key) = Sum.inl b := fun q => e (Sum.inl.inj q)
    rw [decide_eq_false h]
    exact (beq_eq_false_iff_ne.mpr e).symm
theorem key_rr (a b : Str) : decide ((Sum.inr a : Key) = Sum.inr b) = decide (a = b) := by
  by_cases e : a = b
  · subst e; simp
  · have h : ¬ (Sum.inr a : Key) = Sum.inr b := fun q => e (Sum.inr.inj q)
    rw [decide_eq_false h, decide_eq_false e]
theorem key_lr (a : Int) (b : Str) : decide ((Sum.inl a : Key) = Sum.inr b) = false := decide_eq_false (fun q => nomatch q)
theorem key_rl (a : Str) (b : Int) : decide ((Sum.inr a : Key) = Sum.inl b) = false := decide_eq_false (fun q => nomatch q)

noncomputable def mixKind (prog : Program) (w : World) : PySem.KeyKind prog w Key where
  is := keyIs
  hash := keyH w
  inj := fun v a b ha hb => by
    rcases keyIs_shape ha with ⟨i, t, rfl, rfl⟩ | ⟨x, t, rfl, rfl⟩
    · rcases keyIs_shape hb with ⟨j, u, rfl, e⟩ | ⟨y, u, rfl, e⟩
      · injection e with e1 _; rw [e1]
      · exact nomatch e
    · rcases keyIs_shape hb with ⟨j, u, rfl, e⟩ | ⟨y, u, rfl, e⟩
      · exact nomatch e
      · injection e with e1 _; rw [e1]
  byValue := fun k v h => by
    rcases keyIs_shape h with ⟨i, t, rfl, rfl⟩ | ⟨x, t, rfl, rfl⟩ <;> rfl
  pyHash := fun hv h => by
    rcases keyIs_shape hv with ⟨i, t, rfl, rfl⟩ | ⟨x, t, rfl, rfl⟩
    · exact wpAny_pyHash_int h
    · exact wpAny_pyHash_str h
  eqBool := fun hu hv h => by
    rcases keyIs_shape hu with ⟨i, t, rfl, rfl⟩ | ⟨x, t, rfl, rfl⟩
    · rcases keyIs_shape hv with ⟨j, u, rfl, rfl⟩ | ⟨y, u, rfl, rfl⟩
      · rw [key_ll] at h; exact wpAny_eqBool_int h
      · rw [key_lr] at h; exact SeqAt.EqAt.int_str i t y u _ _ _ _ h
    · rcases keyIs_shape hv with ⟨j, u, rfl, rfl⟩ | ⟨y, u, rfl, rfl⟩
      · rw [key_rl] at h; exact SeqAt.EqAt.str_int x t j u _ _ _ _ h
      · rw [key_rr] at h; exact wpAny_eqBool_str h
  «strs» := fun k x t v h => by
    rcases keyIs_shape h with ⟨i, u, rfl, e⟩ | ⟨y, u, rfl, e⟩
    · exact nomatch e
    · injection e with e1 _
      subst e1
      cases v <;> rfl

theorem mixKind_int (prog : Program) (w : World) (i : Int) (t : Tok) : (mixKind prog w).is (.inl i) (.int i t) = true := keyIs_int i t
theorem mixKind_str (prog : Program) (w : World) (x : Str) (t : Tok) : (mixKind prog w).is (.inr x) (.str x t) = true := keyIs_str x t
end L2

namespace L2
open PySem PySem.Spec PyProof.Rows

inductive V where
  | non | bl (b : Bool) | int (i : Int) | str (x : Str) | byt (b : Array UInt8) | flt (b : UInt64) | ref (a : Addr) | ty (n : String)
  deriving DecidableEq

noncomputable def RelV : V → Value → Prop
  | .non, u => u = Value.none
  | .bl b, u => u = Value.bool b
  | .int i, u => ∃ t, u = Value.int i t
  | .str x, u => ∃ t, u = Value.str x t
  | .byt b, u => ∃ t, u = Value.bytes b t
  | .flt b, u => ∃ t, u = Value.float b t
  | .ref a, u => u = Value.ref a
  | .ty n, u => u = Value.type n

noncomputable abbrev Vals : List V → List Value → Prop := Paired RelV
theorem Vals.length {xs : List V} {us : List Value} (r : Vals xs us) : xs.length = us.length := Paired.length r
theorem Vals.get : ∀ {xs : List V} {us : List Value} {i : Nat} {x : V}, Vals xs us → xs[i]? = some x → ∃ u, us[i]? = some u ∧ RelV x u
  | _, _, _, _, .nil, e => by simp at e
  | _, _, 0, _, .cons r _, e => by simp at e; subst e; exact ⟨_, rfl, r⟩
  | _, _, i + 1, x, .cons _ t, e => by
    obtain ⟨u, h1, h2⟩ := Vals.get (i := i) (x := x) t (by simpa using e)
    exact ⟨u, by simpa using h1, h2⟩
theorem Vals.set {x : V} {u : Value} (r : RelV x u) : ∀ {xs : List V} {us : List Value} (i : Nat), Vals xs us → Vals (xs.set i x) (us.set i u)
  | _, _, _, .nil => .nil
  | _, _, 0, .cons _ t => .cons r t
  | _, _, i + 1, .cons q t => .cons q (Vals.set r i t)
theorem Vals.append : ∀ {xs ys : List V} {us ws : List Value}, Vals xs us → Vals ys ws → Vals (xs ++ ys) (us ++ ws)
  | _, _, _, _, .nil, s => s
  | _, _, _, _, .cons r t, s => .cons r (Vals.append t s)
theorem Vals.take : ∀ {xs : List V} {us : List Value} (n : Nat), Vals xs us → Vals (xs.take n) (us.take n)
  | _, _, 0, _ => .nil
  | _, _, _ + 1, .nil => .nil
  | _, _, n + 1, .cons r t => .cons r (Vals.take n t)
theorem Vals.drop : ∀ {xs : List V} {us : List Value} (n : Nat), Vals xs us → Vals (xs.drop n) (us.drop n)
  | _, _, 0, r => r
  | _, _, _ + 1, .nil => .nil
  | _, _, n + 1, .cons _ t => Vals.drop n t
noncomputable def RelO : Option V → Option Value → Prop
  | some v, some u => RelV v u
  | none, none => True
  | _, _ => False
noncomputable def KV {κ : Type} : List (κ × V) → List (κ × Value) → Prop := Paired fun (p : κ × V) (q : κ × Value) => p.1 = q.1 ∧ RelV p.2 q.2

noncomputable def kV : Key → V
  | .inl i => .int i
  | .inr x => .str x

inductive HO where
    | lst (xs : List V)
    | tup (xs : List V)
    | dK (kvs : List (Key × V)) | dT (kvs : List (List Key × V))
    | set (S : Int → Bool) (n : Nat)
    | ins (C dx : Addr) (fs : List (Str × V))
    | own (x : Addr)
    | xd (fs : List (Str × V))
    | met (f x : Addr)
    | rng (lo hi : Int)
    | frz (o : Obj) (u : HO)
    | tbl (ps : Array Value)
    | ext (φ : Heap → Prop)

noncomputable abbrev Hp := Addr → Option HO
noncomputable def upd (H : Hp) (a : Addr) (o : HO) : Hp := fun b => if b = a then some o else H b
theorem upd_same {H : Hp} {a : Addr} {o : HO} : upd H a o a = some o := by unfold upd; rw [if_pos rfl]
theorem upd_ne {H : Hp} {a b : Addr} {o : HO} (h : b ≠ a) : upd H a o b = H b := by unfold upd; rw [if_neg h]
theorem ne_of {H : Hp} {a b : Addr} {o u : HO} (h : H a = some o) (h' : H b = some u) (d : o ≠ u) : a ≠ b := by
  intro e; subst e; rw [h] at h'; exact d (Option.some.inj h')
theorem ne_of_none {H : Hp} {a b : Addr} {o : HO} (h : H a = some o) (h' : H b = none) : a ≠ b := by
  intro e; subst e; rw [h] at h'; cases h'

section
variable (P : Program) (w : World)
noncomputable def ObjOk (H : Hp) (h : Heap) (a : Addr) : HO → Prop
  | .lst xs => xs.length ≤ sizeLine ∧ ∃ (its : List Value) (n : Nat), Vals xs its ∧ h.get? a = some { cls := .type "list", data := .seq its.toArray n }
  | .tup xs => xs.length ≤ sizeLine ∧ ∃ its : List Value, Vals xs its ∧ IsTup h a its.toArray ∧ ∃ o, h.get? a = some o ∧ o.dict = none
  | .dK kvs => kvs.length ≤ sizeLine ∧ (a == sysModules) = false ∧ ∃ vs, KV kvs vs ∧ h.DictOf (mixKind P w) a vs
  | .dT kvs => kvs.length ≤ sizeLine ∧ (a == sysModules) = false ∧ ∃ xs : List (List Key × Addr × Value),
      Paired (fun (p : List Key × V) (q : List Key × Addr × Value) => p.1 = q.1 ∧ H q.2.1 = some (.tup (p.1.map kV)) ∧ RelV p.2 q.2.2) kvs xs ∧
      ∃ o es ep, h.get? a = some o ∧ o.ExactDict ∧ o.data = .dict es ep ∧ es.toList = xs.map (entryOfKey (tupleKind (mixKind P w))) ∧ (xs.map (·.1)).Nodup
  | .set S n => h.SetOf (intKind P w) a S n
  | .ins C dx fs => H dx = some (.own a) ∧ fs.length ≤ 1000 ∧ dx ≠ a ∧ h.get? a = some (PySem.W.instObj C dx) ∧
      ∃ mA, h.Ns1 dx mA ∧ (∀ f, RelO (fs.lookup f) (mA f)) ∧ PySem.Within mA (fs.map (·.1))
  | .own _ => ∃ o, h.get? a = some o
  | .xd fs => ∃ mA, h.Ns1 a mA ∧ ∀ f, RelO (fs.lookup f) (mA f)
  | .rng lo hi => ∃ t u v, h.get? a = some { cls := .type "range", data := .fields #[.int lo t, .int hi u, .int 1 v] }
  | .frz o u => h.get? a = some o ∧ ObjOk H h a u
  | .tbl ps => h.get? a = some { cls := .none, data := .fields ps }
  | .met f x => h.get? a = some (PySem.W.methodObj (.ref f) (.ref x))
  | .ext φ => φ h ∧ (∃ o, h.get? a = some o) ∧ ∀ h1 h2 : Heap, φ h1 → (∀ o, h1.get? a = some o → h2.get? a = some o) → φ h2
noncomputable def HOk (H : Hp) (h : Heap) : Prop := ∀ a o, H a = some o → ObjOk P w H h a o
end

section
variable {P : Program} {w : World} {H H' : Hp} {h h' : Heap} {a : Addr} {o : HO}
theorem ObjOk.lt (x : ObjOk P w H h a o) : a < h.objs.size := by
  cases o with
  | lst xs => obtain ⟨_, _, _, _, e⟩ := x; exact Heap.lt_size e
  | tup xs => obtain ⟨_, _, _, p, _⟩ := x; exact p.lt
  | dK kvs => obtain ⟨_, _, _, _, o, _, _, e, _⟩ := x; exact Heap.lt_size e
  | dT kvs => obtain ⟨_, _, _, _, o, _, _, e, _⟩ := x; exact Heap.lt_size e
  | set S n => obtain ⟨o, _, _, _, e, _⟩ := x; exact Heap.lt_size e
  | ins C dx fs => obtain ⟨_, _, _, e, _⟩ := x; exact Heap.lt_size e
  | own y => obtain ⟨_, e⟩ := x; exact Heap.lt_size e
  | xd fs => obtain ⟨_, ⟨_, _, _, e, _⟩, _⟩ := x; exact Heap.lt_size e
  | rng lo hi => obtain ⟨_, _, _, e⟩ := x; exact Heap.lt_size e
  | frz ob u => obtain ⟨e, _⟩ := x; exact Heap.lt_size e
  | tbl ps => exact Heap.lt_size (show h.get? a = some _ from x)
  | met f y => exact Heap.lt_size (show h.get? a = some _ from x)
  | ext φ => obtain ⟨_, ⟨_, e⟩, _⟩ := x; exact Heap.lt_size e
theorem Paired.mapP {α β : Type} {F G : α → β → Prop} : ∀ {l₁ : List α} {l₂ : List β}, Paired F l₁ l₂ → (∀ a b, F a b → G a b) → Paired G l₁ l₂
  | _, _, .nil, _ => .nil
  | _, _, .cons r t, f => .cons (f _ _ r) (Paired.mapP t f)
theorem ObjOk.stay (x : ObjOk P w H h a o) (k : ∀ b u, (b = a ∨ H b = some (.own a)) → h.get? b = some u → h'.get? b = some u)
    (ho : ∀ b, H b = some (.own a) → H' b = some (.own a)) (ht : ∀ b xs, H b = some (.tup xs) → H' b = some (.tup xs)) : ObjOk P w H' h' a o := by
  induction o with
  | lst xs => obtain ⟨z, its, n, r, e⟩ := x; exact ⟨z, its, n, r, k _ _ (.inl rfl) e⟩
  | tup xs => obtain ⟨z, its, r, ⟨ob, e, c⟩, ob2, e2, c2⟩ := x; exact ⟨z, its, r, ⟨ob, k _ _ (.inl rfl) e, c⟩, ob2, k _ _ (.inl rfl) e2, c2⟩
  | dK kvs => obtain ⟨z, y, vs, r, ob, es, ep, e, c⟩ := x; exact ⟨z, y, vs, r, ob, es, ep, k _ _ (.inl rfl) e, c⟩
  | dT kvs =>
    obtain ⟨z, y, xs, r, ob, es, ep, e, c⟩ := x
    exact ⟨z, y, xs, Paired.mapP r fun p q z => ⟨z.1, ht _ _ z.2.1, z.2.2⟩, ob, es, ep, k _ _ (.inl rfl) e, c⟩
  | set S n => obtain ⟨ob, es, ep, t, e, c⟩ := x; exact ⟨ob, es, ep, t, k _ _ (.inl rfl) e, c⟩
  | ins C dx fs =>
    obtain ⟨d, z, ne, e, mA, ⟨od, es, ep, e2, c⟩, r⟩ := x
    exact ⟨ho _ d, z, ne, k _ _ (.inl rfl) e, mA, ⟨od, es, ep, k _ _ (.inr d) e2, c⟩, r⟩
  | own y => obtain ⟨ob, e⟩ := x; exact ⟨ob, k _ _ (.inl rfl) e⟩
  | xd fs => obtain ⟨mA, ⟨od, es, ep, e, c⟩, r⟩ := x; exact ⟨mA, ⟨od, es, ep, k _ _ (.inl rfl) e, c⟩, r⟩
  | rng lo hi => obtain ⟨t, u, v, e⟩ := x; exact ⟨t, u, v, k _ _ (.inl rfl) e⟩
  | frz ob u ih => obtain ⟨e, q⟩ := x; exact ⟨k _ _ (.inl rfl) e, ih q⟩
  | tbl ps =>
    have e : h.get? a = some { cls := .none, data := .fields ps } := x
    show h'.get? a = some { cls := .none, data := .fields ps }
    exact k a _ (.inl rfl) e
  | met f y =>
    have e : h.get? a = some (PySem.W.methodObj (.ref f) (.ref y)) := x
    show h'.get? a = some (PySem.W.methodObj (.ref f) (.ref y))
    exact k a _ (.inl rfl) e
  | ext φ => obtain ⟨p, ⟨o, e⟩, st⟩ := x; exact ⟨st _ _ p fun o q => k _ _ (.inl rfl) q, ⟨o, k _ _ (.inl rfl) e⟩, st⟩
theorem HOk.lt (x : HOk P w H h) (e : H a = some o) : a < h.objs.size := (x a o e).lt
theorem HOk.fresh (x : HOk P w H h) (e : h.objs.size ≤ a) : H a = none := by
  cases q : H a with
  | none => rfl
  | some u => exact absurd (Nat.lt_of_lt_of_le (x.lt q) e) (Nat.lt_irrefl _)
theorem HOk.kept (x : HOk P w H h) (k : ∀ b u, h.get? b = some u → h'.get? b = some u) : HOk P w H h' := fun a o e =>
  (x a o e).stay (fun b u _ q => k b u q) (fun _ q => q) fun _ _ q => q
theorem HOk.laid (x : HOk P w H h) (k : ∀ b u, h.get? b = some u → h'.get? b = some u) (hp : h.objs.size ≤ a) (new : ObjOk P w (upd H a o) h' a o) : HOk P w (upd H a o) h' := fun b u e => by
  have hn := x.fresh hp
  by_cases hb : b = a
  · subst hb; rw [upd_same] at e; cases e; exact new
  · rw [upd_ne hb] at e
    exact (x b u e).stay (fun c v _ q => k c v q) (fun c q => by rw [upd_ne (ne_of_none q hn)]; exact q) fun c xs q => by rw [upd_ne (ne_of_none q hn)]; exact q
end

noncomputable def Rd (H : Hp) (a : Addr) (u : HO) : Prop := H a = some u ∨ ∃ o, H a = some (.frz o u)
theorem Rd.of {H : Hp} {a : Addr} {u : HO} (h : H a = some u) : Rd H a u := .inl h
theorem Rd.ok {P : Program} {w : World} {H : Hp} {h : Heap} {a : Addr} {u : HO} (r : Rd H a u) (x : HOk P w H h) : ObjOk P w H h a u := by
  rcases r with r | ⟨o, r⟩
  · exact x a u r
  · obtain ⟨_, q⟩ := x a _ r
    exact q
noncomputable def Mut : Option HO → Prop
  | some (.lst _) => True
  | some (.dK _) => True
  | some (.dT _) => True
  | some (.set _ _) => True
  | some (.ins _ _ _) => True
  | some (.ext _) => True
  | _ => False
section
variable {P : Program} {w : World} {H : Hp} {h h' : Heap} {x e : Addr} {o' : HO}
theorem HOk.write (ok : HOk P w H h) (mu : Mut (H x)) (he : e = x ∨ H e = some (.own x)) (k : ∀ b u, b ≠ e → h.get? b = some u → h'.get? b = some u) (heo : ∃ u, h'.get? e = some u)
    (new : ObjOk P w (upd H x o') h' x o') : HOk P w (upd H x o') h' := fun b u q => by
  have nown : ∀ c y, H c = some (.own y) → c ≠ x := fun c y r z => by subst z; rw [r] at mu; exact mu
  have ntup : ∀ c xs, H c = some (.tup xs) → c ≠ x := fun c xs r z => by subst z; rw [r] at mu; exact mu
  by_cases hb : b = x
  · subst hb; rw [upd_same] at q; cases q; exact new
  · rw [upd_ne hb] at q
    by_cases hbe : b = e
    · have q' : H b = some (.own x) := by
        rcases he with z | z
        · exact absurd (hbe.trans z) hb
        · rw [hbe]; exact z
      rw [q] at q'; cases q'
      obtain ⟨v, hv⟩ := heo
      exact ⟨v, by rw [hbe]; exact hv⟩
    · refine (ok b u q).stay (fun c v hc r => k c v ?_ r) (fun c r => by rw [upd_ne (nown c b r)]; exact r) fun c xs r => by rw [upd_ne (ntup c xs r)]; exact r
      rcases hc with rfl | hc
      · exact hbe
      · rintro rfl
        rcases he with z | z
        · exact nown c b hc z
        · rw [hc] at z; cases z; exact hb rfl
end

structure Un (fs ex : List Addr) (H H' : Hp) (h h' : Heap) : Prop where
  keep : ∀ b o, h.get? b = some o → H b = none → b ∉ fs → b ∉ ex → h'.get? b = some o
  slot : ∀ b o, h.get? b = some o → H b = none → b ∈ fs → b ∉ ex → ∃ sl, h'.get? b = some { o with slots := sl }
  free : ∀ b o, h.get? b = some o → H b = none → b ∉ ex → H' b = none
  there : ∀ b o, h.get? b = some o → b ∉ ex → ∃ o', h'.get? b = some o'
  tups : ∀ b xs, H b = some (.tup xs) → H' b = some (.tup xs)
  frzs : ∀ b o u, H b = some (.frz o u) → H' b = some (.frz o u)
  tbls : ∀ b ps, H b = some (.tbl ps) → ∃ more, H' b = some (.tbl (ps ++ more))
section
variable {fs fs' ex ex' : List Addr} {H H1 H2 : Hp} {h h1 h2 h' : Heap} {a x e : Addr} {o : HO}
theorem Un.any (u : Un fs ex H H1 h h1) {b : Addr} {ob : Obj} (q : h.get? b = some ob) (n : H b = none) (hx : b ∉ ex) : ∃ sl, h1.get? b = some { ob with slots := sl } := by
  by_cases hb : b ∈ fs
  · exact u.slot b ob q n hb hx
  · exact ⟨ob.slots, u.keep b ob q n hb hx⟩
theorem Un.trans (a : Un fs ex H H1 h h1) (b : Un fs ex H1 H2 h1 h2) : Un fs ex H H2 h h2 where
  keep := fun c ob q n hc hx => b.keep c ob (a.keep c ob q n hc hx) (a.free c ob q n hx) hc hx
  slot := fun c ob q n hc hx => by
    obtain ⟨sl, e1⟩ := a.slot c ob q n hc hx
    obtain ⟨sl', e2⟩ := b.slot c _ e1 (a.free c ob q n hx) hc hx
    exact ⟨sl', e2⟩
  free := fun c ob q n hx => by
    obtain ⟨o', e1⟩ := a.there c ob q hx
    exact b.free c o' e1 (a.free c ob q n hx) hx
  there := fun c ob q hx => by
    obtain ⟨o', e1⟩ := a.there c ob q hx
    exact b.there c o' e1 hx
  tups := fun c xs q => b.tups c xs (a.tups c xs q)
  frzs := fun c ob xs q => b.frzs c ob xs (a.frzs c ob xs q)
  tbls := fun c ps q => by
    obtain ⟨m1, e1⟩ := a.tbls c ps q
    obtain ⟨m2, e2⟩ := b.tbls c _ e1
    exact ⟨m1 ++ m2, by rw [e2, Array.append_assoc]⟩
theorem Un.kept (k : ∀ b u, h.get? b = some u → h'.get? b = some u) : Un fs ex H H h h' :=
  ⟨fun b ob q _ _ _ => k b ob q, fun b ob q _ _ _ => ⟨ob.slots, k b ob q⟩, fun _ _ _ n _ => n, fun b ob q _ => ⟨ob, k b ob q⟩, fun _ _ q => q, fun _ _ _ q => q, fun _ ps q => ⟨#[], by rw [q]; simp⟩⟩
theorem Un.refl : Un fs ex H H h h := Un.kept fun _ _ q => q
theorem Un.laid (k : ∀ b u, h.get? b = some u → h'.get? b = some u) (hp : h.objs.size ≤ a) (hn : H a = none) : Un fs ex H (upd H a o) h h' where
  keep := fun b u q _ _ _ => k b u q
  slot := fun b u q _ _ _ => ⟨u.slots, k b u q⟩
  free := fun b u q n _ => by rw [upd_ne (Nat.ne_of_lt (Nat.lt_of_lt_of_le (Heap.lt_size q) hp))]; exact n
  there := fun b u q _ => ⟨u, k b u q⟩
  tups := fun b xs q => by rw [upd_ne (ne_of_none q hn)]; exact q
  frzs := fun b u xs q => by rw [upd_ne (ne_of_none q hn)]; exact q
  tbls := fun b ps q => ⟨#[], by rw [upd_ne (ne_of_none q hn), q]; simp⟩
theorem Un.write (mu : Mut (H x)) (he : e = x ∨ H e = some (.own x)) (k : ∀ b u, b ≠ e → h.get? b = some u → h'.get? b = some u) (heo : ∃ u, h'.get? e = some u) : Un fs ex H (upd H x o) h h' := by
  have hx : ∀ b, H b = none → b ≠ x := fun b n z => by subst z; rw [n] at mu; exact mu
  have hb : ∀ b, H b = none → b ≠ e := fun b n z => by
    subst z
    rcases he with r | r
    · exact hx b n r
    · rw [n] at r; cases r
  have hm : ∀ b u, H b = some u → ¬ Mut (some u) → b ≠ x := fun b u q nm z => by subst z; rw [q] at mu; exact nm mu
  refine ⟨fun b u q n _ _ => k b u (hb b n) q, fun b u q n _ _ => ⟨u.slots, k b u (hb b n) q⟩, fun b u q n _ => by rw [upd_ne (hx b n)]; exact n, fun b u q _ => ?_,
    fun b xs q => by rw [upd_ne (hm b _ q fun z => z)]; exact q, fun b u xs q => by rw [upd_ne (hm b _ q fun z => z)]; exact q, fun b ps q => ⟨#[], by rw [upd_ne (hm b _ q fun z => z), q]; simp⟩⟩
  by_cases hbe : b = e
  · subst hbe; exact heo
  · exact ⟨u, k b u hbe q⟩
theorem Un.mono (u : Un fs ex H H1 h h1) (hs : ∀ b ∈ fs, b ∈ fs') (hx : ∀ b ∈ ex, b ∈ ex') : Un fs' ex' H H1 h h1 :=
  ⟨fun b ob q n hb he => u.keep b ob q n (fun z => hb (hs b z)) fun z => he (hx b z), fun _ _ q n _ he => u.any q n fun z => he (hx _ z), fun b ob q n he => u.free b ob q n fun z => he (hx b z), fun b ob q he => u.there b ob q fun z => he (hx b z), u.tups, u.frzs, u.tbls⟩
end

noncomputable def trk (h : Heap) (H : Hp) : List Addr := (List.range h.objs.size).filter fun a => (H a).isSome
noncomputable def hidT (h : Heap) (H : Hp) : Heap := PySem.W.hideAll h (trk h H)
theorem hidT_size (h : Heap) (H : Hp) : (hidT h H).objs.size = h.objs.size := PySem.W.hideAll_size _ _
theorem hidT_get {h : Heap} {H : Hp} {b : Addr} {o : Obj} (e : h.get? b = some o) (n : H b = none) : (hidT h H).get? b = some o :=
  PySem.W.hideAll_get _ e fun hm => by
    have q : (H b).isSome = true := (List.mem_filter.mp hm).2
    rw [n] at q; simp at q
theorem of_hidT {h : Heap} {H : Hp} {b : Addr} {o : Obj} (e : (hidT h H).get? b = some o) : h.get? b = some o ∧ H b = none := by
  have e' : h.get? b = some o := PySem.W.of_hideAll (trk h H) e
  refine ⟨e', ?_⟩
  cases q : H b with
  | none => rfl
  | some x =>
    have hm : b ∈ trk h H := List.mem_filter.mpr ⟨List.mem_range.mpr (Heap.lt_size e'), by simp [q]⟩
    have z : (hidT h H).get? b = none := PySem.W.hideAll_none (trk h H) hm
    rw [z] at e; cases e

noncomputable def allNews (g h : Heap) (L : Addr) : List (Addr × Obj) := (List.range h.objs.size).filterMap fun a => if a = L ∨ (g.get? a).isSome = true then none else (h.get? a).map fun o => (a, o)
noncomputable def rest (g h : Heap) (L d : Addr) : List (Addr × Obj) := (allNews g h L).filter fun p => decide (p.1 ≠ d)
end L2

namespace L2
open PySem PySem.Spec PyProof.Rows

structure Mod (K : PySem.W.Frag) (mg : Str → Option Value) (base : Heap) : Prop where
  kin : K.In base
  glob : base.Ns mainGlobals mg
  blt : ∃ mb, base.Ns builtinsNs mb ∧ ∀ x : Str, x ≠ "__name__" → mb x = bootBuiltins x
  nolimit : base.NoLimit

structure Cx where
  prog : Program
  w : World
  K : PySem.W.Frag
  mg : Str → Option Value
  base : Heap
  A : Around
  N : List Str
  s₀ : Shared
  H₀ : Hp
  env : Env
  outer : List Env
  stack : List Env
  ex : List Addr
  fn : Str → Bool
  calm : Bool
  pn : List (Addr × Obj)
  xe : Value → Shared → Prop
noncomputable def frs (l : List Env) : List Addr := l.filterMap (·.frame)
noncomputable abbrev Cx.fs (X : Cx) : List Addr := frs X.outer

noncomputable def Vis (sc : Scope) (x : Str) : Prop := sc.names.lookup x = some .local ∨ sc.names.lookup x = some .cell ∨ sc.names.lookup x = some .free
noncomputable def Loc (sc : Scope) (x : Str) : Prop := sc.names.lookup x = some .local ∨ sc.names.lookup x = some .cell
noncomputable def Look (env : Env) (h : Heap) (m : Str → Option Value) (x : Str) (u : Value) : Prop :=
  (env.kindOf x = some .local ∧ m x = some u) ∨ ((env.kindOf x = some .cell ∨ env.kindOf x = some .free) ∧ ∃ c, env.cells.lookup x = some c ∧ h.IsCell c (some u))

structure Cx.Ok (X : Cx) : Prop where
  mod : Mod X.K X.mg X.base
  kind : X.env.scope.kind = .function
  glob : X.env.globals = mainGlobals
  blt : X.env.builtins = builtinsNs
  above : X.s₀.heap.objs.size ≤ X.env.locals
  inj : ∀ x y c, X.env.cells.lookup x = some c → X.env.cells.lookup y = some c → x = y
  has : ∀ x, (X.env.kindOf x = some .cell ∨ X.env.kindOf x = some .free) → ∃ c, X.env.cells.lookup x = some c
  cab : ∀ x c, X.fn x = true → X.env.cells.lookup x = some c → X.s₀.heap.objs.size ≤ c
  hd : X.calm = true → X.A.handled = none
  frames : X.A.frames = some X.stack
  stk : X.stack = X.outer ∨ (X.stack = X.env :: X.outer ∧ X.env.frame = some X.env.locals)
  exf : ∀ b ∈ X.ex, b ≠ X.env.locals ∧ ∀ x c, X.env.cells.lookup x = some c → c ≠ b
  bs : ∀ b o, X.base.get? b = some o → X.s₀.heap.get? b = some o ∧ X.H₀ b = none
  bsz : X.base.objs.size ≤ X.s₀.heap.objs.size
  noex : ∀ b o, X.base.get? b = some o → b ∉ X.ex
  exfs : ∀ b ∈ X.ex, b ∉ X.fs
  funs : X.s₀.heap.FunFrames X.base X.outer
  frf : ∀ b ∈ X.fs, X.H₀ b = none

structure Inv (X : Cx) (pins : List (Addr × Obj)) (σ : List (Option V)) (H : Hp) (s : Shared) : Prop where
  ok : X.Ok
  os : s.os = X.s₀.os
  bare : AllBare s.gens
  base : Un X.fs X.ex X.H₀ H X.s₀.heap s.heap
  loc : ∃ m, s.heap.Ns X.env.locals m ∧ ∀ (i : Nat) (x : Str) (v : V), X.N[i]? = some x → σ[i]? = some (some v) → Vis X.env.scope x → ∃ u, RelV v u ∧ Look X.env s.heap m x u
  cell : ∀ x c, X.env.cells.lookup x = some c → ∃ v, s.heap.IsCell c v
  free : H X.env.locals = none
  freeC : ∀ x c, X.env.cells.lookup x = some c → H c = none
  pin : ∀ p ∈ X.pn ++ pins, s.heap.get? p.1 = some p.2 ∧ H p.1 = none ∧ p.1 ≠ X.env.locals ∧ p.1 ∉ X.fs ∧ ∀ v, p.2.data ≠ .cell v
  hok : HOk X.prog X.w H s.heap
  len : σ.length = X.N.length

section
variable {X : Cx} {pins : List (Addr × Obj)} {σ : List (Option V)} {H H' : Hp} {s : Shared} {h' : Heap}

theorem Cx.Ok.nofr (ok : X.Ok) {b : Addr} {o : Obj} (e : X.base.get? b = some o) : b ∉ X.fs := fun hb => by
  have := (ok.funs.mem hb).1
  rw [e] at this; cases this
theorem Inv.bs (I : Inv X pins σ H s) : ∀ b o, X.base.get? b = some o → s.heap.get? b = some o ∧ H b = none := fun b o e =>
  ⟨I.base.keep b o (I.ok.bs b o e).1 (I.ok.bs b o e).2 (I.ok.nofr e) (I.ok.noex b o e), I.base.free b o (I.ok.bs b o e).1 (I.ok.bs b o e).2 (I.ok.noex b o e)⟩
theorem Inv.bk (I : Inv X pins σ H s) : ∀ b o, X.base.get? b = some o → s.heap.get? b = some o := fun b o e => (I.bs b o e).1
theorem Inv.mod (I : Inv X pins σ H s) : Mod X.K X.mg X.base := I.ok.mod
theorem Inv.kIn (I : Inv X pins σ H s) : X.K.In s.heap := I.ok.mod.kin.keeps I.bk
theorem Inv.nolimit (I : Inv X pins σ H s) : s.heap.NoLimit := I.ok.mod.nolimit.keeps I.bk
theorem Inv.lt (I : Inv X pins σ H s) : X.env.locals < s.heap.objs.size := let ⟨_, hn, _⟩ := I.loc; hn.lt
theorem Inv.sz (I : Inv X pins σ H s) : X.s₀.heap.objs.size ≤ s.heap.objs.size := Nat.le_trans I.ok.above (Nat.le_of_lt I.lt)
theorem Inv.nofs (I : Inv X pins σ H s) {a : Addr} (h : s.heap.objs.size ≤ a) : a ∉ X.fs := fun hb => by
  obtain ⟨_, o, ho, _⟩ := I.ok.funs.mem hb
  exact absurd (Nat.lt_of_lt_of_le (Heap.lt_size ho) (Nat.le_trans I.sz h)) (Nat.lt_irrefl _)
theorem Inv.cne (I : Inv X pins σ H s) : ∀ x c, X.env.cells.lookup x = some c → c ≠ X.env.locals := fun x c e z => by
  obtain ⟨v, o, ho, hd⟩ := I.cell x c e
  obtain ⟨m, ⟨o', es, ep, ho', hd', _⟩, _⟩ := I.loc
  rw [z, ho'] at ho; cases ho; rw [hd'] at hd; cases hd
theorem Inv.funs (I : Inv X pins σ H s) : s.heap.FunFrames X.base X.outer := by
  have all : ∀ (l : List Env), (∀ b ∈ frs l, b ∈ X.fs) → X.s₀.heap.FunFrames X.base l → s.heap.FunFrames X.base l := by
    intro l
    induction l with
    | nil => intro _ _; trivial
    | cons env r ih =>
      intro hs hl
      obtain ⟨hk, ⟨L, o, hf, hn, ho, hd⟩, hr⟩ := hl
      have hL : L ∈ X.fs := hs L (by unfold frs; rw [List.filterMap_cons, hf]; exact List.mem_cons_self)
      obtain ⟨sl, e⟩ := I.base.slot L o ho (I.ok.frf L hL) hL fun z => I.ok.exfs L z hL
      exact ⟨hk, ⟨L, _, hf, hn, e, hd⟩, ih (fun b hb => hs b (by unfold frs; rw [List.filterMap_cons, hf]; exact List.mem_cons_of_mem _ hb)) hr⟩
  exact all X.outer (fun _ hb => hb) I.ok.funs

theorem Inv.stack (I : Inv X pins σ H s) : s.heap.FunFrames X.base X.stack := by
  rcases I.ok.stk with e | ⟨e, hf⟩
  · rw [e]; exact I.funs
  · rw [e]
    obtain ⟨m, hn, _⟩ := I.loc
    refine .cons (by rw [I.ok.kind]; decide) hf hn ?_ I.funs
    exact Heap.get?_none_of_le (Nat.le_trans I.ok.bsz I.ok.above)
theorem Inv.stkSub (I : Inv X pins σ H s) : ∀ b ∈ frs X.stack, b ∈ X.env.locals :: X.fs := fun b hb => by
  rcases I.ok.stk with e | ⟨e, hf⟩
  · rw [e] at hb; exact List.mem_cons_of_mem _ hb
  · rw [e] at hb
    unfold frs at hb
    rw [List.filterMap_cons, hf] at hb
    exact hb
theorem Inv.stkFree (I : Inv X pins σ H s) : ∀ b ∈ frs X.stack, H b = none := fun b hb => by
  rcases List.mem_cons.mp (I.stkSub b hb) with e | hb
  · rw [e]; exact I.free
  · obtain ⟨_, o, ho, _⟩ := I.ok.funs.mem hb
    exact I.base.free b o ho (I.ok.frf b hb) fun z => I.ok.exfs b z hb

theorem Inv.step {g' : Array GenState} {t' : Nat} {d' : Drawn} {ch : List Addr} (I : Inv X pins σ H s)
    (hch : ∀ b ∈ ch, (b ∈ X.ex ∨ X.s₀.heap.objs.size ≤ b) ∧ b ≠ X.env.locals ∧ (∀ x c, X.env.cells.lookup x = some c → c ≠ b) ∧ ∀ p ∈ X.pn ++ pins, p.1 ≠ b)
    (keep : ∀ b o, b ≠ X.env.locals → b ∉ X.fs → b ∉ ch → s.heap.get? b = some o → H b = none → h'.get? b = some o)
    (slot : ∀ b o, b ≠ X.env.locals → b ∈ X.fs → b ∉ ch → s.heap.get? b = some o → H b = none → ∃ sl, h'.get? b = some { o with slots := sl }) (free : ∀ b o, b ∉ ch → s.heap.get? b = some o → H b = none → H' b = none)
    (there : ∀ b o, b ∉ ch → s.heap.get? b = some o → ∃ o', h'.get? b = some o')
    (tups : ∀ b xs, H b = some (.tup xs) → H' b = some (.tup xs)) (frzs : ∀ b o u, H b = some (.frz o u) → H' b = some (.frz o u)) (tbls : ∀ b ps, H b = some (.tbl ps) → ∃ more, H' b = some (.tbl (ps ++ more)))
    (ns : ∀ m, s.heap.Ns X.env.locals m → h'.Ns X.env.locals m) (hok : HOk X.prog X.w H' h') (hg : AllBare g') :
    Inv X pins σ H' { s with heap := h', gens := g', drawn := d', toks := t' } := by
  have neL : ∀ b o, X.s₀.heap.get? b = some o → b ≠ X.env.locals := fun b o e => Nat.ne_of_lt (Nat.lt_of_lt_of_le (Heap.lt_size e) I.ok.above)
  have neC : ∀ b o, X.s₀.heap.get? b = some o → b ∉ X.ex → b ∉ ch := fun b o e hx hb => by
    rcases (hch b hb).1 with z | z
    · exact hx z
    · exact absurd (Nat.lt_of_lt_of_le (Heap.lt_size e) z) (Nat.lt_irrefl _)
  have cellK : ∀ x c, X.env.cells.lookup x = some c → ∀ v, s.heap.IsCell c v → h'.IsCell c v := fun x c e v ⟨o, ho, hd⟩ => by
    have nch : c ∉ ch := fun z => (hch c z).2.2.1 x c e rfl
    by_cases hc : c ∈ X.fs
    · obtain ⟨sl, q⟩ := slot c o (I.cne x c e) hc nch ho (I.freeC x c e)
      exact ⟨_, q, hd⟩
    · exact ⟨o, keep c o (I.cne x c e) hc nch ho (I.freeC x c e), hd⟩
  refine ⟨I.ok, I.os, hg, ⟨fun b o e n hb hx => ?_, fun b o e n hb hx => ?_, fun b o e n hx => ?_, fun b o e hx => ?_, fun b xs e => tups b xs (I.base.tups b xs e), fun b o xs e => frzs b o xs (I.base.frzs b o xs e), fun b ps e => ?_⟩, ?_, fun x c e => ?_, ?_, fun x c e => ?_, fun p hp => ?_, hok, I.len⟩
  · exact keep b o (neL b o e) hb (neC b o e hx) (I.base.keep b o e n hb hx) (I.base.free b o e n hx)
  · obtain ⟨sl, e1⟩ := I.base.slot b o e n hb hx
    obtain ⟨sl', e2⟩ := slot b _ (neL b o e) hb (neC b o e hx) e1 (I.base.free b o e n hx)
    exact ⟨sl', e2⟩
  · obtain ⟨o', e1⟩ := I.base.there b o e hx
    exact free b o' (neC b o e hx) e1 (I.base.free b o e n hx)
  · obtain ⟨o', e1⟩ := I.base.there b o e hx
    exact there b o' (neC b o e hx) e1
  · obtain ⟨m1, e1⟩ := I.base.tbls b ps e
    obtain ⟨m2, e2⟩ := tbls b _ e1
    exact ⟨m1 ++ m2, by rw [e2, Array.append_assoc]⟩
  · obtain ⟨m, hn, hl⟩ := I.loc
    refine ⟨m, ns m hn, fun i x v e1 e2 e3 => ?_⟩
    obtain ⟨u, r, l⟩ := hl i x v e1 e2 e3
    refine ⟨u, r, ?_⟩
    rcases l with l | ⟨k, c, e, z⟩
    · exact .inl l
    · exact .inr ⟨k, c, e, cellK x c e _ z⟩
  · obtain ⟨v, z⟩ := I.cell x c e
    exact ⟨v, cellK x c e v z⟩
  · obtain ⟨m, ⟨o, _, _, ho, _⟩, _⟩ := I.loc
    exact free _ o (fun z => (hch _ z).2.1 rfl) ho I.free
  · obtain ⟨v, o, ho, hd⟩ := I.cell x c e
    exact free c o (fun z => (hch c z).2.2.1 x c e rfl) ho (I.freeC x c e)
  · obtain ⟨e, n, ne, nf, d⟩ := I.pin p hp
    have nch : p.1 ∉ ch := fun z => (hch p.1 z).2.2.2 p hp rfl
    exact ⟨keep p.1 p.2 ne nf nch e n, free p.1 p.2 nch e n, ne, nf, d⟩
theorem Inv.un {t' : Nat} (I : Inv X pins σ H s) (u : Un X.fs [] H H' s.heap h') (hok : HOk X.prog X.w H' h') : Inv X pins σ H' { s with heap := h', toks := t' } := by
  obtain ⟨m, ⟨o, es, ep, ho, r⟩, _⟩ := id I.loc
  obtain ⟨sl, hL⟩ := u.any ho I.free (by simp)
  exact I.step (g' := s.gens) (d' := s.drawn) (ch := []) (fun _ z => nomatch z) (fun b o _ hb _ e n => u.keep b o e n hb (by simp)) (fun b o _ hb _ e n => u.slot b o e n hb (by simp)) (fun b o _ e n => u.free b o e n (by simp)) (fun b o _ e => u.there b o e (by simp)) u.tups u.frzs u.tbls (fun m' hm => by
    obtain ⟨o', es', ep', ho', r'⟩ := hm
    rw [ho] at ho'; cases ho'
    exact ⟨_, es', ep', hL, r'⟩) hok I.bare
theorem Inv.call {g' : Array GenState} {t' : Nat} {d' : Drawn} {ch : List Addr} (I : Inv X pins σ H s) (u : Un (frs X.stack) ch H H' s.heap h') (hok : HOk X.prog X.w H' h') (hg : AllBare g')
    (hch : ∀ b ∈ ch, (b ∈ X.ex ∨ X.s₀.heap.objs.size ≤ b) ∧ b ≠ X.env.locals ∧ (∀ x c, X.env.cells.lookup x = some c → c ≠ b) ∧ ∀ p ∈ X.pn ++ pins, p.1 ≠ b) :
    Inv X pins σ H' { s with heap := h', gens := g', drawn := d', toks := t' } := by
  obtain ⟨m, ⟨o, es, ep, ho, r⟩, _⟩ := id I.loc
  obtain ⟨sl, hL⟩ := u.any ho I.free fun z => (hch _ z).2.1 rfl
  exact I.step (ch := ch) hch (fun b o hL hb hc e n => u.keep b o e n (fun z => (List.mem_cons.mp (I.stkSub b z)).elim hL hb) hc) (fun b o _ _ hc e n => u.any e n hc) (fun b o hc e n => u.free b o e n hc) (fun b o hc e => u.there b o e hc) u.tups u.frzs u.tbls (fun m' hm => by
    obtain ⟨o', es', ep', ho', r'⟩ := hm
    rw [ho] at ho'; cases ho'
    exact ⟨_, es', ep', hL, r'⟩) hok hg
theorem Inv.turned {t' : Nat} {it : Addr} (I : Inv X pins σ H s) (k : ∀ b o, b ≠ it → s.heap.get? b = some o → h'.get? b = some o) (hn : H it = none) (hL : it ≠ X.env.locals)
    (h1 : it ∈ X.ex ∨ X.s₀.heap.objs.size ≤ it) (h2 : ∀ x c, X.env.cells.lookup x = some c → c ≠ it) (h3 : ∀ p ∈ X.pn ++ pins, p.1 ≠ it) : Inv X pins σ H { s with heap := h', toks := t' } := by
  have nit : ∀ b u, H b = some u → b ≠ it := fun b u e z => by rw [z, hn] at e; cases e
  refine I.step (g' := s.gens) (d' := s.drawn) (ch := [it]) (fun b hb => ?_) (fun b o _ _ hc e _ => k b o (fun z => hc (by simp [z])) e) (fun b o _ _ hc e _ => ⟨o.slots, k b o (fun z => hc (by simp [z])) e⟩) (fun _ _ _ _ n => n)
    (fun b o hc e => ⟨o, k b o (fun z => hc (by simp [z])) e⟩) (fun _ _ e => e) (fun _ _ _ e => e) (fun b ps e => ⟨#[], by rw [e]; simp⟩) (fun m hm => ?_) (fun b u e => ?_) I.bare
  · have e : b = it := by simpa using hb
    subst e
    exact ⟨h1, hL, h2, h3⟩
  · obtain ⟨o, es, ep, ho, r⟩ := hm
    exact ⟨o, es, ep, k _ o (Ne.symm hL) ho, r⟩
  · refine (I.hok b u e).stay (fun c v hc q => k c v ?_ q) (fun _ q => q) fun _ _ q => q
    rcases hc with z | z
    · rw [z]; exact nit b u e
    · exact nit c _ z
theorem Inv.tok (I : Inv X pins σ H s) (t : Nat) : Inv X pins σ H { s with toks := t } := I.un (h' := s.heap) (t' := t) Un.refl I.hok
theorem Inv.kept {t' : Nat} (I : Inv X pins σ H s) (k : ∀ b u, s.heap.get? b = some u → h'.get? b = some u) : Inv X pins σ H { s with heap := h', toks := t' } := I.un (Un.kept k) (I.hok.kept k)
theorem Inv.laid {a : Addr} {o : HO} {t' : Nat} (I : Inv X pins σ H s) (k : ∀ b u, s.heap.get? b = some u → h'.get? b = some u) (hp : s.heap.objs.size ≤ a) (new : ObjOk X.prog X.w (upd H a o) h' a o) :
    Inv X pins σ (upd H a o) { s with heap := h', toks := t' } := I.un (Un.laid k hp (I.hok.fresh hp)) (I.hok.laid k hp new)
theorem Inv.write {x e : Addr} {o : HO} {t' : Nat} (I : Inv X pins σ H s) (mu : Mut (H x)) (he : e = x ∨ H e = some (.own x)) (k : ∀ b u, b ≠ e → s.heap.get? b = some u → h'.get? b = some u) (heo : ∃ u, h'.get? e = some u)
    (new : ObjOk X.prog X.w (upd H x o) h' x o) : Inv X pins σ (upd H x o) { s with heap := h', toks := t' } := I.un (Un.write mu he k heo) (I.hok.write mu he k heo new)
theorem Inv.pins_of {pins' : List (Addr × Obj)} (I : Inv X pins σ H s) (h : ∀ p ∈ pins', s.heap.get? p.1 = some p.2 ∧ H p.1 = none ∧ p.1 ≠ X.env.locals ∧ p.1 ∉ X.fs ∧ ∀ v, p.2.data ≠ .cell v) : Inv X pins' σ H s :=
  ⟨I.ok, I.os, I.bare, I.base, I.loc, I.cell, I.free, I.freeC, fun p hp => (List.mem_append.mp hp).elim (fun z => I.pin p (List.mem_append_left _ z)) (h p), I.hok, I.len⟩

theorem nodup_ix {N : List Str} (hN : N.Nodup) {i j : Nat} {x : Str} (a : N[i]? = some x) (b : N[j]? = some x) : i = j := by
  obtain ⟨h1, e1⟩ := List.getElem?_eq_some_iff.mp a
  obtain ⟨h2, e2⟩ := List.getElem?_eq_some_iff.mp b
  exact (List.getElem_inj hN).mp (e1.trans e2.symm)

theorem store_ok2 {M : Model} {A : Around} {E : Value → Shared → Prop} {i : Nat} {x : Str} {v : V} {u : Value} {Q : Unit → Shared → Prop} (I : Inv X pins σ H s) (hN : X.N.Nodup) (hi : X.N[i]? = some x) (hx : Loc X.env.scope x) (r : RelV v u)
    (h : ∀ s', Inv X pins (σ.set i (some v)) H s' → (∃ a, Heap.SameBut a s.heap s'.heap ∧ (a = X.env.locals ∨ X.env.cells.lookup x = some a)) → Q () s') (hf : X.fn x = true ∨ X.env.scope.names.lookup x = some .local := by first | exact .inl rfl | exact .inr rfl | assumption) : wpAny M A (storeName X.env x u) Q E s := by
  obtain ⟨m, hn, hl⟩ := id I.loc
  have hcls : (X.env.scope.kind == .class || (X.env.scope.kind == .module && X.env.locals != X.env.globals)) = false := by rw [I.ok.kind]; rfl
  have hiσ : i < σ.length := by rw [I.len]; exact (List.getElem?_eq_some_iff.mp hi).1
  have cne := I.cne
  have tracked : ∀ {a : Addr} {h' : Heap}, (∃ o, s.heap.get? a = some o ∧ H a = none) → Heap.SameBut a s.heap h' → HOk X.prog X.w H h' := fun {a h'} ha hs b ob e => by
    obtain ⟨_, _, hfree⟩ := ha
    refine (I.hok b ob e).stay (fun c w' hc q => (hs.2 c ?_).trans q) (fun _ q => q) fun _ _ q => q
    rintro rfl
    rcases hc with rfl | hc
    · rw [hfree] at e; cases e
    · rw [hfree] at hc; cases hc
  rcases hx with hk | hk
  · refine wpAny_storeName_local hk hn (fun h' hn' hs => ?_) hcls
    obtain ⟨oL, _, _, hoL, _⟩ := id hn
    refine h _ ⟨I.ok, I.os, I.bare, ⟨fun b o e n hb hx => ?_, fun b o e n hb hx => ?_, I.base.free, fun b o e hx => ?_, I.base.tups, I.base.frzs, I.base.tbls⟩, ⟨_, hn', fun j y v' e1 e2 e3 => ?_⟩, fun y c e => ?_, I.free, I.freeC, fun p hp => ?_, tracked ⟨oL, hoL, I.free⟩ hs, by simpa using I.len⟩ ⟨_, hs, .inl rfl⟩
    · exact (hs.2 b (Nat.ne_of_lt (Nat.lt_of_lt_of_le (Heap.lt_size e) I.ok.above))).trans (I.base.keep b o e n hb hx)
    · obtain ⟨sl, e1⟩ := I.base.slot b o e n hb hx
      exact ⟨sl, (hs.2 b (Nat.ne_of_lt (Nat.lt_of_lt_of_le (Heap.lt_size e) I.ok.above))).trans e1⟩
    · obtain ⟨o', e1⟩ := I.base.there b o e hx
      exact ⟨o', (hs.2 b (Nat.ne_of_lt (Nat.lt_of_lt_of_le (Heap.lt_size e) I.ok.above))).trans e1⟩
    · by_cases hj : j = i
      · subst hj
        rw [hi] at e1; cases e1
        rw [List.getElem?_set_self hiσ] at e2
        cases e2
        exact ⟨u, r, .inl ⟨hk, by simp⟩⟩
      · rw [List.getElem?_set_ne (Ne.symm hj)] at e2
        obtain ⟨u', r', q⟩ := hl j y v' e1 e2 e3
        refine ⟨u', r', ?_⟩
        rcases q with ⟨k, e⟩ | ⟨k, c, e, z⟩
        · refine .inl ⟨k, ?_⟩
          have : y ≠ x := fun e => hj (nodup_ix hN e1 (e ▸ hi))
          simp [this, e]
        · exact .inr ⟨k, c, e, z.sameBut hs (cne y c e)⟩
    · obtain ⟨w', z⟩ := I.cell y c e
      exact ⟨w', z.sameBut hs (cne y c e)⟩
    · obtain ⟨e, n, ne, nf, d⟩ := I.pin p hp
      exact ⟨(hs.2 p.1 ne).trans e, n, ne, nf, d⟩
  · have hfn : X.fn x = true := by
      rcases hf with z | z
      · exact z
      · rw [z] at hk; cases hk
    obtain ⟨c, hc⟩ := I.ok.has x (.inl hk)
    obtain ⟨w', z⟩ := I.cell x c hc
    refine wpAny_storeName_cell I.ok.kind hk hc z (fun h' hc' hs => ?_)
    obtain ⟨oc, hoc, hocd⟩ := id z
    refine h { s with heap := h' } ⟨I.ok, I.os, I.bare, ⟨fun b o e n hb hx => ?_, fun b o e n hb hx => ?_, I.base.free, fun b o e hx => ?_, I.base.tups, I.base.frzs, I.base.tbls⟩, ⟨m, hn.sameBut hs (Ne.symm (cne x c hc)), fun j y v' e1 e2 e3 => ?_⟩, fun y c' e => ?_, I.free, I.freeC, fun p hp => ?_, tracked ⟨oc, hoc, I.freeC x c hc⟩ hs, by simpa using I.len⟩ ⟨c, hs, .inr hc⟩
    · exact (hs.2 b (Nat.ne_of_lt (Nat.lt_of_lt_of_le (Heap.lt_size e) (I.ok.cab x c hfn hc)))).trans (I.base.keep b o e n hb hx)
    · obtain ⟨sl, e1⟩ := I.base.slot b o e n hb hx
      exact ⟨sl, (hs.2 b (Nat.ne_of_lt (Nat.lt_of_lt_of_le (Heap.lt_size e) (I.ok.cab x c hfn hc)))).trans e1⟩
    · obtain ⟨o', e1⟩ := I.base.there b o e hx
      exact ⟨o', (hs.2 b (Nat.ne_of_lt (Nat.lt_of_lt_of_le (Heap.lt_size e) (I.ok.cab x c hfn hc)))).trans e1⟩
    · by_cases hj : j = i
      · subst hj
        rw [hi] at e1; cases e1
        rw [List.getElem?_set_self hiσ] at e2
        cases e2
        exact ⟨u, r, .inr ⟨.inl hk, c, hc, hc'⟩⟩
      · rw [List.getElem?_set_ne (Ne.symm hj)] at e2
        obtain ⟨u', r', q⟩ := hl j y v' e1 e2 e3
        refine ⟨u', r', ?_⟩
        rcases q with q | ⟨k, c', e, z'⟩
        · exact .inl q
        · refine .inr ⟨k, c', e, z'.sameBut hs ?_⟩
          rintro rfl
          exact hj (nodup_ix hN e1 (I.ok.inj _ _ _ e hc ▸ hi))
    · by_cases hcc : c' = c
      · subst hcc; exact ⟨_, hc'⟩
      · obtain ⟨w2, z2⟩ := I.cell y c' e
        exact ⟨w2, z2.sameBut hs hcc⟩
    · obtain ⟨e, n, ne, nf, d⟩ := I.pin p hp
      refine ⟨(hs.2 p.1 ?_).trans e, n, ne, nf, d⟩
      intro q
      rw [q, hoc] at e
      have q' : oc = p.2 := Option.some.inj e
      exact d w' (by rw [← q']; exact hocd)
theorem store_ok {M : Model} {A : Around} {E : Value → Shared → Prop} {i : Nat} {x : Str} {v : V} {u : Value} {Q : Unit → Shared → Prop} (I : Inv X pins σ H s) (hN : X.N.Nodup) (hi : X.N[i]? = some x) (hx : Loc X.env.scope x) (r : RelV v u)
    (h : ∀ s', Inv X pins (σ.set i (some v)) H s' → Q () s') (hf : X.fn x = true ∨ X.env.scope.names.lookup x = some .local := by first | exact .inl rfl | exact .inr rfl | assumption) : wpAny M A (storeName X.env x u) Q E s :=
  store_ok2 I hN hi hx r (fun s' I' _ => h s' I') hf
theorem Inv.call' {s' : Shared} {ch : List Addr} (I : Inv X pins σ H s) (ho : s'.os = s.os) (u : Un (frs X.stack) ch H H' s.heap s'.heap) (hok : HOk X.prog X.w H' s'.heap) (hg : AllBare s'.gens)
    (hch : ∀ b ∈ ch, (b ∈ X.ex ∨ X.s₀.heap.objs.size ≤ b) ∧ b ≠ X.env.locals ∧ (∀ x c, X.env.cells.lookup x = some c → c ≠ b) ∧ ∀ p ∈ X.pn ++ pins, p.1 ≠ b) : Inv X pins σ H' s' := by
  obtain ⟨h', g', d', t', o'⟩ := s'
  have e : o' = s.os := ho
  subst e
  exact I.call (g' := g') (t' := t') (d' := d') u hok hg hch
end

noncomputable abbrev XK := Value → Option Addr → Hp → Prop
noncomputable abbrev St := List (Option V)
noncomputable abbrev VK := V → Hp → Prop
noncomputable abbrev TE := St → Hp → VK → Prop
noncomputable abbrev TT := St → Hp → (Bool → Hp → Prop) → Prop
noncomputable abbrev TA := St → Hp → (List V → Hp → Prop) → Prop
structure Ends where
  nx : St → Hp → Prop
  rt : VK
  bk : St → Hp → Prop := fun _ _ => False
  ct : St → Hp → Prop := fun _ _ => False
noncomputable abbrev TS := Ends → St → Hp → Prop

noncomputable def EP (X : Cx) (pins : List (Addr × Obj)) (σ : St) (Q : VK) (u : Value) (s' : Shared) : Prop := ∃ v H', Inv X pins σ H' s' ∧ RelV v u ∧ Q v H'
noncomputable def TP (X : Cx) (pins : List (Addr × Obj)) (σ : St) (Q : Bool → Hp → Prop) (b : Bool) (s' : Shared) : Prop := ∃ H', Inv X pins σ H' s' ∧ Q b H'
noncomputable def AP (X : Cx) (pins : List (Addr × Obj)) (σ : St) (Q : List V → Hp → Prop) (us : List Value) (s' : Shared) : Prop := ∃ vs H', Inv X pins σ H' s' ∧ Vals vs us ∧ Q vs H'
noncomputable def SP (X : Cx) (pins : List (Addr × Obj)) (D : Ends) (f : Flow) (s' : Shared) : Prop :=
  match f with
  | .next => ∃ σ' H', Inv X pins σ' H' s' ∧ D.nx σ' H'
  | .brk => ∃ σ' H', Inv X pins σ' H' s' ∧ D.bk σ' H'
  | .cont => ∃ σ' H', Inv X pins σ' H' s' ∧ D.ct σ' H'
  | .ret u => ∃ v σ' H', Inv X pins σ' H' s' ∧ RelV v u ∧ D.rt v H'

noncomputable def PE (X : Cx) (e : Expr) (t : TE) : Prop :=
  ∀ (pins : List (Addr × Obj)) (s : Shared) (σ : St) (H : Hp) (Q : VK), Inv X pins σ H s → t σ H Q → wpAny (model X.prog X.w) X.A (eval e X.env) (EP X pins σ Q) X.xe s
noncomputable def PT (X : Cx) (e : Expr) (t : TT) : Prop :=
  ∀ (pins : List (Addr × Obj)) (s : Shared) (σ : St) (H : Hp) (Q : Bool → Hp → Prop), Inv X pins σ H s → t σ H Q → wpAny (model X.prog X.w) X.A (isTrue e X.env (eval e X.env)) (TP X pins σ Q) X.xe s
noncomputable def PW (X : Cx) (e : Expr) (t : TT) : Prop :=
  ∀ (whole : Sem Value) (pins : List (Addr × Obj)) (s : Shared) (σ : St) (H : Hp) (Q : Bool → Hp → Prop), Inv X pins σ H s → t σ H Q → wpAny (model X.prog X.w) X.A (isTrue e X.env whole) (TP X pins σ Q) X.xe s
theorem PW.pt {X : Cx} {e : Expr} {t : TT} (h : PW X e t) : PT X e t := h _
noncomputable def PA (X : Cx) (es : List Expr) (t : TA) : Prop :=
  ∀ (pos : Pos) (pins : List (Addr × Obj)) (s : Shared) (σ : St) (H : Hp) (Q : List V → Hp → Prop), Inv X pins σ H s → t σ H Q → wpAny (model X.prog X.w) X.A (spliced (backTo pos (starEach es X.env))) (AP X pins σ Q) X.xe s
noncomputable def PS (X : Cx) (st : Stmt) (t : TS) : Prop :=
  ∀ (pins : List (Addr × Obj)) (s : Shared) (σ : St) (H : Hp) (D : Ends), Inv X pins σ H s → t D σ H → wpAny (model X.prog X.w) X.A (exec st X.env) (SP X pins D) X.xe s
noncomputable def PSs (X : Cx) (st : List Stmt) (t : TS) : Prop :=
  ∀ (pins : List (Addr × Obj)) (s : Shared) (σ : St) (H : Hp) (D : Ends), Inv X pins σ H s → t D σ H → wpAny (model X.prog X.w) X.A (execs st X.env) (SP X pins D) X.xe s
theorem thn {α : Type} {t : Sem α} {Q Q' : α → Shared → Prop} {M : Model} {A : Around} {E : Value → Shared → Prop} {s : Shared} (h : wpAny M A t Q E s) (hQ : ∀ a s, Q a s → Q' a s) : wpAny M A t Q' E s := wpAny_mono h hQ fun _ _ x => x
end L2

namespace L2
open PySem PySem.Spec PyProof.Rows
section
variable {X : Cx}

inductive VarR (i : Nat) (σ : St) (H : Hp) (Q : VK) : Prop
  | mk (v : V) (e : σ[i]? = some (some v)) (q : Q v H) : VarR i σ H Q
noncomputable def tVar (i : Nat) : TE := fun σ H Q => VarR i σ H Q
inductive BlR (x : V) (H : Hp) (Q : Bool → Hp → Prop) : Prop
  | mk (c : Bool) (e : x = .bl c) (q : Q c H) : BlR x H Q
noncomputable def tC (v : V) : TE := fun _ H Q => Q v H
theorem pe_var {i : Nat} {x : Str} {pos : Pos} (hN : X.N[i]? = some x) (hv : Vis X.env.scope x) (hd : (x == ("__debug__" : Str)) = false := by decide) (hcd : (x == ("__classdict__" : Str)) = false := by decide) : PE X (.Name x pos) (tVar i) := by
  intro pins s σ H Q I h
  obtain ⟨v, e, h⟩ := h
  obtain ⟨m, hn, hl⟩ := I.loc
  obtain ⟨u, r, l⟩ := hl i x v hN e hv
  have fin : EP X pins σ Q u s := ⟨v, H, I, r, h⟩
  rcases l with ⟨hk, hm⟩ | ⟨hk, c, hc, hcell⟩
  · exact wpAny_Name (wpAny_loadName_local I.ok.kind hk hn hm fin) hd
  · rcases hk with hk | hk
    · exact wpAny_Name (wpAny_loadName_cell I.ok.kind hk hc hcell fin) hd
    · exact wpAny_Name (wpAny_loadName_free I.ok.kind hk hc hcell fin hcd) hd
theorem pe_int {i j pos} : PE X (.Constant (.int i) j pos) (tC (.int i)) := fun _ _ _ H _ I h => wpAny_Constant_int ⟨.int i, H, I.tok _, ⟨_, rfl⟩, h⟩
theorem pe_bl {b j pos} : PE X (.Constant (.bool b) j pos) (tC (.bl b)) := fun _ _ _ H _ I h => Constant_bool ⟨.bl b, H, I, rfl, h⟩
theorem pe_str {x j pos} : PE X (.Constant (.str x) j pos) (tC (.str x)) := fun _ _ _ H _ I h => Calls.Constant_str ⟨.str x, H, I.tok _, ⟨_, rfl⟩, h⟩

noncomputable def Gl (X : Cx) (x : Str) : Prop := X.env.kindOf x = some .globalImplicit
theorem ld_glob {E : Value → Shared → Prop} {pins : List (Addr × Obj)} {s : Shared} {σ : St} {H : Hp} {x : Str} {u : Value} {pos : Pos} {Q : Value → Shared → Prop} (I : Inv X pins σ H s) (hg : Gl X x) (hm : X.mg x = some u) (h : Q u s)
    (hd : (x == ("__debug__" : Str)) = false := by decide) : wpAny (model X.prog X.w) X.A (eval (.Name x pos) X.env) Q E s :=
  Calls.Name_function_global I.ok.kind hg (Calls.loadGlobal_global (by rw [I.ok.glob]; exact I.mod.glob.keeps I.bk) hm h) hd
theorem ld_blt {E : Value → Shared → Prop} {pins : List (Addr × Obj)} {s : Shared} {σ : St} {H : Hp} {x : Str} {u : Value} {pos : Pos} {Q : Value → Shared → Prop} (I : Inv X pins σ H s) (hg : Gl X x) (hm : X.mg x = none) (hv : bootBuiltins x = some u) (h : Q u s)
    (hn : x ≠ "__name__" := by decide) (hd : (x == ("__debug__" : Str)) = false := by decide) : wpAny (model X.prog X.w) X.A (eval (.Name x pos) X.env) Q E s := by
  obtain ⟨mb, h1, h2⟩ := I.mod.blt
  exact Calls.Name_function_global I.ok.kind hg (Calls.loadGlobal_builtin (by rw [I.ok.glob]; exact I.mod.glob.keeps I.bk) hm (by rw [I.ok.blt]; exact h1.keeps I.bk) ((h2 x hn).trans hv) h) hd
theorem pe_bltn {x : Str} {v : V} {u : Value} {pos : Pos} (hg : Gl X x) (hm : X.mg x = none) (hv : bootBuiltins x = some u) (r : RelV v u) (hn : x ≠ "__name__" := by decide) (hd : (x == ("__debug__" : Str)) = false := by decide) : PE X (.Name x pos) (tC v) :=
  fun _ _ _ H _ I h => ld_blt I hg hm hv ⟨v, H, I, r, h⟩ hn hd

variable {a b : Expr} {ta tb : TE} {pos : Pos}
noncomputable def PC (X : Cx) (op : CmpOp) (a b : Expr) (t : TE) : Prop :=
  ∀ (pins : List (Addr × Obj)) (s : Shared) (σ : St) (H : Hp) (Q : VK), Inv X pins σ H s → t σ H Q →
    wpAny (model X.prog X.w) X.A (eval a X.env) (fun v s₁ => wpAny (model X.prog X.w) X.A (eval b X.env) (fun u s₂ => wpAny (model X.prog X.w) X.A (compareOp op v u) (EP X pins σ Q) X.xe s₂) X.xe s₁) X.xe s
theorem nobehind (b : Expr) {op : CmpOp} (h : op ≠ .In) (h2 : op ≠ .NotIn) : behindInMarks op b = false := by
  have e1 : (op == CmpOp.In) = false := by cases op <;> first | rfl | exact absurd rfl h
  have e2 : (op == CmpOp.NotIn) = false := by cases op <;> first | rfl | exact absurd rfl h2
  cases b <;> simp [behindInMarks, e1, e2]
noncomputable def tB (t : TE) : TT := fun σ H Q => t σ H fun x H1 => BlR x H1 Q
theorem pt_cmp {op : CmpOp} {t : TE} (h : PC X op a b t) (h1 : behindInMarks op b = false := by first | exact nobehind _ (by decide) (by decide) | rfl) : PT X (.Compare a [op] [b] pos) (tB t) := by
  intro pins s σ H Q I hw
  refine wpAny_isTrue_Compare1 (thn (h pins s σ H _ I hw) fun v s1 h1 => thn h1 fun u s2 h2 => thn h2 fun c s3 ⟨x, H1, I1, r1, q1⟩ => ?_) h1
  obtain ⟨d, rfl, q⟩ := q1
  cases r1
  exact wpAny_truthy_bool ⟨H1, I1, q⟩
theorem pt_val {e : Expr} {t : TE} (h : PE X e t) (he : ∀ whole, isTrue e X.env whole = (do let v ← whole; standAt e.pos; holding [v] (truthy v)) := by intro _; rfl) : PT X e (tB t) := by
  intro pins s σ H Q I hw
  refine isTrue_plain (thn (h pins s σ H _ I hw) fun v s1 ⟨x, H1, I1, r1, q1⟩ => ?_) (he _)
  obtain ⟨d, rfl, q⟩ := q1
  cases r1
  exact wpAny_truthy_bool ⟨H1, I1, q⟩

variable {tA tB' : TT} {rest : List Expr}
noncomputable def tOr (t u : TT) : TT := fun σ H Q => t σ H fun c H1 => if c = true then Q true H1 else u σ H1 Q
noncomputable def tNot (t : TT) : TT := fun σ H Q => t σ H fun c H1 => Q (!c) H1
theorem pw_or1 (ha : PT X a tA) : PW X (.BoolOp .Or [a] pos) tA := by
  intro wh pins s σ H Q I h
  refine isTrue_or (thn (ha pins s σ H Q I h) fun c s1 e => ?_)
  cases c with
  | false => exact isTrue_or_nil e
  | true => exact e
theorem pw_or (ha : PT X a tA) (hb : PW X (.BoolOp .Or (b :: rest) pos) tB') : PW X (.BoolOp .Or (a :: b :: rest) pos) (tOr tA tB') := by
  intro wh pins s σ H Q I h
  refine isTrue_or (thn (ha pins s σ H _ I h) fun c s1 ⟨H1, I1, q1⟩ => ?_)
  cases c with
  | true => exact ⟨H1, I1, q1⟩
  | false => exact hb wh pins s1 σ H1 Q I1 q1
theorem pt_not (ha : PT X a tA) : PT X (.UnaryOp .Not a pos) (tNot tA) := by
  intro pins s σ H Q I h
  exact isTrue_not (ha pins s σ H (fun c H1 => Q (!c) H1) I h)
noncomputable def tAndV (ta tb : TE) : TE := fun σ H Q => ta σ H fun x H1 => ∃ c, x = .bl c ∧ if c = true then tb σ H1 Q else Q (.bl false) H1
noncomputable def tOrV (ta tb : TE) : TE := fun σ H Q => ta σ H fun x H1 => ∃ c, x = .bl c ∧ if c = true then Q (.bl true) H1 else tb σ H1 Q
noncomputable def tNotV (ta : TE) : TE := fun σ H Q => ta σ H fun x H1 => ∃ c, x = .bl c ∧ Q (.bl (!c)) H1
theorem pe_one {op} {t : TE} (h : PE X a t) : PE X (.BoolOp op [a] pos) t := fun pins s σ H Q I hw => BoolOp_one (h pins s σ H Q I hw)
theorem pe_and (ha : PE X a ta) (hb : PE X (.BoolOp .And (b :: rest) pos) tb) : PE X (.BoolOp .And (a :: b :: rest) pos) (tAndV ta tb) := by
  intro pins s σ H Q I h
  refine BoolOp_and (thn (ha pins s σ H _ I h) fun v s1 ⟨x, H1, I1, r1, q1⟩ => ?_)
  obtain ⟨c, rfl, q1⟩ := q1
  cases r1
  refine wpAny_truthy_bool ?_
  cases c with
  | true => exact hb pins s1 σ H1 Q I1 q1
  | false => exact ⟨.bl false, H1, I1, rfl, q1⟩
theorem pe_or (ha : PE X a ta) (hb : PE X (.BoolOp .Or (b :: rest) pos) tb) : PE X (.BoolOp .Or (a :: b :: rest) pos) (tOrV ta tb) := by
  intro pins s σ H Q I h
  refine BoolOp_or (thn (ha pins s σ H _ I h) fun v s1 ⟨x, H1, I1, r1, q1⟩ => ?_)
  obtain ⟨c, rfl, q1⟩ := q1
  cases r1
  refine wpAny_truthy_bool ?_
  cases c with
  | false => exact hb pins s1 σ H1 Q I1 q1
  | true => exact ⟨.bl true, H1, I1, rfl, q1⟩
theorem pe_not (ha : PE X a ta) : PE X (.UnaryOp .Not a pos) (tNotV ta) := by
  intro pins s σ H Q I h
  refine UnaryOp_ (thn (ha pins s σ H _ I h) fun v s1 ⟨x, H1, I1, r1, q1⟩ => ?_)
  obtain ⟨c, rfl, q1⟩ := q1
  cases r1
  exact not_of (wpAny_truthy_bool ⟨.bl (!c), H1, I1, rfl, q1⟩)
noncomputable def tIf (t : TT) (ta tb : TE) : TE := fun σ H Q => t σ H fun c H1 => if c = true then ta σ H1 Q else tb σ H1 Q
theorem pe_ifExp {c : Expr} (hc : PT X c tA) (ha : PE X a ta) (hb : PE X b tb) : PE X (.IfExp c a b pos) (tIf tA ta tb) := by
  intro pins s σ H Q I h
  refine wpAny_IfExp (thn (hc pins s σ H _ I h) fun d s1 ⟨H1, I1, q1⟩ => ?_)
  cases d with
  | true => exact ha pins s1 σ H1 Q I1 q1
  | false => exact hb pins s1 σ H1 Q I1 q1
end
end L2

namespace L2
open PySem PySem.Spec PyProof.Rows

noncomputable def SqL (K : PySem.W.Frag) (H : Hp) (a : Addr) (xs : List V) : Prop :=
  Rd H a (.lst xs) ∨
    ∃ (o : Obj) (its : Array Value) (n : Nat), K.lookup a = some o ∧ o.cls = .type "list" ∧ o.dict = none ∧ o.data = .seq its n ∧ its.size ≤ sizeLine ∧ Vals xs its.toList
noncomputable def SqT (K : PySem.W.Frag) (H : Hp) (a : Addr) (xs : List V) : Prop :=
  Rd H a (.tup xs) ∨
    ∃ (o : Obj) (its : Array Value) (n : Nat), K.lookup a = some o ∧ o.cls = .type "tuple" ∧ o.data = .seq its n ∧ its.size ≤ sizeLine ∧ Vals xs its.toList
noncomputable def absV : Value → Option V
  | .none => some .non
  | .bool b => some (.bl b)
  | .int i _ => some (.int i)
  | .str x _ => some (.str x)
  | .bytes b _ => some (.byt b)
  | .float b _ => some (.flt b)
  | .ref a => some (.ref a)
  | .type n => some (.ty n)
  | _ => none
theorem RelV.abs {x : V} {u : Value} (r : RelV x u) : absV u = some x := by
  cases x with
  | non => cases r; rfl
  | bl _ => cases r; rfl
  | int _ => obtain ⟨t, rfl⟩ := r; rfl
  | str _ => obtain ⟨t, rfl⟩ := r; rfl
  | byt _ => obtain ⟨t, rfl⟩ := r; rfl
  | flt _ => obtain ⟨t, rfl⟩ := r; rfl
  | ref _ => cases r; rfl
  | ty _ => cases r; rfl
theorem RelV.inj {x y : V} {u : Value} (r : RelV x u) (q : RelV y u) : x = y := Option.some.inj (r.abs.symm.trans q.abs)
theorem Vals.inj : ∀ {xs ys : List V} {us : List Value}, Vals xs us → Vals ys us → xs = ys
  | _, _, _, .nil, .nil => rfl
  | _, _, _, .cons r t, .cons r' t' => by rw [r.inj r', Vals.inj t t']
section
variable {X : Cx} {pins : List (Addr × Obj)} {σ : St} {H : Hp} {s : Shared} {a : Addr} {xs ys : List V}
theorem SqL.of {K : PySem.W.Frag} (h : H a = some (.lst xs)) : SqL K H a xs := .inl (.inl h)
theorem SqT.of {K : PySem.W.Frag} (h : H a = some (.tup xs)) : SqT K H a xs := .inl (.inl h)
theorem Inv.list (I : Inv X pins σ H s) (h : SqL X.K H a xs) : ∃ its : List Value, Vals xs its ∧ PlainL s.heap a its.toArray ∧ xs.length ≤ sizeLine := by
  rcases h with h | ⟨o, its, n, hk, hc, hd, hs, hz, r⟩
  · obtain ⟨z, its, n, r, e⟩ := h.ok I.hok
    exact ⟨its, r, ⟨_, n, e, rfl, rfl, rfl⟩, z⟩
  · refine ⟨its.toList, r, ⟨o, n, I.kIn a o hk, hc, hd, by simpa using hs⟩, ?_⟩
    have e := r.length
    simp only [Array.length_toList] at e
    omega
theorem Inv.tuple (I : Inv X pins σ H s) (h : SqT X.K H a xs) : ∃ its : List Value, Vals xs its ∧ IsTup s.heap a its.toArray ∧ xs.length ≤ sizeLine := by
  rcases h with h | ⟨o, its, n, hk, hc, hs, hz, r⟩
  · obtain ⟨z, its, r, p, _⟩ := h.ok I.hok
    exact ⟨its, r, p, z⟩
  · refine ⟨its.toList, r, ⟨o, I.kIn a o hk, hc, n, by simpa using hs⟩, ?_⟩
    have e := r.length
    simp only [Array.length_toList] at e
    omega
theorem Inv.list_inj (I : Inv X pins σ H s) (h : SqL X.K H a xs) (h' : SqL X.K H a ys) : xs = ys := by
  obtain ⟨its, r, ⟨o, n, e, _, _, d⟩, _⟩ := I.list h
  obtain ⟨its', r', ⟨o', n', e', _, _, d'⟩, _⟩ := I.list h'
  rw [e] at e'; cases e'
  rw [d] at d'
  injection d' with d1 _
  have : its = its' := by simpa using congrArg Array.toList d1
  subst this
  exact r.inj r'
theorem Inv.tuple_inj (I : Inv X pins σ H s) (h : SqT X.K H a xs) (h' : SqT X.K H a ys) : xs = ys := by
  obtain ⟨its, r, ⟨o, e, _, n, d⟩, _⟩ := I.tuple h
  obtain ⟨its', r', ⟨o', e', _, n', d'⟩, _⟩ := I.tuple h'
  rw [e] at e'; cases e'
  rw [d] at d'
  injection d' with d1 _
  have : its = its' := by simpa using congrArg Array.toList d1
  subst this
  exact r.inj r'
end

noncomputable abbrev Cx.wish (X : Cx) (E : Value → Shared → Prop) : Cx := { X with xe := E }
noncomputable abbrev Cx.nox (X : Cx) : Cx := X.wish fun _ _ => False
theorem Cx.Ok.wish {X : Cx} (ok : X.Ok) (E : Value → Shared → Prop) : (X.wish E).Ok :=
  ⟨ok.mod, ok.kind, ok.glob, ok.blt, ok.above, ok.inj, ok.has, ok.cab, ok.hd, ok.frames, ok.stk, ok.exf, ok.bs, ok.bsz, ok.noex, ok.exfs, ok.funs, ok.frf⟩
theorem Cx.Ok.unwish {X : Cx} {E : Value → Shared → Prop} (ok : (X.wish E).Ok) : X.Ok :=
  ⟨ok.mod, ok.kind, ok.glob, ok.blt, ok.above, ok.inj, ok.has, ok.cab, ok.hd, ok.frames, ok.stk, ok.exf, ok.bs, ok.bsz, ok.noex, ok.exfs, ok.funs, ok.frf⟩
section
variable {X : Cx} {pins : List (Addr × Obj)} {σ : St} {H : Hp} {s : Shared} {E : Value → Shared → Prop}
theorem Inv.wish (I : Inv X pins σ H s) (E : Value → Shared → Prop) : Inv (X.wish E) pins σ H s := ⟨I.ok.wish E, I.os, I.bare, I.base, I.loc, I.cell, I.free, I.freeC, I.pin, I.hok, I.len⟩
theorem Inv.unwish (I : Inv (X.wish E) pins σ H s) : Inv X pins σ H s := ⟨I.ok.unwish, I.os, I.bare, I.base, I.loc, I.cell, I.free, I.freeC, I.pin, I.hok, I.len⟩
theorem SP.unwish {D : Ends} {f : Flow} {s' : Shared} (h : SP (X.wish E) pins D f s') : SP X pins D f s' := by
  cases f with
  | next => obtain ⟨σ', H', I, q⟩ := h; exact ⟨σ', H', I.unwish, q⟩
  | brk => obtain ⟨σ', H', I, q⟩ := h; exact ⟨σ', H', I.unwish, q⟩
  | cont => obtain ⟨σ', H', I, q⟩ := h; exact ⟨σ', H', I.unwish, q⟩
  | ret u => obtain ⟨v, σ', H', I, r, q⟩ := h; exact ⟨v, σ', H', I.unwish, r, q⟩
theorem PE.nox {e : Expr} {t : TE} (h : PE X.nox e t) : PE X e t := fun pins s σ H Q I hw =>
  wpAny_mono (h pins s σ H Q (I.wish _) hw) (fun _ _ ⟨v, H', I', r, q⟩ => ⟨v, H', I'.unwish, r, q⟩) fun _ _ z => False.elim z
theorem PT.nox {e : Expr} {t : TT} (h : PT X.nox e t) : PT X e t := fun pins s σ H Q I hw =>
  wpAny_mono (h pins s σ H Q (I.wish _) hw) (fun _ _ ⟨H', I', q⟩ => ⟨H', I'.unwish, q⟩) fun _ _ z => False.elim z
theorem PSs.nox {st : List Stmt} {t : TS} (h : PSs X.nox st t) : PSs X st t := fun pins s σ H D I hw =>
  wpAny_mono (h pins s σ H D (I.wish _) hw) (fun _ _ q => q.unwish) fun _ _ z => False.elim z
end

section
variable {X : Cx} {st : Stmt} {rest : List Stmt} {t u : TS} {e : Expr} {te : TE} {pos : Pos}
noncomputable def tNext : TS := fun D σ H => D.nx σ H
noncomputable def tSeq (t u : TS) : TS := fun D σ H => t { D with nx := u D } σ H
theorem pss_nil : PSs X [] tNext := fun _ _ σ H _ I h => wpAny_execs_nil ⟨σ, H, I, h⟩
theorem pss_cons (h1 : PS X st t) (h2 : PSs X rest u) : PSs X (st :: rest) (tSeq t u) := by
  intro pins s σ H D I h
  refine wpAny_execs_cons (thn (h1 pins s σ H { D with nx := u D } I h) fun f s1 q => ?_)
  cases f with
  | next =>
    obtain ⟨σ', H', I', q⟩ := q
    exact h2 pins s1 σ' H' D I' q
  | ret v => exact q
  | brk => exact q
  | cont => exact q
theorem pss_one (h1 : PS X st t) : PSs X [st] t := by
  intro pins s σ H D I h
  refine wpAny_execs_cons (thn (h1 pins s σ H D I h) fun f s1 q => ?_)
  cases f with
  | next => exact wpAny_execs_nil q
  | ret v => exact q
  | brk => exact q
  | cont => exact q
theorem Inv.quiet {pins : List (Addr × Obj)} {σ : St} {H : Hp} {s : Shared} (I : Inv X pins σ H s) : interactive X.env = false := by simp [interactive, I.ok.kind]
noncomputable def tDrop (te : TE) : TS := fun D σ H => te σ H fun _ H1 => D.nx σ H1
theorem ps_expr (he : PE X e te) (hs : swapsWith e none pos.line X.env = pure false := by rfl) : PS X (.Expr e pos) (tDrop te) := by
  intro pins s σ H D I h
  exact wpAny_Expr_any (thn (he pins s σ H _ I h) fun v s1 ⟨x, H1, I1, r1, q1⟩ => ⟨σ, H1, I1, q1⟩) I.quiet hs
noncomputable def tRet (te : TE) : TS := fun D σ H => te σ H D.rt
theorem ps_ret (he : PE X e te) : PS X (.Return (some e) pos) (tRet te) := by
  intro pins s σ H D I h
  exact wpAny_Return_some (thn (he pins s σ H _ I h) fun v s1 ⟨x, H1, I1, r1, q1⟩ => ⟨x, σ, H1, I1, r1, q1⟩)
noncomputable def tIfS (c : TT) (t u : TS) : TS := fun D σ H => c σ H fun b H1 => if b = true then t D σ H1 else u D σ H1
theorem ps_if {c : Expr} {a b : List Stmt} {tc : TT} (hc : PT X c tc) (ha : PSs X a t) (hb : PSs X b u) : PS X (.If c a b pos) (tIfS tc t u) := by
  intro pins s σ H D I h
  refine wpAny_If (thn (hc pins s σ H _ I h) fun d s1 ⟨H1, I1, q1⟩ => ?_)
  cases d with
  | true => exact ha pins s1 σ H1 D I1 q1
  | false => exact hb pins s1 σ H1 D I1 q1
noncomputable def tNever : TS := fun _ _ _ => False
theorem pss_never {sts : List Stmt} : PSs X sts tNever := fun _ _ _ _ _ _ h => h.elim
end

noncomputable abbrev TG := V → St → Hp → (St → Hp → Prop) → Prop
noncomputable abbrev TGs := List V → St → Hp → (St → Hp → Prop) → Prop
noncomputable def PG (X : Cx) (target : Expr) (t : TG) : Prop :=
  ∀ (pins : List (Addr × Obj)) (s : Shared) (σ : St) (H : Hp) (v : V) (u : Value) (Q : St → Hp → Prop), Inv X pins σ H s → RelV v u → t v σ H Q →
    wpAny (model X.prog X.w) X.A (assign target X.env u) (fun _ s' => ∃ σ' H', Inv X pins σ' H' s' ∧ Q σ' H') X.xe s
noncomputable def PGs (X : Cx) (ts : List Expr) (t : TGs) : Prop :=
  ∀ (pins : List (Addr × Obj)) (s : Shared) (σ : St) (H : Hp) (vs : List V) (us : List Value) (Q : St → Hp → Prop), Inv X pins σ H s → Vals vs us → t vs σ H Q →
    wpAny (model X.prog X.w) X.A (assignInOrder ((assignEach ts X.env).map (·.2)) us) (fun _ s' => ∃ σ' H', Inv X pins σ' H' s' ∧ Q σ' H') X.xe s
noncomputable abbrev TSet := V → V → V → Hp → (Hp → Prop) → Prop
noncomputable def PSet (X : Cx) (t : TSet) : Prop :=
  ∀ (pins : List (Addr × Obj)) (s : Shared) (σ : St) (H : Hp) (o i v : V) (ov iv u : Value) (Q : Hp → Prop), Inv X pins σ H s → RelV o ov → RelV i iv → RelV v u → t o i v H Q →
    wpAny (model X.prog X.w) X.A (setItem ov iv u) (fun _ s' => ∃ H', Inv X pins σ H' s' ∧ Q H') X.xe s
section
variable {X : Cx} {pos : Pos}
noncomputable def gName (i : Nat) : TG := fun v σ H Q => Q (σ.set i (some v)) H
theorem pg_name {i : Nat} {x : Str} (hN : X.N.Nodup) (hi : X.N[i]? = some x) (hx : Loc X.env.scope x) (hf : X.fn x = true ∨ X.env.scope.names.lookup x = some .local := by first | exact .inl rfl | exact .inr rfl | assumption) : PG X (.Name x pos) (gName i) := by
  intro pins s σ H v u Q I r h
  exact wpAny_assign_Name (store_ok I hN hi hx r (fun s' I' => ⟨_, H, I', h⟩) hf)
inductive GNilR (vs : List V) (σ : St) (H : Hp) (Q : St → Hp → Prop) : Prop
  | mk (e : vs = []) (q : Q σ H) : GNilR vs σ H Q
noncomputable def gNil : TGs := fun vs σ H Q => GNilR vs σ H Q
inductive GConsR (t : TG) (u : TGs) (vs : List V) (σ : St) (H : Hp) (Q : St → Hp → Prop) : Prop
  | mk (v : V) (r : List V) (e : vs = v :: r) (q : t v σ H fun σ' H' => u r σ' H' Q) : GConsR t u vs σ H Q
noncomputable def gCons (t : TG) (u : TGs) : TGs := fun vs σ H Q => GConsR t u vs σ H Q
theorem pgs_nil : PGs X [] gNil := by
  intro pins s σ H vs us Q I r h
  obtain ⟨e, h⟩ := h
  subst e
  cases r
  exact assignInOrder_nil ⟨σ, H, I, h⟩
theorem pgs_cons {e : Expr} {es : List Expr} {t : TG} {u : TGs} (h1 : PG X e t) (h2 : PGs X es u)
    (hs : (assignEach (e :: es) X.env).map (·.2) = assign e X.env :: (assignEach es X.env).map (·.2) := by rfl) : PGs X (e :: es) (gCons t u) := by
  intro pins s σ H vs us Q I r h
  obtain ⟨v, vr, e1, h⟩ := h
  subst e1
  cases r with
  | cons r rr =>
    rw [hs]
    refine assignInOrder_cons (thn (h1 pins s σ H _ _ _ I r h) fun _ s1 ⟨σ1, H1, I1, q1⟩ => ?_)
    exact h2 pins s1 σ1 H1 _ _ Q I1 rr q1
inductive GTupR (K : PySem.W.Frag) (n : Nat) (t : TGs) (v : V) (σ : St) (H : Hp) (Q : St → Hp → Prop) : Prop
  | mk (a : Addr) (xs : List V) (e : v = .ref a) (s : SqT K H a xs) (l : xs.length = n) (q : t xs σ H Q) : GTupR K n t v σ H Q
noncomputable def gTup (K : PySem.W.Frag) (n : Nat) (t : TGs) : TG := fun v σ H Q => GTupR K n t v σ H Q
theorem pg_tup {es : List Expr} {k : Nat} {t : TGs} {n : Nat} (hc : X.calm = true) (h : PGs X es t)
    (hn : (assignEach es X.env).length = n := by rfl) (hst : (assignEach es X.env).findIdx? (·.1) = none := by rfl) : PG X (.Tuple es k pos) (gTup X.K n t) := by
  intro pins s σ H v u Q I r hw
  obtain ⟨a, xs, e1, hq, hl, hw⟩ := hw
  subst e1
  cases r
  obtain ⟨its, rv, ht, hz⟩ := I.tuple hq
  refine assign_Tuple_tuple (I.ok.hd hc) ht (by simp [hn, ← hl, rv.length]) hst fun h' hx => ?_
  have I1 : Inv X pins σ H { s with heap := h' } := I.kept (t' := s.toks) fun b o e => hx b o (Nat.ne_of_lt (Heap.lt_size e)) e
  exact h pins _ σ H xs _ Q I1 (by simpa using rv) hw
noncomputable def gSub (to ti : TE) (t : TSet) : TG := fun v σ H Q => to σ H fun o H1 => ti σ H1 fun i H2 => t o i v H2 fun H3 => Q σ H3
theorem pg_sub {o i : Expr} {to ti : TE} {t : TSet} (ho : PE X o to) (hi : PE X i ti) (hs : PSet X t)
    (ha : ∀ v, assign (.Subscript o i pos) X.env v = (do
      let ov ← holding [v] (eval o X.env)
      let iv ← holding [v, ov] (eval i X.env)
      standAt pos
      holding [v, ov, iv] (setItem ov iv v)
      release [v, ov, iv] []) := by intro _; rfl) : PG X (.Subscript o i pos) (gSub to ti t) := by
  intro pins s σ H v u Q I r h
  rw [ha]
  refine wpAny_bind (wpAny_holding (thn (ho pins s σ H _ I h) fun ov s1 ⟨x, H1, I1, r1, q1⟩ => ?_))
  refine wpAny_bind (wpAny_holding (thn (hi pins s1 σ H1 _ I1 q1) fun iv s2 ⟨y, H2, I2, r2, q2⟩ => ?_))
  refine wpAny_bind (wpAny_standAt (wpAny_bind (wpAny_holding (thn (hs pins s2 σ H2 x y v ov iv u _ I2 r1 r2 r q2) fun _ s3 ⟨H3, I3, q3⟩ => ?_))))
  exact wpAny_release ⟨σ, H3, I3, q3⟩
noncomputable def tAsg (te : TE) (g : TG) : TS := fun D σ H => te σ H fun x H1 => g x σ H1 D.nx
theorem ps_asg {tg e : Expr} {te : TE} {g : TG} (he : PE X e te) (hg : PG X tg g) (hs : swapsWithSole [tg] e pos.line X.env = pure false := by rfl) (hw : swappedStores [tg] e X.env = pure none := by rfl)
    (h1 : (assignEach [tg] X.env).map (·.2) = [assign tg X.env] := by rfl) : PS X (.Assign [tg] e pos) (tAsg te g) := by
  intro pins s σ H D I h
  refine wpAny_Assign_stores (thn (he pins s σ H _ I h) fun v s1 ⟨x, H1, I1, r1, q1⟩ => ?_) hs hw
  rw [h1]
  exact thn (hg pins s1 σ H1 x v _ I1 r1 q1) fun _ s2 q => q
theorem ps_set {i : Nat} {x : Str} {e : Expr} {te : TE} {pos' : Pos} (hN : X.N.Nodup) (hi : X.N[i]? = some x) (hx : Loc X.env.scope x) (he : PE X e te) (hs : swapsWith e (some (.Name x pos')) pos.line X.env = pure false := by rfl) (hf : X.fn x = true ∨ X.env.scope.names.lookup x = some .local := by first | exact .inl rfl | exact .inr rfl | assumption) :
    PS X (.Assign [.Name x pos'] e pos) (tAsg te (gName i)) := by
  intro pins s σ H D I h
  refine wpAny_Assign_Name (thn (he pins s σ H _ I h) fun v s1 ⟨y, H1, I1, r1, q1⟩ => ?_) hs
  exact store_ok I1 hN hi hx r1 (fun s2 I2 => ⟨_, H1, I2, q1⟩) hf
end

section
variable {X : Cx} {pos : Pos}
noncomputable def tWhile (c : TT) (tb : TS) : TS := fun D σ H => ∃ W : Nat → St → Hp → Prop, (∃ m, W m σ H) ∧ ∀ m σ H, W m σ H →
  c σ H fun b H1 => if b = true then ∃ N : St → Hp → Prop, (∀ σ' H', N σ' H' → ∃ m', m' < m ∧ W m' σ' H') ∧ tb { D with nx := N, ct := N, bk := D.nx } σ H1 else D.nx σ H1
theorem ps_while {c : Expr} {body : List Stmt} {tc : TT} {tb : TS} (hp : PassesOwn (model X.prog X.w) X.A X.env X.xe) (hc : PT X c tc) (hb : PSs X body tb) : PS X (.While c body [] pos) (tWhile tc tb) := by
  intro pins s σ H D I h
  obtain ⟨W, ⟨m0, w0⟩, turn⟩ := h
  refine wpAny_While (codeAny_whileLoop (fun n s' => ∃ σ' H', Inv X pins σ' H' s' ∧ W n σ' H') ?_ m0 ⟨σ, H, I, w0⟩)
  rintro n s1 ⟨σ1, H1, I1, w1⟩
  refine wpAny_passesOwn hp (thn (hc pins s1 σ1 H1 _ I1 (turn n σ1 H1 w1)) fun b s2 ⟨H2, I2, q2⟩ => ?_)
  cases b with
  | true =>
    obtain ⟨N, hN, q2⟩ := q2
    rw [if_pos rfl]
    refine wpAny_passesOwn hp (thn (hb pins s2 σ1 H2 _ I2 q2) fun f s3 q3 => ?_)
    cases f with
    | next =>
      obtain ⟨σ3, H3, I3, n3⟩ := q3
      obtain ⟨m', hm, w3⟩ := hN σ3 H3 n3
      exact ⟨m', hm, σ3, H3, I3, w3⟩
    | cont =>
      obtain ⟨σ3, H3, I3, n3⟩ := q3
      obtain ⟨m', hm, w3⟩ := hN σ3 H3 n3
      exact ⟨m', hm, σ3, H3, I3, w3⟩
    | brk => exact q3
    | ret v => exact q3
  | false =>
    rw [if_neg Bool.false_ne_true]
    exact wpAny_execs_nil ⟨σ1, H2, I2, q2⟩
end

structure It where
  go : Nat → Hp → Prop
  yld : Nat → Hp → V → Hp → Prop
  stop : Nat → Hp → Prop
noncomputable def FpOk (X : Cx) (pins : List (Addr × Obj)) (H : Hp) (b : Addr) : Prop :=
  H b = none ∧ b ≠ X.env.locals ∧ b ∉ X.fs ∧ (b ∈ X.ex ∨ X.s₀.heap.objs.size ≤ b) ∧ (∀ x c, X.env.cells.lookup x = some c → c ≠ b) ∧ ∀ p ∈ X.pn ++ pins, p.1 ≠ b
theorem Inv.fpOk {X : Cx} {pins : List (Addr × Obj)} {σ : St} {H H' : Hp} {s : Shared} {b : Addr} (I : Inv X pins σ H s) (hb : s.heap.objs.size ≤ b) (hn : H' b = none) : FpOk X pins H' b := by
  refine ⟨hn, Nat.ne_of_gt (Nat.lt_of_lt_of_le I.lt hb), I.nofs hb, .inr (Nat.le_trans I.sz hb), fun x c e z => ?_, fun p hp z => ?_⟩
  · obtain ⟨v, q⟩ := I.cell x c e
    exact absurd (Nat.lt_of_lt_of_le q.lt (by rw [z]; exact hb)) (Nat.lt_irrefl _)
  · exact absurd (Nat.lt_of_lt_of_le (Heap.lt_size (I.pin p hp).1) (by rw [z]; exact hb)) (Nat.lt_irrefl _)
structure Turn (P : Program) (w : World) (K : PySem.W.Frag) (tg : Expr) (J : It) (fp : List Addr) (it : Addr) (tn : Nat → Heap → Prop) : Prop where
  mem : it ∈ fp
  obj : ∀ i h, tn i h → ∀ b ∈ fp, ∃ o, h.get? b = some o ∧ ∀ v, o.data ≠ .cell v
  keep : ∀ i h h', tn i h → (∀ b ∈ fp, ∀ o, h.get? b = some o → h'.get? b = some o) → tn i h'
  item : ∀ (X : Cx), X.prog = P → X.w = w → X.K = K → X.calm = true → ∀ (i : Nat) (pins : List (Addr × Obj)) (s : Shared) (σ : St) (H : Hp) (E : Value → Shared → Prop), Inv X pins σ H s → (∀ b ∈ fp, FpOk X pins H b) → tn i s.heap → J.go i H →
    wpAny (model P w) X.A (pyNext (.ref it)) (fun r s1 => ∃ u, r = some u ∧
      wpAny (model P w) X.A (letOwnedTupleGo tg (.ref it) u) (fun _ s2 => ∃ x H', Inv X pins σ H' s2 ∧ RelV x u ∧ J.yld i H x H' ∧ tn (i + 1) s2.heap ∧ ∀ b ∈ fp, H' b = none) E s1) E s
  done : ∀ (X : Cx), X.prog = P → X.w = w → X.K = K → X.calm = true → ∀ (i : Nat) (pins : List (Addr × Obj)) (s : Shared) (σ : St) (H : Hp) (E : Value → Shared → Prop), Inv X pins σ H s → (∀ b ∈ fp, FpOk X pins H b) → tn i s.heap → J.stop i H →
    wpAny (model P w) X.A (pyNext (.ref it)) (fun r s1 => r = none ∧ Inv X pins σ H s1) E s
  self : ∀ (A : Around) (i : Nat) (s : Shared) (Q : Value → Shared → Prop) (E : Value → Shared → Prop), tn i s.heap → Q (.ref it) s → wpAny (model P w) A (pyIter (.ref it)) Q E s
noncomputable abbrev TI := St → Hp → (It → Hp → Prop) → Prop
noncomputable def PIE (X : Cx) (pins : List (Addr × Obj)) (σ : St) (tg : Expr) (R : It → Hp → Prop) (itv : Value) (s2 : Shared) : Prop :=
  ∃ (it : Addr) (fp : List Addr) (tn : Nat → Heap → Prop) (J : It) (H' : Hp), itv = .ref it ∧ Inv X pins σ H' s2 ∧ Turn X.prog X.w X.K tg J fp it tn ∧ tn 0 s2.heap ∧ (∀ b ∈ fp, FpOk X pins H' b) ∧ R J H'
noncomputable def PI (X : Cx) (tg iter : Expr) (wi : TI) : Prop :=
  ∀ (pins : List (Addr × Obj)) (s : Shared) (σ : St) (H : Hp) (R : It → Hp → Prop), Inv X pins σ H s → wi σ H R →
    wpAny (model X.prog X.w) X.A (eval iter X.env) (fun v s1 => wpAny (model X.prog X.w) X.A (pyIter v) (PIE X pins σ tg R) X.xe s1) X.xe s

theorem go_of {M : Model} {A : Around} {E : Value → Shared → Prop} {s : Shared} {tg : Expr} {it : Addr} {u : Value} {o : Obj} {n : String} {vs : Array Value} {Q : Unit → Shared → Prop} (ho : s.heap.get? it = some o) (hc : o.cls = .type n) (hd : o.data = .fields vs)
    (hn : ["enumerate", "zip", "dict_itemiterator", "dict_reverseitemiterator", "odict_iterator", "itertools.zip_longest", "itertools.pairwise"].contains n = false) (hQ : Q () s) : wpAny M A (letOwnedTupleGo tg (.ref it) u) Q E s := by
  unfold letOwnedTupleGo
  cases tg <;> first
    | exact wpAny_pure hQ
    | (cases u <;> first
        | exact wpAny_pure hQ
        | (refine wpAny_bind (wpAny_load ho ?_)
           rw [hc, hd]
           show wpAny M A (if (["enumerate", "zip", "dict_itemiterator", "dict_reverseitemiterator", "odict_iterator", "itertools.zip_longest", "itertools.pairwise"].contains n && vs[0]? == some (rawInt _)) = true then _ else _) Q E s
           rw [if_neg (by intro h; rw [hn, Bool.false_and] at h; cases h)]
           exact wpAny_pure hQ))

noncomputable def Itl (K : PySem.W.Frag) (a : Addr) : It :=
  ⟨fun i H => ∃ xs x, SqL K H a xs ∧ xs[i]? = some x, fun i H x H' => H' = H ∧ ∀ xs, SqL K H a xs → xs[i]? = some x, fun i H => ∃ xs, SqL K H a xs ∧ xs.length ≤ i⟩
noncomputable def Itt (K : PySem.W.Frag) (a : Addr) : It :=
  ⟨fun i H => ∃ xs x, SqT K H a xs ∧ xs[i]? = some x, fun i H x H' => H' = H ∧ ∀ xs, SqT K H a xs → xs[i]? = some x, fun i H => ∃ xs, SqT K H a xs ∧ xs.length ≤ i⟩
noncomputable def Itr (lo : Int) (n : Nat) : It := ⟨fun i _ => i < n, fun i H x H' => H' = H ∧ x = .int (lo + i), fun i _ => n ≤ i⟩
theorem turn_list {P : Program} {w : World} {K : PySem.W.Frag} {tg : Expr} (a it : Addr) : Turn P w K tg (Itl K a) [it] it (fun i h => h.IsListIter it a i) where
  mem := by simp
  obj := fun i h st b hb => by
    have e : b = it := by simpa using hb
    subst e
    obtain ⟨o, e, c, d⟩ := st
    exact ⟨o, e, fun v z => by rw [d] at z; cases z⟩
  keep := fun i h h' st k => st.at fun o e => k it (by simp) o e
  item := by
    intro X hP hw hK hc i pins s σ H E I hf st hg
    subst hP hw hK
    obtain ⟨xs, x, hq, hx⟩ := hg
    obtain ⟨its, rv, p, hz⟩ := I.list hq
    obtain ⟨u, hu, ru⟩ := rv.get hx
    obtain ⟨f0, f1, f2, f3, f4, f5⟩ := hf it (by simp)
    refine wpAny_pyNext_list_item st p.isList (x := u) (by simpa using hu) fun h' st' sb => ?_
    have I1 : Inv X pins σ H { s with heap := h' } := I.turned (t' := s.toks) (fun b o hb e => (sb.2 b hb).trans e) f0 f1 f3 f4 f5
    obtain ⟨o, e, c, d⟩ := id st'
    exact ⟨u, rfl, go_of (s := { s with heap := h' }) e c d (by decide) ⟨x, H, I1, ru, ⟨rfl, fun ys hy => by rw [I.list_inj hy hq]; exact hx⟩, st', fun b hb => (hf b hb).1⟩⟩
  done := by
    intro X hP hw hK hc i pins s σ H E I hf st hg
    subst hP hw hK
    obtain ⟨xs, hq, hx⟩ := hg
    obtain ⟨its, rv, p, hz⟩ := I.list hq
    obtain ⟨f0, f1, f2, f3, f4, f5⟩ := hf it (by simp)
    have hl := rv.length
    exact wpAny_pyNext_list_end (I.ok.hd hc) st p.isList (by simp; omega) fun h' eb => ⟨rfl, I.turned (t' := s.toks) (fun b o hb e => eb b o hb e) f0 f1 f3 f4 f5⟩
  self := fun _ _ _ _ _ st h => wpAny_pyIter_listiter st h
theorem turn_tuple {P : Program} {w : World} {K : PySem.W.Frag} {tg : Expr} (a it : Addr) : Turn P w K tg (Itt K a) [it] it (fun i h => h.IsTupleIter it a i) where
  mem := by simp
  obj := fun i h st b hb => by
    have e : b = it := by simpa using hb
    subst e
    obtain ⟨o, e, c, d⟩ := st
    exact ⟨o, e, fun v z => by rw [d] at z; cases z⟩
  keep := fun i h h' st k => st.at fun o e => k it (by simp) o e
  item := by
    intro X hP hw hK hc i pins s σ H E I hf st hg
    subst hP hw hK
    obtain ⟨xs, x, hq, hx⟩ := hg
    obtain ⟨its, rv, p, hz⟩ := I.tuple hq
    obtain ⟨u, hu, ru⟩ := rv.get hx
    obtain ⟨f0, f1, f2, f3, f4, f5⟩ := hf it (by simp)
    refine wpAny_pyNext_tuple_item st (show s.heap.IsTuple a its.toArray from p) (x := u) (by simpa using hu) fun h' st' sb => ?_
    have I1 : Inv X pins σ H { s with heap := h' } := I.turned (t' := s.toks) (fun b o hb e => (sb.2 b hb).trans e) f0 f1 f3 f4 f5
    obtain ⟨o, e, c, d⟩ := id st'
    exact ⟨u, rfl, go_of (s := { s with heap := h' }) e c d (by decide) ⟨x, H, I1, ru, ⟨rfl, fun ys hy => by rw [I.tuple_inj hy hq]; exact hx⟩, st', fun b hb => (hf b hb).1⟩⟩
  done := by
    intro X hP hw hK hc i pins s σ H E I hf st hg
    subst hP hw hK
    obtain ⟨xs, hq, hx⟩ := hg
    obtain ⟨its, rv, p, hz⟩ := I.tuple hq
    obtain ⟨f0, f1, f2, f3, f4, f5⟩ := hf it (by simp)
    have hl := rv.length
    exact wpAny_pyNext_tuple_end (I.ok.hd hc) st (show s.heap.IsTuple a its.toArray from p) (by simp; omega) fun h' eb => ⟨rfl, I.turned (t' := s.toks) (fun b o hb e => eb b o hb e) f0 f1 f3 f4 f5⟩
  self := fun _ _ _ _ _ st h => wpAny_pyIter_tupleiter st h
theorem turn_range {P : Program} {w : World} {K : PySem.W.Frag} {tg : Expr} (it : Addr) (lo : Int) (n : Nat) : Turn P w K tg (Itr lo n) [it] it (fun i h => IsRangeIter h it (lo + (i : Nat) * 1) ((n : Int) - (i : Nat)) 1) where
  mem := by simp
  obj := fun i h st b hb => by
    have e : b = it := by simpa using hb
    subst e
    exact ⟨_, st, fun v z => by
      have z' : Data.fields _ = Data.cell v := z
      cases z'⟩
  keep := fun i h h' st k => k it (by simp) _ st
  item := by
    intro X hP hw hK hc i pins s σ H E I hf st hg
    subst hP hw hK
    obtain ⟨f0, f1, f2, f3, f4, f5⟩ := hf it (by simp)
    have W := Walks.range (prog := X.prog) (w := X.w) (I.ok.hd hc) it lo 1 n
    refine W.item i s _ _ hg st fun v h' tk hv st' kk => ?_
    obtain ⟨t, rfl⟩ := hv
    have I1 : Inv X pins σ H { s with heap := h', toks := tk } := I.turned (fun b o hb e => kk b o (by simpa using hb) e) f0 f1 f3 f4 f5
    refine ⟨_, rfl, go_of (s := { s with heap := h', toks := tk }) (n := "range_iterator") st' rfl rfl (by decide) ⟨.int (lo + i), H, I1, ⟨t, ?_⟩, ⟨rfl, rfl⟩, st', fun b hb => (hf b hb).1⟩⟩
    rw [Int.mul_one]
  done := by
    intro X hP hw hK hc i pins s σ H E I hf st hg
    subst hP hw hK
    obtain ⟨f0, f1, f2, f3, f4, f5⟩ := hf it (by simp)
    exact wpAny_pyNext_range_end (I.ok.hd hc) st (by have : n ≤ i := hg; omega) fun h' eb => ⟨rfl, I.turned (t' := s.toks) (fun b o hb e => eb b o hb e) f0 f1 f3 f4 f5⟩
  self := fun _ _ _ _ _ st h => wpAny_pyIter_rangeiter st h
end L2

namespace L2
open PySem PySem.Spec PyProof.Rows
section
variable {X : Cx} {tg : Expr}
inductive IListR (K : PySem.W.Frag) (x : V) (H : Hp) (R : It → Hp → Prop) : Prop
  | mk (a : Addr) (e : x = .ref a) (s : ∃ xs, SqL K H a xs) (q : R (Itl K a) H) : IListR K x H R
inductive ITupR (K : PySem.W.Frag) (x : V) (H : Hp) (R : It → Hp → Prop) : Prop
  | mk (a : Addr) (e : x = .ref a) (s : ∃ xs, SqT K H a xs) (q : R (Itt K a) H) : ITupR K x H R
noncomputable def iList (K : PySem.W.Frag) (tl : TE) : TI := fun σ H R => tl σ H fun x H1 => IListR K x H1 R
noncomputable def iTup (K : PySem.W.Frag) (tl : TE) : TI := fun σ H R => tl σ H fun x H1 => ITupR K x H1 R
theorem pi_list {l : Expr} {tl : TE} (hl : PE X l tl) : PI X tg l (iList X.K tl) := by
  intro pins s σ H R I h
  refine thn (hl pins s σ H _ I h) fun v s1 ⟨x, H1, I1, r1, q1⟩ => ?_
  obtain ⟨a, e, ⟨xs, hq⟩, q⟩ := q1
  subst e
  cases r1
  obtain ⟨its, rv, p, hz⟩ := I1.list hq
  refine wpAny_pyIter_list p.isList ?_
  refine ⟨s1.heap.objs.size, [s1.heap.objs.size], _, _, H1, rfl, I1.kept (t' := s1.toks) fun b o e => Heap.get?_push_of_some _ e, turn_list a _, ⟨_, Heap.get?_push_size _ rfl, rfl, rfl⟩, fun b hb => ?_, q⟩
  have e : b = s1.heap.objs.size := by simpa using hb
  subst e
  exact I1.fpOk (Nat.le_refl _) (I1.hok.fresh (Nat.le_refl _))
theorem pi_tup {l : Expr} {tl : TE} (hl : PE X l tl) : PI X tg l (iTup X.K tl) := by
  intro pins s σ H R I h
  refine thn (hl pins s σ H _ I h) fun v s1 ⟨x, H1, I1, r1, q1⟩ => ?_
  obtain ⟨a, e, ⟨xs, hq⟩, q⟩ := q1
  subst e
  cases r1
  obtain ⟨its, rv, p, hz⟩ := I1.tuple hq
  refine wpAny_pyIter_tuple (show s1.heap.IsTuple a its.toArray from p) ?_
  refine ⟨s1.heap.objs.size, [s1.heap.objs.size], _, _, H1, rfl, I1.kept (t' := s1.toks) fun b o e => Heap.get?_push_of_some _ e, turn_tuple a _, ⟨_, Heap.get?_push_size _ rfl, rfl, rfl⟩, fun b hb => ?_, q⟩
  have e : b = s1.heap.objs.size := by simpa using hb
  subst e
  exact I1.fpOk (Nat.le_refl _) (I1.hok.fresh (Nat.le_refl _))
theorem range_it {pins : List (Addr × Obj)} {σ : St} {H : Hp} {s : Shared} {R : It → Hp → Prop} {E : Value → Shared → Prop} {lo hi : Int} {t u v : Tok} {tk : Nat} (I : Inv X pins σ H s) (h1 : -(2 ^ 62) ≤ lo) (h2 : lo < 2 ^ 62) (h3 : -(2 ^ 62) ≤ hi) (h4 : hi < 2 ^ 62)
    (q : R (Itr lo (hi - lo).toNat) H) : wpAny (model X.prog X.w) X.A (pyIter (.ref s.heap.objs.size)) (PIE X pins σ tg R) E { s with heap := s.heap.push { cls := .type "range", data := .fields #[.int lo t, .int hi u, .int 1 v] }, toks := tk } := by
  refine wpAny_pyIter_range (IsRange.new ..) (small_one h1 h2 h3 h4) ?_
  have I1 : Inv X pins σ H { s with heap := s.heap.push { cls := .type "range", data := .fields #[.int lo t, .int hi u, .int 1 v] }, toks := tk } := I.kept fun b o e => Heap.get?_push_of_some _ e
  refine ⟨(s.heap.push { cls := .type "range", data := .fields #[.int lo t, .int hi u, .int 1 v] }).objs.size, [(s.heap.push { cls := .type "range", data := .fields #[.int lo t, .int hi u, .int 1 v] }).objs.size], _, _, H, rfl,
    I1.kept (t' := tk) fun b o e => Heap.get?_push_of_some _ e, turn_range _ lo (hi - lo).toNat, ?_, fun b hb => ?_, q⟩
  · have e1 : lo + ((0 : Nat) : Int) * 1 = lo := by simp
    have e2 : (((hi - lo).toNat : Nat) : Int) - ((0 : Nat) : Int) = Builtin.Range.rangeSize lo hi 1 := by rw [rangeSize_one]; split <;> omega
    show IsRangeIter _ _ (lo + ((0 : Nat) : Int) * 1) ((((hi - lo).toNat : Nat) : Int) - ((0 : Nat) : Int)) 1
    rw [e1, e2]
    exact Heap.get?_push_size _ rfl
  · have e : b = (s.heap.push { cls := .type "range", data := .fields #[.int lo t, .int hi u, .int 1 v] }).objs.size := by simpa using hb
    subst e
    exact I1.fpOk (Nat.le_refl _) (I1.hok.fresh (Nat.le_refl _))
noncomputable def iRng1 (ta : TA) : TI := fun σ H R => ta σ H fun vs H1 => ∃ j : Int, vs = [.int j] ∧ -(2 ^ 62) ≤ j ∧ j < 2 ^ 62 ∧ R (Itr 0 j.toNat) H1
theorem pi_range1 {a : Expr} {ta : TA} {p pos : Pos} (hg : Gl X "range") (hm : X.mg "range" = none) (ha : PA X [a] ta) (hs : starEach [a] X.env = [(false, eval a X.env)] := by rfl) : PI X tg (.Call (.Name "range" p) [a] [] pos) (iRng1 ta) := by
  intro pins s σ H R I h
  refine Call_ (ld_blt I hg hm boot_range (PyProof.Rows.callWith_type1 (thn (ha pos pins s σ H _ I h) fun us s1 ⟨vs, H1, I1, r1, q1⟩ => ?_) hs rfl))
  obtain ⟨j, e, q1, q2, q⟩ := q1
  subst e
  cases r1 with
  | cons r rr =>
    cases rr
    obtain ⟨t, rfl⟩ := r
    exact call_range_1 (range_it I1 (by omega) (by omega) q1 q2 (by simpa using q))
noncomputable def tFor (wi : TI) (g : TG) (tb : TS) : TS := fun D σ H => wi σ H fun J H1 => ∃ W : Nat → Nat → St → Hp → Prop, (∃ m, W 0 m σ H1) ∧ ∀ i m σ H, W i m σ H →
  (J.stop i H ∧ D.nx σ H) ∨ (J.go i H ∧ ∃ N : St → Hp → Prop, (∀ σ' H', N σ' H' → ∃ m', m' < m ∧ W (i + 1) m' σ' H') ∧ ∀ x H', J.yld i H x H' → g x σ H' fun σ2 H2 => tb { D with nx := N, ct := N, bk := D.nx } σ2 H2)
noncomputable def pinsAt (fp : List Addr) (h : Heap) : List (Addr × Obj) := fp.filterMap fun b => (h.get? b).map fun o => (b, o)
theorem mem_pinsAt {fp : List Addr} {h : Heap} {b : Addr} {o : Obj} (hb : b ∈ fp) (e : h.get? b = some o) : (b, o) ∈ pinsAt fp h := List.mem_filterMap.mpr ⟨b, hb, by rw [e]; rfl⟩
theorem of_pinsAt {fp : List Addr} {h : Heap} {p : Addr × Obj} (hp : p ∈ pinsAt fp h) : p.1 ∈ fp ∧ h.get? p.1 = some p.2 := by
  obtain ⟨b, hb, e⟩ := List.mem_filterMap.mp hp
  cases q : h.get? b with
  | none => rw [q] at e; cases e
  | some o =>
    rw [q] at e
    have e' : (b, o) = p := Option.some.inj e
    subst e'
    exact ⟨hb, q⟩
theorem Inv.pinned {pins : List (Addr × Obj)} {σ : St} {H : Hp} {s : Shared} {fp : List Addr} (I : Inv X pins σ H s) (hf : ∀ b ∈ fp, FpOk X pins H b) (ho : ∀ b ∈ fp, ∃ o, s.heap.get? b = some o ∧ ∀ v, o.data ≠ .cell v) : Inv X (pins ++ pinsAt fp s.heap) σ H s :=
  I.pins_of fun p hp => (List.mem_append.mp hp).elim (fun z => I.pin p (List.mem_append_right _ z)) fun z => by
    obtain ⟨hb, e⟩ := of_pinsAt z
    obtain ⟨f0, f1, f2, _⟩ := hf p.1 hb
    obtain ⟨o, e', d⟩ := ho p.1 hb
    rw [e] at e'; cases e'
    exact ⟨e, f0, f1, f2, d⟩
theorem Inv.unpinned {pins pl : List (Addr × Obj)} {σ : St} {H : Hp} {s : Shared} (I : Inv X (pins ++ pl) σ H s) : Inv X pins σ H s := I.pins_of fun p hp => I.pin p (List.mem_append_right _ (List.mem_append_left _ hp))
theorem ps_for {iter : Expr} {body : List Stmt} {wi : TI} {g : TG} {tb : TS} {pos : Pos} (hp : PassesOwn (model X.prog X.w) X.A X.env X.xe) (hc : X.calm = true) (hi : PI X tg iter wi) (hg : PG X tg g) (hb : PSs X body tb)
    (hs : ∀ x, foldedSetIterable iter X.env x = pure x := by intro _; rfl) : PS X (.For tg iter body [] pos) (tFor wi g tb) := by
  intro pins s σ H D I h
  refine wpAny_For (thn (hi pins s σ H _ I h) fun v s1 h1 => thn h1 fun itv s2 h2 => ?_) hs
  obtain ⟨it, fp, tn, J, H2, e, I2, T, st2, f2, W, ⟨m0, w0⟩, turn⟩ := h2
  subst e
  -- what stays true of the iterator's objects through the loop
  have stat : ∀ {H' : Hp}, (∀ b ∈ fp, H' b = none) → ∀ b ∈ fp, FpOk X pins H' b := fun hn b hb => ⟨hn b hb, (f2 b hb).2⟩
  refine codeAny_forLoop_any (fun n s' => ∃ i σ' H', Inv X pins σ' H' s' ∧ tn i s'.heap ∧ (∀ b ∈ fp, H' b = none) ∧ W i n σ' H') ?_ m0 ⟨0, σ, H2, I2, st2, fun b hb => (f2 b hb).1, w0⟩
  rintro n s3 ⟨i, σ3, H3, I3, st3, fr3, w3⟩
  rcases turn i n σ3 H3 w3 with ⟨stop, qn⟩ | ⟨go, N, hN, step⟩
  · refine wpAny_passesOwn hp (thn (T.done X rfl rfl rfl hc i pins s3 σ3 H3 X.xe I3 (stat fr3) st3 stop) fun r s4 ⟨hr, I4⟩ => ?_)
    subst hr
    exact wpAny_execs_nil ⟨σ3, H3, I4, qn⟩
  · refine wpAny_passesOwn hp (thn (T.item X rfl rfl rfl hc i pins s3 σ3 H3 X.xe I3 (stat fr3) st3 go) fun r s4 ⟨u, hr, h4⟩ => ?_)
    subst hr
    refine wpAny_passesOwn hp (thn h4 fun _ s5 ⟨x, H5, I5, r5, y5, st5, fr5⟩ => ?_)
    have I5' := I5.pinned (stat fr5) (T.obj _ _ st5)
    refine wpAny_passesOwn hp (thn (hg _ s5 σ3 H5 x u _ I5' r5 (step x H5 y5)) fun _ s6 ⟨σ6, H6, I6, q6⟩ => ?_)
    refine wpAny_passesOwn hp (thn (hb _ s6 σ6 H6 _ I6 q6) fun f s7 q7 => ?_)
    have again : ∀ {σ7 : St} {H7 : Hp}, Inv X (pins ++ pinsAt fp s5.heap) σ7 H7 s7 → N σ7 H7 → ∃ m, m < n ∧ ∃ i σ' H', Inv X pins σ' H' s7 ∧ tn i s7.heap ∧ (∀ b ∈ fp, H' b = none) ∧ W i m σ' H' := fun {σ7 H7} I7 n7 => by
      obtain ⟨m', hm, w7⟩ := hN σ7 H7 n7
      refine ⟨m', hm, i + 1, σ7, H7, I7.unpinned, T.keep _ _ _ st5 fun b hb o e => (I7.pin (b, o) (List.mem_append_right _ (List.mem_append_right _ (mem_pinsAt hb e)))).1, fun b hb => ?_, w7⟩
      obtain ⟨o, e, d⟩ := T.obj _ _ st5 b hb
      exact (I7.pin (b, o) (List.mem_append_right _ (List.mem_append_right _ (mem_pinsAt hb e)))).2.1
    cases f with
    | next => obtain ⟨σ7, H7, I7, n7⟩ := q7; exact again I7 n7
    | cont => obtain ⟨σ7, H7, I7, n7⟩ := q7; exact again I7 n7
    | brk => obtain ⟨σ7, H7, I7, q7⟩ := q7; exact ⟨σ7, H7, I7.unpinned, q7⟩
    | ret v => obtain ⟨x7, σ7, H7, I7, r7, q7⟩ := q7; exact ⟨x7, σ7, H7, I7.unpinned, r7, q7⟩
end

theorem for_list {K : PySem.W.Frag} {a : Addr} {xs : List V} {g : TG} {tb : TS} {D : Ends} {σ : St} {H : Hp} (Pv : Nat → St → Hp → Prop) (h0 : Pv 0 σ H) (hl : ∀ i σ H, i ≤ xs.length → Pv i σ H → SqL K H a xs)
    (hs : ∀ i x σ H, xs[i]? = some x → Pv i σ H → g x σ H fun σ2 H2 => tb { D with nx := Pv (i + 1), ct := Pv (i + 1), bk := D.nx } σ2 H2) (hd : ∀ σ H, Pv xs.length σ H → D.nx σ H) :
    ∃ W : Nat → Nat → St → Hp → Prop, (∃ m, W 0 m σ H) ∧ ∀ i m σ H, W i m σ H →
      ((Itl K a).stop i H ∧ D.nx σ H) ∨ ((Itl K a).go i H ∧ ∃ N : St → Hp → Prop, (∀ σ' H', N σ' H' → ∃ m', m' < m ∧ W (i + 1) m' σ' H') ∧ ∀ x H', (Itl K a).yld i H x H' → g x σ H' fun σ2 H2 => tb { D with nx := N, ct := N, bk := D.nx } σ2 H2) := by
  refine ⟨fun i m σ H => m = xs.length - i ∧ i ≤ xs.length ∧ Pv i σ H, ⟨xs.length, by simp, Nat.zero_le _, h0⟩, ?_⟩
  rintro i m σ H ⟨rfl, hi, p⟩
  have q := hl i σ H hi p
  by_cases hlt : i < xs.length
  · refine .inr ⟨⟨xs, xs[i], q, by simp [hlt]⟩, Pv (i + 1), fun σ' H' p' => ⟨xs.length - (i + 1), by omega, rfl, hlt, p'⟩, fun x H' y => ?_⟩
    obtain ⟨e, y⟩ := y
    subst e
    exact hs i x σ _ (y xs q) p
  · have e : i = xs.length := by omega
    subst e
    exact .inl ⟨⟨xs, q, Nat.le_refl _⟩, hd σ H p⟩
theorem for_tup {K : PySem.W.Frag} {a : Addr} {xs : List V} {g : TG} {tb : TS} {D : Ends} {σ : St} {H : Hp} (Pv : Nat → St → Hp → Prop) (h0 : Pv 0 σ H) (hl : ∀ i σ H, i ≤ xs.length → Pv i σ H → SqT K H a xs)
    (hs : ∀ i x σ H, xs[i]? = some x → Pv i σ H → g x σ H fun σ2 H2 => tb { D with nx := Pv (i + 1), ct := Pv (i + 1), bk := D.nx } σ2 H2) (hd : ∀ σ H, Pv xs.length σ H → D.nx σ H) :
    ∃ W : Nat → Nat → St → Hp → Prop, (∃ m, W 0 m σ H) ∧ ∀ i m σ H, W i m σ H →
      ((Itt K a).stop i H ∧ D.nx σ H) ∨ ((Itt K a).go i H ∧ ∃ N : St → Hp → Prop, (∀ σ' H', N σ' H' → ∃ m', m' < m ∧ W (i + 1) m' σ' H') ∧ ∀ x H', (Itt K a).yld i H x H' → g x σ H' fun σ2 H2 => tb { D with nx := N, ct := N, bk := D.nx } σ2 H2) := by
  refine ⟨fun i m σ H => m = xs.length - i ∧ i ≤ xs.length ∧ Pv i σ H, ⟨xs.length, by simp, Nat.zero_le _, h0⟩, ?_⟩
  rintro i m σ H ⟨rfl, hi, p⟩
  have q := hl i σ H hi p
  by_cases hlt : i < xs.length
  · refine .inr ⟨⟨xs, xs[i], q, by simp [hlt]⟩, Pv (i + 1), fun σ' H' p' => ⟨xs.length - (i + 1), by omega, rfl, hlt, p'⟩, fun x H' y => ?_⟩
    obtain ⟨e, y⟩ := y
    subst e
    exact hs i x σ _ (y xs q) p
  · have e : i = xs.length := by omega
    subst e
    exact .inl ⟨⟨xs, q, Nat.le_refl _⟩, hd σ H p⟩
theorem for_range {lo : Int} {n : Nat} {g : TG} {tb : TS} {D : Ends} {σ : St} {H : Hp} (Pv : Nat → St → Hp → Prop) (h0 : Pv 0 σ H)
    (hs : ∀ i σ H, i < n → Pv i σ H → g (.int (lo + i)) σ H fun σ2 H2 => tb { D with nx := Pv (i + 1), ct := Pv (i + 1), bk := D.nx } σ2 H2) (hd : ∀ σ H, Pv n σ H → D.nx σ H) :
    ∃ W : Nat → Nat → St → Hp → Prop, (∃ m, W 0 m σ H) ∧ ∀ i m σ H, W i m σ H →
      ((Itr lo n).stop i H ∧ D.nx σ H) ∨ ((Itr lo n).go i H ∧ ∃ N : St → Hp → Prop, (∀ σ' H', N σ' H' → ∃ m', m' < m ∧ W (i + 1) m' σ' H') ∧ ∀ x H', (Itr lo n).yld i H x H' → g x σ H' fun σ2 H2 => tb { D with nx := N, ct := N, bk := D.nx } σ2 H2) := by
  refine ⟨fun i m σ H => m = n - i ∧ i ≤ n ∧ Pv i σ H, ⟨n, by simp, Nat.zero_le _, h0⟩, ?_⟩
  rintro i m σ H ⟨rfl, hi, p⟩
  by_cases hlt : i < n
  · refine .inr ⟨hlt, Pv (i + 1), fun σ' H' p' => ⟨n - (i + 1), by omega, rfl, hlt, p'⟩, fun x H' y => ?_⟩
    obtain ⟨e, y⟩ := y
    subst e y
    exact hs i σ _ hlt p
  · have e : i = n := by omega
    subst e
    exact .inl ⟨Nat.le_refl _, hd σ H p⟩
theorem while_by {c : TT} {tb : TS} {D : Ends} {σ : St} {H : Hp} (Pv : St → Hp → Prop) (μ : St → Hp → Nat) (h0 : Pv σ H)
    (hs : ∀ σ H, Pv σ H → c σ H fun b H1 => if b = true then tb { D with nx := fun σ' H' => Pv σ' H' ∧ μ σ' H' < μ σ H, ct := fun σ' H' => Pv σ' H' ∧ μ σ' H' < μ σ H, bk := D.nx } σ H1 else D.nx σ H1)
    (mono : ∀ σ H Q Q', (∀ b H1, Q b H1 → Q' b H1) → c σ H Q → c σ H Q') : tWhile c tb D σ H := by
  refine ⟨fun m σ H => m = μ σ H ∧ Pv σ H, ⟨_, rfl, h0⟩, ?_⟩
  rintro m σ H ⟨rfl, p⟩
  refine mono σ H _ _ (fun b H1 q => ?_) (hs σ H p)
  cases b with
  | true => exact ⟨_, fun σ' H' ⟨p', l⟩ => ⟨_, l, rfl, p'⟩, q⟩
  | false => exact q
end L2

namespace L2
open PySem PySem.Spec PyProof.Rows

noncomputable abbrev R2 := V → V → Hp → VK → Prop
noncomputable def OpR (X : Cx) (f : Value → Value → Sem Value) (r : R2) : Prop :=
  ∀ (pins : List (Addr × Obj)) (s : Shared) (σ : St) (H : Hp) (x y : V) (v u : Value) (Q : VK), Inv X pins σ H s → RelV x v → RelV y u → r x y H Q →
    wpAny (model X.prog X.w) X.A (f v u) (EP X pins σ Q) X.xe s
noncomputable def UnR (X : Cx) (f : Value → Sem Value) (r : V → Hp → VK → Prop) : Prop :=
  ∀ (pins : List (Addr × Obj)) (s : Shared) (σ : St) (H : Hp) (x : V) (v : Value) (Q : VK), Inv X pins σ H s → RelV x v → r x H Q →
    wpAny (model X.prog X.w) X.A (f v) (EP X pins σ Q) X.xe s
noncomputable def CallR (X : Cx) (f : Value) (r : List V → Hp → VK → Prop) : Prop :=
  ∀ (pins : List (Addr × Obj)) (s : Shared) (σ : St) (H : Hp) (xs : List V) (us : List Value) (Q : VK), Inv X pins σ H s → Vals xs us → r xs H Q →
    wpAny (model X.prog X.w) X.A (call f us) (EP X pins σ Q) X.xe s
noncomputable def tOp (r : R2) (ta tb : TE) : TE := fun σ H Q => ta σ H fun x H1 => tb σ H1 fun y H2 => r x y H2 Q
noncomputable def tUn (r : V → Hp → VK → Prop) (ta : TE) : TE := fun σ H Q => ta σ H fun x H1 => r x H1 Q
inductive IR (C : Int → Int → Prop) (g : Int → Int → V) (x y : V) (H : Hp) (Q : VK) : Prop
  | mk (i j : Int) (a : x = .int i) (b : y = .int j) (c : C i j) (q : Q (g i j) H) : IR C g x y H Q
noncomputable def rI (C : Int → Int → Prop) (g : Int → Int → V) : R2 := fun x y H Q => IR C g x y H Q
inductive I0R (g : Int → Int → V) (x y : V) (H : Hp) (Q : VK) : Prop
  | mk (i j : Int) (a : x = .int i) (b : y = .int j) (q : Q (g i j) H) : I0R g x y H Q
noncomputable def rI0 (g : Int → Int → V) : R2 := fun x y H Q => I0R g x y H Q
noncomputable def rU (g : Int → V) : V → Hp → VK → Prop := fun x H Q => ∃ i, x = .int i ∧ Q (g i) H

section
variable {X : Cx} {a b c : Expr} {ta tb tc : TE} {pos : Pos}

theorem binT (ha : PE X a ta) (hb : PE X b tb) {pins : List (Addr × Obj)} {s : Shared} {σ : St} {H : Hp} {R : V → V → Hp → Prop} (I : Inv X pins σ H s)
    (h : ta σ H fun x H1 => tb σ H1 fun y H2 => R x y H2) {Q : Value → Shared → Prop} {f : Value → Value → Sem Value}
    (hf : ∀ v u s2 x y H2, Inv X pins σ H2 s2 → RelV x v → RelV y u → R x y H2 → wpAny (model X.prog X.w) X.A (f v u) Q X.xe s2) :
    wpAny (model X.prog X.w) X.A (eval a X.env) (fun v s₁ => wpAny (model X.prog X.w) X.A (eval b X.env) (fun u s₂ => wpAny (model X.prog X.w) X.A (f v u) Q X.xe s₂) X.xe s₁) X.xe s := by
  refine thn (ha pins s σ H _ I h) fun v s1 ⟨x, H1, I1, r1, q1⟩ => ?_
  refine thn (hb pins s1 σ H1 _ I1 q1) fun u s2 ⟨y, H2, I2, r2, q2⟩ => ?_
  exact hf v u s2 x y H2 I2 r1 r2 q2

theorem pe_op {op : Operator} {r : R2} (ho : OpR X (binaryOp op) r) (ha : PE X a ta) (hb : PE X b tb) : PE X (.BinOp a op b pos) (tOp r ta tb) := by
  intro pins s σ H Q I h
  exact wpAny_BinOp (binT ha hb I h fun v u s2 x y H2 I2 rx ry q => ho pins s2 σ H2 x y v u Q I2 rx ry q)
theorem pe_un {op : UnaryOp} {r : V → Hp → VK → Prop} (ho : UnR X (unaryOp op) r) (ha : PE X a ta) : PE X (.UnaryOp op a pos) (tUn r ta) := by
  intro pins s σ H Q I h
  exact UnaryOp_ (thn (ha pins s σ H _ I h) fun v s1 ⟨x, H1, I1, r1, q1⟩ => ho pins s1 σ H1 x v Q I1 r1 q1)
theorem opI {f : Value → Value → Sem Value} {C : Int → Int → Prop} {g : Int → Int → Int}
    (rule : ∀ (i j : Int) (t u : Tok) (s : Shared) (Q : Value → Shared → Prop) (E : Value → Shared → Prop), C i j → Q (.int (g i j) s.toks) { s with toks := s.toks + 1 } → wpAny (model X.prog X.w) X.A (f (.int i t) (.int j u)) Q E s) :
    OpR X f (rI C fun i j => .int (g i j)) := by
  intro pins s σ H x y v u Q I rx ry h
  obtain ⟨i, j, rfl, rfl, hc, q⟩ := h
  obtain ⟨t, rfl⟩ := rx
  obtain ⟨t', rfl⟩ := ry
  exact rule i j t t' s _ _ hc ⟨.int (g i j), H, I.tok _, ⟨_, rfl⟩, q⟩
theorem opI0 {f : Value → Value → Sem Value} {g : Int → Int → Int}
    (rule : ∀ (i j : Int) (t u : Tok) (s : Shared) (Q : Value → Shared → Prop) (E : Value → Shared → Prop), Q (.int (g i j) s.toks) { s with toks := s.toks + 1 } → wpAny (model X.prog X.w) X.A (f (.int i t) (.int j u)) Q E s) :
    OpR X f (rI0 fun i j => .int (g i j)) := by
  intro pins s σ H x y v u Q I rx ry h
  obtain ⟨i, j, rfl, rfl, q⟩ := h
  obtain ⟨t, rfl⟩ := rx
  obtain ⟨t', rfl⟩ := ry
  exact rule i j t t' s _ _ ⟨.int (g i j), H, I.tok _, ⟨_, rfl⟩, q⟩
theorem opB0 {f : Value → Value → Sem Value} {g : Int → Int → Bool}
    (rule : ∀ (i j : Int) (t u : Tok) (s : Shared) (Q : Value → Shared → Prop) (E : Value → Shared → Prop), Q (.bool (g i j)) s → wpAny (model X.prog X.w) X.A (f (.int i t) (.int j u)) Q E s) :
    OpR X f (rI0 fun i j => .bl (g i j)) := by
  intro pins s σ H x y v u Q I rx ry h
  obtain ⟨i, j, rfl, rfl, q⟩ := h
  obtain ⟨t, rfl⟩ := rx
  obtain ⟨t', rfl⟩ := ry
  exact rule i j t t' s _ _ ⟨.bl (g i j), H, I, rfl, q⟩

noncomputable def CDiv (i j : Int) : Prop := 0 < j ∧ j < 1073741824
noncomputable def CPow (i j : Int) : Prop := 0 ≤ j ∧ j ≤ 1000000 ∧ i.natAbs < 2 ^ 64
noncomputable def CMul (i j : Int) : Prop := (-(2 ^ 64) < i ∧ i < 2 ^ 64) ∨ (-(2 ^ 64) < j ∧ j < 2 ^ 64)
theorem CMul.ok {i j : Int} (h : CMul i j) : IntMulOk i j := by
  rcases h with ⟨h1, h2⟩ | ⟨h1, h2⟩
  · exact .of_left (intBits_le_64 h1 h2)
  · exact .of_right (intBits_le_64 h1 h2)
theorem op_add : OpR X (binaryOp .Add) (rI0 fun i j => .int (i + j)) := opI0 fun _ _ _ _ _ _ _ q => add_int q
theorem op_sub : OpR X (binaryOp .Sub) (rI0 fun i j => .int (i - j)) := opI0 fun _ _ _ _ _ _ _ q => sub_int q
theorem op_mul : OpR X (binaryOp .Mult) (rI CMul fun i j => .int (i * j)) := opI fun _ _ _ _ _ _ _ hc q => mul_int q hc.ok
theorem op_fdiv : OpR X (binaryOp .FloorDiv) (rI CDiv fun i j => .int (i / j)) := opI fun i j _ _ _ _ _ hc q => by
  have h1 : (0 : Int) < j := hc.1
  have h2 : j < 1073741824 := hc.2
  exact floordiv_int (by omega) (by rw [Int.fdiv_eq_ediv_of_nonneg i (by omega)]; exact q) (.inl (PyProof.noPylong_small (by omega)))
theorem op_mod : OpR X (binaryOp .Mod) (rI (fun _ j => 0 < j) fun i j => .int (i % j)) := opI fun i j _ _ _ _ _ hc q => by
  have h1 : (0 : Int) < j := hc
  exact mod_int' (by omega) (by rw [Int.fmod_eq_emod_of_nonneg i (by omega)]; exact q)
theorem op_modN : OpR X (binaryOp .Mod) (rI (fun _ j => j ≠ 0) fun i j => .int (i.fmod j)) := opI fun _ _ _ _ _ _ _ hc q => mod_int' hc q
theorem op_pow : OpR X (binaryOp .Pow) (rI CPow fun i j => .int (i ^ j.toNat)) := opI fun _ _ _ _ _ _ _ hc q => pow_int_small hc.1 hc.2.1 hc.2.2 q
theorem op_xor : OpR X (binaryOp .BitXor) (rI0 fun i j => .int (Builtin.bitXor i j)) := opI0 fun _ _ _ _ _ _ _ q => xor_int q

theorem unI {f : Value → Sem Value} {g : Int → Int}
    (rule : ∀ (i : Int) (t : Tok) (s : Shared) (Q : Value → Shared → Prop) (E : Value → Shared → Prop), Q (.int (g i) s.toks) { s with toks := s.toks + 1 } → wpAny (model X.prog X.w) X.A (f (.int i t)) Q E s) :
    UnR X f (rU fun i => .int (g i)) := by
  intro pins s σ H x v Q I rx h
  obtain ⟨i, rfl, q⟩ := h
  obtain ⟨t, rfl⟩ := rx
  exact rule i t s _ _ ⟨.int (g i), H, I.tok _, ⟨_, rfl⟩, q⟩
theorem un_neg : UnR X (unaryOp .USub) (rU fun i => .int (-i)) := unI fun _ _ _ _ _ q => neg_int q
end

noncomputable def scal : V → V → Bool
  | .non, .non => true | .non, .int _ => true | .int _, .non => true | .non, .bl _ => true | .bl _, .non => true | .non, .str _ => true | .str _, .non => true
  | .int _, .int _ => true | .bl _, .bl _ => true | .str _, .str _ => true | .byt _, .byt _ => true
  | .int _, .str _ => true | .str _, .int _ => true | .bl _, .str _ => true | .str _, .bl _ => true
  | _, _ => false
inductive EqR (x y : V) (H : Hp) (Q : VK) : Prop
  | mk (c : scal x y = true) (q : Q (.bl (decide (x = y))) H) : EqR x y H Q
inductive NeR (x y : V) (H : Hp) (Q : VK) : Prop
  | mk (c : scal x y = true) (q : Q (.bl (!decide (x = y))) H) : NeR x y H Q
noncomputable def rEq : R2 := fun x y H Q => EqR x y H Q
noncomputable def rNe : R2 := fun x y H Q => NeR x y H Q

theorem dec_int {i j : Int} : decide (V.int i = V.int j) = (i == j) := by
  rw [Bool.eq_iff_iff]
  simp
theorem dec_bl {i j : Bool} : decide (V.bl i = V.bl j) = (i == j) := by
  rw [Bool.eq_iff_iff]
  simp
theorem dec_str {i j : Str} : decide (V.str i = V.str j) = (i == j) := by
  rw [Bool.eq_iff_iff]
  simp
theorem dec_byt {i j : Array UInt8} : decide (V.byt i = V.byt j) = (i.toList == j.toList) := by
  rw [Bool.eq_iff_iff]
  cases i
  cases j
  simp

section
variable {X : Cx} {a b c : Expr} {ta tb tc : TE} {pos : Pos}
theorem fin_bl {pins : List (Addr × Obj)} {σ : St} {H : Hp} {s : Shared} {Q : VK} {k k' : Bool} (I : Inv X pins σ H s) (q : Q (.bl k) H) (e : k = k') : EP X pins σ Q (.bool k') s := by
  subst e
  exact ⟨.bl k, H, I, rfl, q⟩
theorem op_eq : OpR X (compareOp .Eq) rEq := by
  intro pins s σ H x y v u Q I rx ry h
  obtain ⟨hs, q⟩ := h
  cases x with
  | non =>
    cases rx
    cases y with
    | non => cases ry; exact PySem.EqNone.eq_none_none (fin_bl I q (by simp))
    | bl j => cases ry; exact PySem.EqNone.eq_none_bool (fin_bl I q (by simp))
    | int j => obtain ⟨t', rfl⟩ := ry; exact PySem.EqNone.eq_none_int (fin_bl I q (by simp))
    | str j => obtain ⟨t', rfl⟩ := ry; exact PySem.EqNone.eq_none_str (fin_bl I q (by simp))
    | _ => exact absurd (show false = true from hs) Bool.false_ne_true
  | bl i =>
    cases rx
    cases y with
    | non => cases ry; exact PySem.EqNone.eq_bool_none (fin_bl I q (by simp))
    | bl j => cases ry; exact eq_bool (fin_bl I q dec_bl)
    | str j => obtain ⟨t', rfl⟩ := ry; exact PySem.EqMixed.eq_bool_str (fin_bl I q (by simp))
    | _ => exact absurd (show false = true from hs) Bool.false_ne_true
  | int i =>
    obtain ⟨t, rfl⟩ := rx
    cases y with
    | non => cases ry; exact PySem.EqNone.eq_int_none (fin_bl I q (by simp))
    | int j => obtain ⟨t', rfl⟩ := ry; exact eq_int (fin_bl I q dec_int)
    | str j => obtain ⟨t', rfl⟩ := ry; exact PySem.EqMixed.eq_int_str (fin_bl I q (by simp))
    | _ => exact absurd (show false = true from hs) Bool.false_ne_true
  | str i =>
    obtain ⟨t, rfl⟩ := rx
    cases y with
    | non => cases ry; exact PySem.EqNone.eq_str_none (fin_bl I q (by simp))
    | bl j => cases ry; exact PySem.EqMixed.eq_str_bool (fin_bl I q (by simp))
    | int j => obtain ⟨t', rfl⟩ := ry; exact PySem.EqMixed.eq_str_int (fin_bl I q (by simp))
    | str j => obtain ⟨t', rfl⟩ := ry; exact eq_str (fin_bl I q dec_str)
    | _ => exact absurd (show false = true from hs) Bool.false_ne_true
  | byt i =>
    obtain ⟨t, rfl⟩ := rx
    cases y with
    | byt j => obtain ⟨t', rfl⟩ := ry; exact PySem.W.eq_bytes (fin_bl I q dec_byt)
    | _ => exact absurd (show false = true from hs) Bool.false_ne_true
  | _ => cases y <;> exact absurd (show false = true from hs) Bool.false_ne_true
theorem op_ne : OpR X (compareOp .NotEq) rNe := by
  intro pins s σ H x y v u Q I rx ry h
  obtain ⟨hs, q⟩ := h
  cases x with
  | non =>
    cases rx
    cases y with
    | non => cases ry; exact PySem.EqNone.ne_none_none (fin_bl I q (by simp))
    | bl j => cases ry; exact PySem.EqNone.ne_none_bool (fin_bl I q (by simp))
    | int j => obtain ⟨t', rfl⟩ := ry; exact PySem.EqNone.ne_none_int (fin_bl I q (by simp))
    | str j => obtain ⟨t', rfl⟩ := ry; exact PySem.EqNone.ne_none_str (fin_bl I q (by simp))
    | _ => exact absurd (show false = true from hs) Bool.false_ne_true
  | bl i =>
    cases rx
    cases y with
    | non => cases ry; exact PySem.EqNone.ne_bool_none (fin_bl I q (by simp))
    | bl j => cases ry; exact ne_bool (fin_bl I q (congrArg not dec_bl))
    | str j => obtain ⟨t', rfl⟩ := ry; exact PySem.EqMixed.ne_bool_str (fin_bl I q (by simp))
    | _ => exact absurd (show false = true from hs) Bool.false_ne_true
  | int i =>
    obtain ⟨t, rfl⟩ := rx
    cases y with
    | non => cases ry; exact PySem.EqNone.ne_int_none (fin_bl I q (by simp))
    | int j => obtain ⟨t', rfl⟩ := ry; exact ne_int (fin_bl I q (congrArg not dec_int))
    | str j => obtain ⟨t', rfl⟩ := ry; exact PySem.EqMixed.ne_int_str (fin_bl I q (by simp))
    | _ => exact absurd (show false = true from hs) Bool.false_ne_true
  | str i =>
    obtain ⟨t, rfl⟩ := rx
    cases y with
    | non => cases ry; exact PySem.EqNone.ne_str_none (fin_bl I q (by simp))
    | bl j => cases ry; exact PySem.EqMixed.ne_str_bool (fin_bl I q (by simp))
    | int j => obtain ⟨t', rfl⟩ := ry; exact PySem.EqMixed.ne_str_int (fin_bl I q (by simp))
    | str j => obtain ⟨t', rfl⟩ := ry; exact ne_str (fin_bl I q (congrArg not dec_str))
    | _ => exact absurd (show false = true from hs) Bool.false_ne_true
  | byt i =>
    obtain ⟨t, rfl⟩ := rx
    cases y with
    | byt j => obtain ⟨t', rfl⟩ := ry; exact PySem.W.ne_bytes (fin_bl I q (congrArg not dec_byt))
    | _ => exact absurd (show false = true from hs) Bool.false_ne_true
  | _ => cases y <;> exact absurd (show false = true from hs) Bool.false_ne_true

theorem op_lt : OpR X (compareOp .Lt) (rI0 fun i j => .bl (decide (i < j))) := opB0 fun _ _ _ _ _ _ _ q => lt_int q
theorem op_gt : OpR X (compareOp .Gt) (rI0 fun i j => .bl (decide (j < i))) := opB0 fun _ _ _ _ _ _ _ q => gt_int q
theorem op_ge : OpR X (compareOp .GtE) (rI0 fun i j => .bl (decide (j ≤ i))) := opB0 fun _ _ _ _ _ _ _ q => ge_int q
theorem op_notin_str : OpR X (compareOp .NotIn) (fun x y H Q => ∃ i j, x = .str i ∧ y = .str j ∧ Q (.bl (!(!(Builtin.Str.occurrences j i 0 j.length 1).isEmpty))) H) := by
  intro pins s σ H x y v u Q I rx ry h
  obtain ⟨i, j, rfl, rfl, q⟩ := h
  obtain ⟨t, rfl⟩ := rx
  obtain ⟨t', rfl⟩ := ry
  exact notIn_str (fin_bl I q rfl)
theorem nomark (b : Expr) {op : CmpOp} (h : op ≠ .In := by decide) (h2 : op ≠ .NotIn := by decide) : behindInMarks op b = false := by
  have e1 : (op == CmpOp.In) = false := by cases op <;> first | rfl | exact absurd rfl h
  have e2 : (op == CmpOp.NotIn) = false := by cases op <;> first | rfl | exact absurd rfl h2
  cases b <;> simp [behindInMarks, e1, e2]
theorem pe_cmpR {op : CmpOp} {r : R2} (ho : OpR X (compareOp op) r) (ha : PE X a ta) (hb : PE X b tb) (hm : behindInMarks op b = false) : PE X (.Compare a [op] [b] pos) (tOp r ta tb) := by
  intro pins s σ H Q I h
  exact wpAny_Compare1 (binT ha hb I h fun v u s2 x y H2 I2 rx ry q => ho pins s2 σ H2 x y v u Q I2 rx ry q) hm
noncomputable def tTest (t : TE) : TT := fun σ H Q => t σ H fun x H' => BlR x H' Q
theorem pt_cmpR {op : CmpOp} {r : R2} (ho : OpR X (compareOp op) r) (ha : PE X a ta) (hb : PE X b tb) (hm : behindInMarks op b = false) : PT X (.Compare a [op] [b] pos) (tTest (tOp r ta tb)) := by
  intro pins s σ H Q I h
  refine wpAny_isTrue_Compare1 (thn (ha pins s σ H _ I h) fun v s1 ⟨x, H1, I1, r1, q1⟩ => thn (hb pins s1 σ H1 _ I1 q1) fun u s2 ⟨y, H2, I2, r2, q2⟩ =>
    thn (ho pins s2 σ H2 x y v u _ I2 r1 r2 q2) fun c s3 ⟨z, H3, I3, r3, k, e, q3⟩ => ?_) hm
  subst e
  cases r3
  exact wpAny_truthy_bool ⟨H3, I3, q3⟩
theorem line63 : (sizeLine : Nat) < 2 ^ 63 := by rw [sizeLine_eq]; decide
theorem op_add_str : OpR X (binaryOp .Add) (fun x y H Q => ∃ i j, x = .str i ∧ y = .str j ∧ i.length + j.length ≤ sizeLine ∧ Q (.str (i ++ j)) H) := by
  intro pins s σ H x y v u Q I rx ry h
  obtain ⟨i, j, rfl, rfl, hz, q⟩ := h
  obtain ⟨t, rfl⟩ := rx
  obtain ⟨t', rfl⟩ := ry
  exact add_str (fun t' tk => ⟨.str (i ++ j), H, I.tok _, ⟨_, rfl⟩, q⟩) hz
theorem vals1 {x : V} {us : List Value} (r : Vals [x] us) : ∃ u, us = [u] ∧ RelV x u := by
  cases r with
  | cons r1 r2 => cases r2; exact ⟨_, rfl, r1⟩
theorem vals2 {x y : V} {us : List Value} (r : Vals [x, y] us) : ∃ u w', us = [u, w'] ∧ RelV x u ∧ RelV y w' := by
  cases r with
  | cons r1 r2 =>
    cases r2 with
    | cons r3 r4 => cases r4; exact ⟨_, _, rfl, r1, r3⟩
theorem call_abs : CallR X (.builtin "abs") (fun xs H Q => ∃ i, xs = [.int i] ∧ Q (.int (if i < 0 then -i else i)) H) := by
  intro pins s σ H xs us Q I r h
  obtain ⟨i, rfl, q⟩ := h
  obtain ⟨u, rfl, t, rfl⟩ := vals1 r
  exact call_abs_int fun u tk => ⟨.int (if i < 0 then -i else i), H, I.tok _, ⟨_, rfl⟩, q⟩
theorem call_max2 (hc : X.calm = true) : CallR X (.builtin "max") (fun xs H Q => ∃ i j, xs = [.int i, .int j] ∧ Q (.int (if j > i then j else i)) H) := by
  intro pins s σ H xs us Q I r h
  obtain ⟨i, j, rfl, q⟩ := h
  obtain ⟨u, w', rfl, ⟨t, rfl⟩, ⟨t', rfl⟩⟩ := vals2 r
  refine max_two_ints (I.ok.hd hc) fun h' tk k => ⟨_, H, I.kept k, ?_, q⟩
  by_cases hj : j > i
  · rw [if_pos hj, if_pos hj]; exact ⟨_, rfl⟩
  · rw [if_neg hj, if_neg hj]; exact ⟨_, rfl⟩
theorem call_int1 : CallR X (.type "int") (fun xs H Q => (∃ i, xs = [.int i] ∧ Q (.int i) H) ∨ ∃ k, xs = [.bl k] ∧ Q (.int (if k then 1 else 0)) H) := by
  intro pins s σ H xs us Q I r h
  rcases h with ⟨i, rfl, q⟩ | ⟨k, rfl, q⟩
  · obtain ⟨u, rfl, t, rfl⟩ := vals1 r
    exact call_int_int ⟨.int i, H, I, ⟨_, rfl⟩, q⟩
  · obtain ⟨u, rfl, r1⟩ := vals1 r
    cases r1
    exact call_int_bool ⟨.int (if k then 1 else 0), H, I.tok _, ⟨_, rfl⟩, q⟩
theorem call_str_int : CallR X (.type "str") (fun xs H Q => ∃ i, xs = [.int i] ∧ i.natAbs.log2 < 1920 ∧ Q (.str (toString i)) H) := by
  intro pins s σ H xs us Q I r h
  obtain ⟨i, rfl, hz, q⟩ := h
  obtain ⟨u, rfl, t, rfl⟩ := vals1 r
  exact PySem.P.str_of_int hz ⟨.str _, H, I.tok _, ⟨_, rfl⟩, q⟩
end
end L2

namespace L2
open PySem PySem.Spec PyProof.Rows

structure ObjM (h : Heap) (x dx C : Addr) (mA : Str → Option Value) : Prop where
  obj : h.get? x = some (PySem.W.instObj C dx)
  ns : h.Ns1 dx mA
  ne : dx ≠ x

theorem lookIn_ns {h : Heap} {dx : Addr} {mA : Str → Option Value} (n : h.Ns1 dx mA) : ∃ od, h.get? dx = some od ∧ ∀ name, PySem.W.lookIn name od = some (mA name) := by
  obtain ⟨o, es, ep, ho, hd, hk, _, hm⟩ := n
  refine ⟨o, ho, fun name => ?_⟩
  have e := hm name
  unfold nsFind findBy at e
  rw [← Array.find?_toList] at e
  unfold PySem.W.lookIn
  rw [hd]
  dsimp only
  split
  · rename_i y q
    rw [q] at e
    exact congrArg some e
  · rename_i q
    rw [q] at e
    have a : es.toList.any (·.refKey) = false := by
      rw [List.any_eq_false]
      intro y hy
      obtain ⟨z, t, hkey⟩ := hk y (Array.mem_toList_iff.mp hy)
      simp [DictEntry.refKey, hkey]
    have a' : ¬ es.toList.any (·.refKey) = true := by rw [a]; exact Bool.false_ne_true
    rw [if_neg a']
    exact congrArg some e

theorem ObjM.look {h : Heap} {x dx C : Addr} {mA : Str → Option Value} (I : ObjM h x dx C mA) : ∃ od, PySem.W.InstAt h x (PySem.W.instObj C dx) C (some od) ∧ ∀ name, PySem.W.lookIn name od = some (mA name) :=
  let ⟨od, ho, hl⟩ := lookIn_ns I.ns
  ⟨od, ⟨I.obj, rfl, rfl, ho⟩, hl⟩

section
variable {prog : Program} {w : World} {A : Around} {E : Value → Shared → Prop} {s : Shared} {K : PySem.W.Frag} {x dx C f : Addr} {mA : Str → Option Value} {name : Str} {v : Value}

theorem set_map {ns : List Str} {Q : Unit → Shared → Prop} (X : K.In s.heap) (I : ObjM s.heap x dx C mA)
    (hs : PySem.W.findIn K (.ref C) "__setattr__" = some (some (.builtin "object.__setattr__"))) (hp : PySem.W.plainOver K C = true) (ht : PySem.W.takerIn K C name = some none) (hh : PySem.W.hasDictIn K C = true)
    (hw : PySem.Within mA ns) (hsz : ns.length ≤ sizeLine)
    (h : ∀ h', ObjM h' x dx C (fun y => if y = name then some v else mA y) → Heap.SameBut dx s.heap h' → Q () { s with heap := h', toks := s.toks + 2 }) :
    wpAny (model prog w) A (setAttr (.ref x) name v) Q E s := by
  obtain ⟨od, J, hl⟩ := I.look
  refine PySem.W.set_plain X J hs (PySem.W.osa_open (s := { s with toks := s.toks + 1 }) (r := none) X J hp ht fun b => ?_)
  obtain ⟨cd, hc, hd'⟩ := PySem.W.any_some hh
  have hx : s.heap.get? x = some ⟨.ref C, some dx, .plain, #[]⟩ := I.obj
  refine wpAny_bind (wpAny_pure (wpAny_bind (wpAny_bind (wpAny_loadPart hx (wpAny_bind (PySem.W.Looks.here (s := { s with toks := s.toks + 1 }) (PySem.W.looks_clsIn X hc) ?_))))))
  rw [hd']
  refine wpAny_pure (a := some dx) (wpAny_bind (wpAny_pure (wpAny_bind ?_)))
  refine wpAny_nsSet1 (s := { s with toks := s.toks + 1 }) I.ns fun h' hn2 hs2 => ?_
  obtain ⟨oD, esD, epD, hoD, hdD, hcD⟩ := hn2.count (PySem.Within.cons name v hw)
  refine wpAny_bind (wpAny_lookBehind hoD (by rw [hdD]; exact pastItsLine_dict (Nat.le_trans hcD (by rw [List.length_cons]; omega))) ?_)
  exact wpAny_pure (h _ ⟨(hs2.2 _ (Ne.symm I.ne)).trans I.obj, hn2, I.ne⟩ hs2)

end

theorem RelO.some_of {v : V} {o : Option Value} (r : RelO (some v) o) : ∃ u, o = some u ∧ RelV v u := by
  cases o with
  | none => exact (show False from r).elim
  | some u => exact ⟨u, rfl, r⟩
section
variable {P : Program} {w : World} {H H' : Hp} {h h' : Heap} {a C dx : Addr} {fs fs' : List (Str × V)}
theorem ins_get (hok : HOk P w H h) (e : H a = some (.ins C dx fs)) : ∃ mA, ObjM h a dx C mA ∧ (∀ f, RelO (fs.lookup f) (mA f)) ∧ PySem.Within mA (fs.map (·.1)) ∧ fs.length ≤ 1000 ∧ H dx = some (.own a) := by
  obtain ⟨d, z, ne, ob, mA, n, r, q⟩ := (show ObjOk P w H h a (.ins C dx fs) from hok a _ e)
  exact ⟨mA, ⟨ob, n, ne⟩, r, q, z, d⟩
end

structure Cls (K : PySem.W.Frag) (C : Addr) : Prop where
  pg : PySem.W.plainGet K C Str.empty = true
  hd : PySem.W.hasDictIn K C = true
  po : PySem.W.plainOver K C = true
  sa : PySem.W.findIn K (.ref C) "__setattr__" = some (some (.builtin "object.__setattr__"))
theorem Cls.get {K : PySem.W.Frag} {C : Addr} (c : Cls K C) (f : Str) : PySem.W.plainGet K C f = true := c.pg
section
variable {X : Cx} {pins : List (Addr × Obj)} {σ : St} {H : Hp} {s : Shared} {a C dx : Addr} {fs : List (Str × V)} {f : Str} {v : V} {A : Around} {E : Value → Shared → Prop}

end

section
variable {X : Cx} {o e value : Expr} {f : Str} {pos pos' tpos : Pos} {ta tv : TE}
noncomputable def rAdd : V → V → Hp → VK → Prop := fun x y H Q => ∃ i j, x = .int i ∧ y = .int j ∧ Q (.int (i + j)) H
end

section
variable {X : Cx} {pins : List (Addr × Obj)} {σ : St} {H : Hp} {s : Shared} {A : Around} {E : Value → Shared → Prop} {Q : Value → Shared → Prop} {c : Value} {b : Bool}
inductive TyOf (K : PySem.W.Frag) (H : Hp) : V → Value → Prop where
  | non : TyOf K H .non (.type "NoneType")
  | bl (x : Bool) : TyOf K H (.bl x) (.type "bool")
  | int (i : Int) : TyOf K H (.int i) (.type "int")
  | str (x : Str) : TyOf K H (.str x) (.type "str")
  | flt (x : UInt64) : TyOf K H (.flt x) (.type "float")
  | lst {a : Addr} {xs : List V} (e : H a = some (.lst xs)) : TyOf K H (.ref a) (.type "list")
  | frz {a : Addr} {o : Obj} {xs : List V} (e : H a = some (.frz o (.lst xs))) : TyOf K H (.ref a) (.type "list")
  | tup {a : Addr} {xs : List V} (e : H a = some (.tup xs)) : TyOf K H (.ref a) (.type "tuple")
  | dK {a : Addr} {kvs : List (Key × V)} (e : H a = some (.dK kvs)) : TyOf K H (.ref a) (.type "dict")
  | dT {a : Addr} {kvs : List (List Key × V)} (e : H a = some (.dT kvs)) : TyOf K H (.ref a) (.type "dict")
  | ins {a C dx : Addr} {fs : List (Str × V)} (e : H a = some (.ins C dx fs)) (cl : Cls K C) (ha : PySem.W.findIn K (.ref C) "__class__" = some (some (.builtin "object.__class__")))
      (hn : PySem.W.specialIn K (.builtin "object.__class__") "__get__" = some (some (.builtin "getset_descriptor.__get__"))) (htk : PySem.W.takesIn K (.builtin "object.__class__") = some true)
      (hm : PySem.W.mroIn K C (.type "object") = some true) : TyOf K H (.ref a) (.ref C)
theorem isinst_ok {x : V} {u t : Value} (I : Inv X pins σ H s) (rx : RelV x u) (ty : TyOf X.K H x t) (e : PySem.W.kitOne X.K t c = some b) (h : ∀ tk, Q (.bool b) { s with toks := tk }) :
    wpAny (model X.prog X.w) A (call (.builtin "isinstance") [u, c]) Q E s := by
  cases ty with
  | non => cases (show u = Value.none from rx); exact PySem.W.kia_one PySem.W.kitx_none I.kIn True.intro e (fun z => nomatch z) h
  | bl y => cases (show u = Value.bool y from rx); exact PySem.W.kia_one PySem.W.kitx_bool I.kIn True.intro e (fun z => nomatch z) h
  | int i => obtain ⟨t, q⟩ := (show ∃ t, u = Value.int i t from rx); cases q; exact PySem.W.kia_one PySem.W.kitx_int I.kIn True.intro e (fun z => nomatch z) h
  | str y => obtain ⟨t, q⟩ := (show ∃ t, u = Value.str y t from rx); cases q; exact PySem.W.kia_one PySem.W.kitx_str I.kIn True.intro e (fun z => nomatch z) h
  | flt y => obtain ⟨t, q⟩ := (show ∃ t, u = Value.float y t from rx); cases q; exact PySem.W.kia_one PySem.W.kitx_float I.kIn True.intro e (fun z => nomatch z) h
  | @lst a xs ea =>
    cases (show u = Value.ref a from rx)
    obtain ⟨_, _, n, _, h1⟩ := (show ObjOk X.prog X.w H s.heap a (.lst xs) from I.hok a _ ea)
    exact PySem.W.kia_one PySem.W.kitx_list I.kIn ⟨_, h1, rfl⟩ e (fun z => nomatch z) h
  | @frz a ob xs ea =>
    cases (show u = Value.ref a from rx)
    obtain ⟨_, _, _, n, _, h1⟩ := (show ObjOk X.prog X.w H s.heap a (.frz ob (.lst xs)) from I.hok a _ ea)
    exact PySem.W.kia_one PySem.W.kitx_list I.kIn ⟨_, h1, rfl⟩ e (fun z => nomatch z) h
  | @tup a xs ea =>
    cases (show u = Value.ref a from rx)
    obtain ⟨_, _, _, p, _⟩ := (show ObjOk X.prog X.w H s.heap a (.tup xs) from I.hok a _ ea)
    obtain ⟨o, h1, h2, _⟩ := p
    exact PySem.W.kia_one PySem.W.kitx_tuple I.kIn ⟨o, h1, h2⟩ e (fun z => nomatch z) h
  | @dK a kvs ea =>
    cases (show u = Value.ref a from rx)
    obtain ⟨_, _, vs, _, p⟩ := (show ObjOk X.prog X.w H s.heap a (.dK kvs) from I.hok a _ ea)
    obtain ⟨o, es, ep, h1, h2, _⟩ := p
    exact PySem.W.kia_one PySem.W.kitx_dict I.kIn ⟨o, h1, h2.1⟩ e (fun z => nomatch z) h
  | @dT a kvs ea =>
    cases (show u = Value.ref a from rx)
    obtain ⟨_, _, xs, _, o, es, ep, h1, h2, _⟩ := (show ObjOk X.prog X.w H s.heap a (.dT kvs) from I.hok a _ ea)
    exact PySem.W.kia_one PySem.W.kitx_dict I.kIn ⟨o, h1, h2.1⟩ e (fun z => nomatch z) h
  | @ins a C dx fs ea cl ha hn htk hm =>
    cases (show u = Value.ref a from rx)
    obtain ⟨mA, O, _⟩ := ins_get I.hok ea
    obtain ⟨od, J, _⟩ := O.look
    exact PySem.W.kia_one (PySem.W.kitx_own (cl.get _) cl.hd ha hn htk hm) I.kIn J e (fun z => nomatch z) h
end
end L2

namespace L2
open PySem PySem.Spec PyProof.Rows

structure Room (k : Nat) (A : Around) : Prop where
  hd : A.handled = none
  dp : A.depth + 3 * k + 5 < recursionLimit
  un : A.units + 16 * k + 200 < cLine
theorem Room.mono {j k : Nat} {A : Around} (r : Room k A) (h : j ≤ k) : Room j A := ⟨r.hd, by have := r.dp; omega, by have := r.un; omega⟩
theorem Room.deeper {k : Nat} {A : Around} (r : Room (k + 1) A) (env : Env) : Room k (A.deeper env) :=
  ⟨r.hd, by have := r.dp; show A.depth + 1 + 3 * k + 5 < _; omega, by have := r.un; show A.units + 3 + 16 * k + 200 < _; omega⟩
theorem Room.in1 {k : Nat} {A : Around} (r : Room (k + 1) A) : Room k A.in1 :=
  ⟨r.hd, by have := r.dp; show A.depth + 3 * k + 5 < _; omega, by have := r.un; show A.units + 1 + 16 * k + 200 < _; omega⟩
theorem Room.depth {k : Nat} {A : Around} (r : Room k A) : A.depth < recursionLimit := by have := r.dp; omega
theorem Room.units {k : Nat} {A : Around} (r : Room k A) : A.units + 64 < cLine := by have := r.un; omega
noncomputable def tNil : TA := fun _ H Q => Q [] H
noncomputable def tCons (ta : TE) (tr : TA) : TA := fun σ H Q => ta σ H fun x H1 => tr σ H1 fun xs H2 => Q (x :: xs) H2
section
variable {X : Cx} {e : Expr} {es : List Expr} {te : TE} {t : TA} {pos : Pos}
theorem pa_nil : PA X [] tNil := fun _ _ _ _ H Q I h => Calls.spliced_nil ⟨[], H, I, .nil, h⟩
theorem pa_cons (ha : PE X e te) (hr : PA X es t) (hs : starEach (e :: es) X.env = (false, eval e X.env) :: starEach es X.env := by rfl) : PA X (e :: es) (tCons te t) := by
  intro pos pins s σ H Q I h
  rw [hs]
  show wpAny _ _ (spliced ((false, eval e X.env) :: backTo pos (starEach es X.env))) _ _ s
  refine Calls.spliced_cons (thn (ha pins s σ H _ I h) fun u s1 ⟨x, H1, I1, r1, q1⟩ => ?_)
  exact thn (hr pos pins s1 σ H1 _ I1 q1) fun us s2 ⟨xs, H2, I2, r2, q2⟩ => ⟨x :: xs, H2, I2, .cons r1 r2, q2⟩

inductive TupNR (xs : List V) (H : Hp) (Q : VK) : Prop
  | mk (n : xs.length ≤ sizeLine) (q : ∀ p, H p = none → Q (.ref p) (upd H p (.tup xs))) : TupNR xs H Q
inductive LstNR (xs : List V) (H : Hp) (Q : VK) : Prop
  | mk (n : xs.length ≤ sizeLine) (q : ∀ p, H p = none → Q (.ref p) (upd H p (.lst xs))) : LstNR xs H Q
noncomputable def tTup (t : TA) : TE := fun σ H Q => t σ H fun xs H1 => TupNR xs H1 Q
noncomputable def tLst (t : TA) : TE := fun σ H Q => t σ H fun xs H1 => LstNR xs H1 Q
theorem pe_tup {x1} (h : PA X es t) : PE X (.Tuple es x1 pos) (tTup t) := by
  intro pins s σ H Q I hq
  refine wpAny_Tuple_spliced (thn (h pos pins s σ H _ I hq) fun us s1 ⟨xs, H1, I1, r, z, q⟩ => ⟨by rw [← r.length]; exact z, ?_⟩)
  have hf : H1 s1.heap.objs.size = none := I1.hok.fresh (Nat.le_refl _)
  refine ⟨.ref s1.heap.objs.size, upd H1 s1.heap.objs.size (.tup xs), I1.laid (t' := s1.toks) (fun b u e => Heap.get?_push_of_some _ e) (Nat.le_refl _) ?_, rfl, q _ hf⟩
  exact ⟨z, us, r, ⟨_, Heap.get?_push_size _ rfl, rfl, _, rfl⟩, _, Heap.get?_push_size _ rfl, rfl⟩
theorem pe_lst (h : PA X es t) : PE X (.List es pos) (tLst t) := by
  intro pins s σ H Q I hq
  refine wpAny_List_spliced (thn (h pos pins s σ H _ I hq) fun us s1 ⟨xs, H1, I1, r, z, q⟩ => ⟨by rw [← r.length]; exact z, ?_⟩)
  have hf : H1 s1.heap.objs.size = none := I1.hok.fresh (Nat.le_refl _)
  refine ⟨.ref s1.heap.objs.size, upd H1 s1.heap.objs.size (.lst xs), I1.laid (t' := s1.toks) (fun b u e => Heap.get?_push_of_some _ e) (Nat.le_refl _) ?_, rfl, q _ hf⟩
  exact ⟨z, us, 0, r, Heap.get?_push_size _ rfl⟩
end

noncomputable abbrev Sp := List V → Hp → VK → XK → Prop
noncomputable abbrev CXT := List Env → Hp → Shared → XK → Value → Shared → Prop

structure Env0 (P : Program) (w : World) (K : PySem.W.Frag) (mg : Str → Option Value) (base : Heap) (A : Around) (outer : List Env) (s : Shared) (H : Hp) : Prop where
  frames : A.frames = some outer
  mod : Mod K mg base
  bs : ∀ b o, base.get? b = some o → s.heap.get? b = some o ∧ H b = none
  bsz : base.objs.size ≤ s.heap.objs.size
  funs : s.heap.FunFrames base outer
  frf : ∀ b ∈ frs outer, H b = none
  hok : HOk P w H s.heap
  bare : AllBare s.gens
noncomputable def CE (outer : List Env) (P : Program) (w : World) (H : Hp) (s : Shared) (Q : VK) (u : Value) (s' : Shared) : Prop :=
  ∃ v H', s'.os = s.os ∧ AllBare s'.gens ∧ Un (frs outer) [] H H' s.heap s'.heap ∧ HOk P w H' s'.heap ∧ RelV v u ∧ Q v H'
noncomputable def CR (CX : CXT) (outer : List Env) (P : Program) (w : World) (H : Hp) (s : Shared) (Q : VK) (E : XK) (r : Result) (s' : Shared) : Prop :=
  match r with
  | .ok (.ret u) => CE outer P w H s Q u s'
  | .ok _ => False
  | .error e => CX outer H s E e s'
structure FnOk (P : Program) (w : World) (K : PySem.W.Frag) (mg : Str → Option Value) (base : Heap) (CX : CXT) (k : Nat) (f : Addr) (fd : FuncData) (ps : List Str) (sp : Sp) : Prop where
  len : ∀ vs H Q E, sp vs H Q E → vs.length = ps.length
  run : ∀ (A : Around) (outer : List Env) (s : Shared) (H : Hp) (args : Args) (us : List Value) (vs : List V) (Q : VK) (E : XK), Room k A → Env0 P w K mg base A outer s H → BindsTo s fd args (ps.zip us) → Vals vs us → sp vs H Q E →
    codeAny (model P w) A (.call (.ref f) args) (CR CX outer P w H s Q E) s
theorem FnOk.mono {P : Program} {w : World} {K : PySem.W.Frag} {mg : Str → Option Value} {base : Heap} {CX : CXT} {j k : Nat} {f : Addr} {fd : FuncData} {ps : List Str} {sp : Sp} (F : FnOk P w K mg base CX j f fd ps sp) (h : j ≤ k) :
    FnOk P w K mg base CX k f fd ps sp := ⟨F.len, fun A outer s H args us vs Q E hr => F.run A outer s H args us vs Q E (hr.mono h)⟩
theorem FnOk.imp {P : Program} {w : World} {K : PySem.W.Frag} {mg : Str → Option Value} {base : Heap} {CX : CXT} {k : Nat} {f : Addr} {fd : FuncData} {ps : List Str} {sp sp' : Sp} (F : FnOk P w K mg base CX k f fd ps sp)
    (h : ∀ vs H Q E, sp' vs H Q E → sp vs H Q E) : FnOk P w K mg base CX k f fd ps sp' :=
  ⟨fun vs H Q E q => F.len vs H Q E (h _ _ _ _ q), fun A outer s H args us vs Q E hr he hb hv hs => F.run A outer s H args us vs Q E hr he hb hv (h _ _ _ _ hs)⟩

theorem Env0.in1 {P : Program} {w : World} {K : PySem.W.Frag} {mg : Str → Option Value} {base : Heap} {A : Around} {outer : List Env} {s : Shared} {H : Hp} (e : Env0 P w K mg base A outer s H) :
    Env0 P w K mg base A.in1 outer s H := ⟨e.frames, e.mod, e.bs, e.bsz, e.funs, e.frf, e.hok, e.bare⟩

section
variable {X : Cx} {pins : List (Addr × Obj)} {σ : St} {H : Hp} {s s' : Shared}
theorem Inv.env0 (I : Inv X pins σ H s) : Env0 X.prog X.w X.K X.mg X.base X.A X.stack s H :=
  ⟨I.ok.frames, I.ok.mod, I.bs, Nat.le_trans I.ok.bsz I.sz, I.stack, I.stkFree, I.hok, I.bare⟩
theorem Inv.after {Q : VK} {u : Value} (I : Inv X pins σ H s) (h : CE X.stack X.prog X.w H s Q u s') : EP X pins σ Q u s' := by
  obtain ⟨v, H', os, bare, un, hok, r, q⟩ := h
  obtain ⟨hh, g, d, t, os'⟩ := s'
  obtain rfl : os' = s.os := os
  exact ⟨v, H', I.call (h' := hh) (g' := g) (d' := d) (t' := t) (ch := []) un hok bare (fun b z => absurd z (by simp)), r, q⟩
end

noncomputable def tCall (sp : Sp) (dvs : List V) (E : XK) (t : TA) : TE := fun σ H Q => t σ H fun vs H1 => sp (vs ++ dvs) H1 Q E
noncomputable def Binds (K : PySem.W.Frag) (fd : FuncData) (ps : List Str) (ds : List Value) : Prop :=
  ∀ (s : Shared) (us : List Value), K.In s.heap → (us ++ ds).length = ps.length → BindsTo s fd ⟨us, []⟩ (ps.zip (us ++ ds))
theorem Binds.all {K : PySem.W.Frag} {fd : FuncData} {ps : List Str} (h : ∀ us : List Value, us.length = ps.length → bindArgs fd ⟨us, []⟩ = pure (ps.zip us)) : Binds K fd ps [] := fun s us _ hl => by
  rw [List.append_nil] at hl ⊢
  exact .of_eq (h us hl)

noncomputable def Passes (CX : CXT) (X : Cx) (E : XK) : Prop := ∀ (pins : List (Addr × Obj)) (σ : St) (H : Hp) (s : Shared) (e : Value) (s' : Shared), Inv X pins σ H s → CX X.stack H s E e s' → X.xe e s'

section
variable {X : Cx} {CX : CXT} {k : Nat} {f C : Addr} {fd : FuncData} {ps : List Str} {sp : Sp} {dvs : List V} {ds : List Value} {E : XK} {x m : Str} {p pos apos : Pos} {e o : Expr} {es : List Expr} {ta : TE} {t : TA}

theorem run_fn {pins : List (Addr × Obj)} {σ : St} {H : Hp} {s : Shared} {Q : VK} {us : List Value} {vs : List V} (F : FnOk X.prog X.w X.K X.mg X.base CX k f fd ps sp) (hr : Room k X.A) (hb : Binds X.K fd ps ds) (hd : Vals dvs ds) (hx : Passes CX X E)
    (I : Inv X pins σ H s) (r : Vals vs us) (h : sp (vs ++ dvs) H Q E) : wpAny (model X.prog X.w) X.A (call (.ref f) us) (EP X pins σ Q) X.xe s := by
  have r2 : Vals (vs ++ dvs) (us ++ ds) := r.append hd
  have hl : (us ++ ds).length = ps.length := by rw [← r2.length]; exact F.len _ _ _ _ h
  refine wpAny_call (codeAny_mono (F.run X.A X.stack s H ⟨us, []⟩ (us ++ ds) (vs ++ dvs) Q E hr I.env0 (hb s us I.kIn hl) r2 h) fun r s' hq => ?_)
  cases r with
  | error e => exact hx pins σ H s e s' I hq
  | ok fl =>
    cases fl with
    | ret u => exact I.after hq
    | next => exact False.elim hq
    | brk => exact False.elim hq
    | cont => exact False.elim hq

theorem pe_call (F : FnOk X.prog X.w X.K X.mg X.base CX k f fd ps sp) (hr : Room k X.A) (hg : Gl X x) (hm : X.mg x = some (.ref f)) (hk : PySem.W.keepIn X.K (.ref f) = true) (hb : Binds X.K fd ps ds) (hd : Vals dvs ds) (hx : Passes CX X E)
    (ha : PA X (e :: es) t) (hdb : (x == ("__debug__" : Str)) = false := by decide) (he : starEach (e :: es) X.env = (false, eval e X.env) :: starEach es X.env := by rfl) (hpl : (backTo pos (starEach es X.env)).any (·.1) = false := by rfl) :
    PE X (.Call (.Name x p) (e :: es) [] pos) (tCall sp dvs E t) := by
  intro pins s σ H Q I h
  refine wpAny_Call_Name_kw (ld_glob I hg hm ?_ hdb)
  refine PySem.W.callWith_K (h₀ := X.base) I.ok.mod.kin hk (thn (ha pos pins s σ H _ I h) fun us s1 ⟨vs, H1, I1, r, q⟩ => ⟨I1.kIn, ?_⟩) he hpl
  exact run_fn F hr hb hd hx I1 r q
end

section
variable {X : Cx} {CX : CXT} {k : Nat} {f C : Addr} {fd : FuncData} {ps ks : List Str} {sp : Sp} {E : XK} {x m : Str} {p pos apos kpos : Pos} {e o : Expr} {es : List Expr} {kws : List Keyword} {te ta : TE} {t tk : TA} {nm : Option Str}
variable {g : List Value → List Value → List Value} {gV : List V → List V → List V}
end

structure FnScope (N P : List Str) (sc : Scope) : Prop where
  kind : sc.kind = .function
  co : sc.isCoroutine = false
  gen : sc.isGenerator = false
  nd : N.Nodup
  pre : N.take P.length = P
  par : ∀ x ∈ P, sc.names.lookup x = some .local ∨ sc.names.lookup x = some .cell
  nofree : ∀ y ∈ sc.names, y.2 ≠ .free

theorem bindL_out {kindOf : Str → Option NameKind} {x : Str} : ∀ {binds : List (Str × Value)} {m : Str → Option Value}, (∀ v, (x, v) ∉ binds) → bindL kindOf binds m x = m x
  | [], _, _ => rfl
  | (n, v) :: r, m, h => by
    unfold bindL
    rw [bindL_out fun w hw => h w (List.mem_cons_of_mem _ hw)]
    split
    · have : x ≠ n := by rintro rfl; exact h v List.mem_cons_self
      simp [this]
    · rfl
theorem bindC_out {kindOf : Str → Option NameKind} {x : Str} : ∀ {binds : List (Str × Value)} {m : Str → Option Value}, (∀ v, (x, v) ∉ binds) → bindC kindOf binds m x = m x
  | [], _, _ => rfl
  | (n, v) :: r, m, h => by
    unfold bindC
    rw [bindC_out fun w hw => h w (List.mem_cons_of_mem _ hw)]
    split
    · rfl
    · have : x ≠ n := by rintro rfl; exact h v List.mem_cons_self
      simp [this]
theorem bindL_get {kindOf : Str → Option NameKind} {x : Str} {v : Value} : ∀ {P : List Str} {vs : List Value} {i : Nat} {m : Str → Option Value}, P.Nodup → P[i]? = some x → vs[i]? = some v → kindOf x = some .local →
    bindL kindOf (P.zip vs) m x = some v
  | [], _, _, _, _, h, _, _ => by simp at h
  | _ :: _, [], _, _, _, _, h, _ => by simp at h
  | p :: P, w :: vs, 0, m, nd, h1, h2, hk => by
    simp at h1 h2; subst h1; subst h2
    show bindL kindOf ((p, w) :: P.zip vs) m p = _
    unfold bindL
    rw [bindL_out fun v hv => (List.nodup_cons.mp nd).1 (List.of_mem_zip hv).1, if_pos hk]
    simp
  | p :: P, w :: vs, i + 1, m, nd, h1, h2, hk => by
    show bindL kindOf ((p, w) :: P.zip vs) m x = _
    unfold bindL
    exact bindL_get (i := i) (List.nodup_cons.mp nd).2 (by simpa using h1) (by simpa using h2) hk
theorem bindC_get {kindOf : Str → Option NameKind} {x : Str} {v : Value} : ∀ {P : List Str} {vs : List Value} {i : Nat} {m : Str → Option Value}, P.Nodup → P[i]? = some x → vs[i]? = some v → kindOf x ≠ some .local →
    bindC kindOf (P.zip vs) m x = some v
  | [], _, _, _, _, h, _, _ => by simp at h
  | _ :: _, [], _, _, _, _, h, _ => by simp at h
  | p :: P, w :: vs, 0, m, nd, h1, h2, hk => by
    simp at h1 h2; subst h1; subst h2
    show bindC kindOf ((p, w) :: P.zip vs) m p = _
    unfold bindC
    rw [bindC_out fun v hv => (List.nodup_cons.mp nd).1 (List.of_mem_zip hv).1, if_neg hk]
    simp
  | p :: P, w :: vs, i + 1, m, nd, h1, h2, hk => by
    show bindC kindOf ((p, w) :: P.zip vs) m x = _
    unfold bindC
    exact bindC_get (i := i) (List.nodup_cons.mp nd).2 (by simpa using h1) (by simpa using h2) hk

noncomputable def start (N : List Str) (vs : List V) : St := vs.map some ++ List.replicate (N.length - vs.length) none

noncomputable def cxOf (CX : CXT) (P : Program) (w : World) (K : PySem.W.Frag) (mg : Str → Option Value) (base : Heap) (N : List Str) (qual : Str) (scope : Scope) (f : Addr) (cd : Value) (A : Around) (outer : List Env) (s : Shared) (H : Hp) (E : XK) : Cx where
  prog := P
  w := w
  K := K
  mg := mg
  base := base
  A := A.deeper (envOfC qual scope s.heap.objs.size f cd)
  N := N
  s₀ := s
  H₀ := H
  env := envOfC qual scope s.heap.objs.size f cd
  outer := outer
  stack := envOfC qual scope s.heap.objs.size f cd :: outer
  ex := []
  calm := true
  fn := fun _ => true
  pn := []
  xe := fun e s' => wpAny (model P w) (A.deeper (envOfC qual scope s.heap.objs.size f cd)) (leaving (envOfC qual scope s.heap.objs.size f cd) e) (fun _ s'' => CX outer H s E e s'') (fun e' s'' => CX outer H s E e' s'') s'

theorem cell_has {sc : Scope} {n : Nat} {x : Str} (h : sc.names.lookup x = some .cell) : ∃ c, (cellsFrom n sc.names []).lookup x = some c := by
  have q := PySem.W.cellsFrom_some sc.names n [] (.inl h)
  exact Option.isSome_iff_exists.mp q

theorem inv_start {CX : CXT} {P : Program} {w : World} {K : PySem.W.Frag} {mg : Str → Option Value} {base : Heap} {N ps : List Str} {qual : Str} {scope : Scope} {f : Addr} {cd : Value} {A : Around} {outer : List Env} {s s1 : Shared} {H : Hp} {E : XK} {us : List Value} {vs : List V}
    (S : FnScope N ps scope) (hd : A.handled = none) (e0 : Env0 P w K mg base A outer s H) (hl : vs.length = ps.length) (r : Vals vs us)
    (x : InCallC s s.heap.objs.size (bindL (envOfC qual scope s.heap.objs.size f cd).kindOf (ps.zip us) fun _ => none) (cellsFrom (s.heap.objs.size + 1) scope.names []) (bindC (envOfC qual scope s.heap.objs.size f cd).kindOf (ps.zip us) fun _ => none) s1) :
    Inv (cxOf CX P w K mg base N qual scope f cd A outer s H E) [] (start N vs) H s1 := by
  have hpl : ps.length ≤ N.length := by have := congrArg List.length S.pre; rw [List.length_take] at this; omega
  obtain ⟨h1, tk, rfl, hk⟩ := x.done
  have noA : ∀ b : Addr, b ∉ (cxOf CX P w K mg base N qual scope f cd A outer s H E).ex := fun b z => absurd (show b ∈ ([] : List Addr) from z) (by simp)
  refine ⟨⟨e0.mod, S.kind, rfl, rfl, Nat.le_refl _, fun y z c h1 h2 => ?_, fun y hy => ?_, fun y c _ h => ?_, fun _ => hd, Around.frames_deeper e0.frames, .inr ⟨rfl, rfl⟩, fun b z => absurd z (noA b), e0.bs, e0.bsz, fun b _ _ => noA b, fun b z => absurd z (noA b), e0.funs, e0.frf⟩,
    rfl, e0.bare, Un.kept hk, ⟨_, x.toInCall.ns, fun i y v h1 h2 h3 => ?_⟩, fun y c h => ⟨_, x.cell y c h⟩, e0.hok.fresh (Nat.le_refl _), fun y c h => ?_, fun p hp => absurd (show p ∈ ([] : List (Addr × Obj)) from hp) (by simp), e0.hok.kept hk, ?_⟩
  · exact name_of_addr x.apart (PySem.mem_of_lookup h1) (PySem.mem_of_lookup h2)
  · have hy : scope.names.lookup y = some .cell ∨ scope.names.lookup y = some .free := hy
    rcases hy with hy | hy
    · exact cell_has hy
    · exact absurd rfl (S.nofree _ (PySem.mem_of_lookup hy))
  · exact Nat.le_of_lt (x.above y c (PySem.mem_of_lookup h))
  · have hi : i < vs.length := by
      unfold start at h2
      by_cases hi : i < vs.length
      · exact hi
      · rw [List.getElem?_append_right (by simpa using hi)] at h2
        rw [List.getElem?_replicate] at h2
        split at h2 <;> cases h2
    have ha : vs[i]? = some v := by
      unfold start at h2
      rw [List.getElem?_append_left (by simpa using hi), List.getElem?_map] at h2
      cases e : vs[i]? with
      | none => rw [e] at h2; cases h2
      | some a => rw [e] at h2; cases h2; rfl
    obtain ⟨u, hu, rv⟩ := r.get ha
    have hp : ps[i]? = some y := by
      rw [← S.pre, List.getElem?_take_of_lt (by omega)]; exact h1
    have ndP : ps.Nodup := by rw [← S.pre]; exact S.nd.sublist (List.take_sublist _ _)
    refine ⟨u, rv, ?_⟩
    rcases S.par y (List.mem_of_getElem? hp) with k | k
    · exact .inl ⟨k, bindL_get ndP hp hu k⟩
    · obtain ⟨c, e⟩ := cell_has (n := s.heap.objs.size + 1) k
      refine .inr ⟨.inl k, c, e, ?_⟩
      have q := x.cell y c e
      rw [bindC_get ndP hp hu (by show scope.names.lookup y ≠ _; rw [k]; decide)] at q
      exact q
  · exact e0.hok.fresh (Nat.le_of_lt (x.above y c (PySem.mem_of_lookup h)))
  · unfold start
    show _ = N.length
    rw [List.length_append, List.length_map, List.length_replicate]
    omega

theorem fn_of {CX : CXT} {P : Program} {w : World} {K : PySem.W.Frag} {mg : Str → Option Value} {base : Heap} {k : Nat} {f : Addr} {name qual : Str} {params : Arguments} {body : List Stmt} {scope : Scope} {dV kV doc pm cdv ct oc : Value} {an od : Option Addr}
    {osl : Array (Option Value)} {N ps : List Str} {sp : Sp} (lk : K.lookup f = some ⟨oc, od, .func (PySem.W.fnOf name qual params body scope dV kV doc pm an cdv ct), osl⟩) (hcd : PySem.W.codeIn K cdv qual = true) (S : FnScope N ps scope)
    (len : ∀ vs H Q E, sp vs H Q E → vs.length = ps.length)
    (hbody : ∀ (A : Around) (outer : List Env) (s : Shared) (H : Hp) (vs : List V) (Q : VK) (E : XK), Room k (A.deeper (envOfC qual scope s.heap.objs.size f cdv)) → sp vs H Q E →
      ∃ t, PSs (cxOf CX P w K mg base N qual scope f cdv A outer s H E) body t ∧ t { nx := fun _ H' => Q .non H', rt := Q } (start N vs) H) :
    FnOk P w K mg base CX (k + 1) f (PySem.W.fnOf name qual params body scope dV kV doc pm an cdv ct) ps sp := by
  refine ⟨len, fun A outer s H args us vs Q E hr e0 hb r hsp => ?_⟩
  have hl := len _ _ _ _ hsp
  have KX : K.In s.heap := e0.mod.kin.keeps fun b o e => (e0.bs b o e).1
  have lim : s.heap.NoLimit := e0.mod.nolimit.keeps fun b o e => (e0.bs b o e).1
  have hkind : ∀ y ∈ ps.zip us, scope.names.lookup y.1 = some .local ∨ (scope.names.lookup y.1 = some .cell ∧ ((cellsFrom (s.heap.objs.size + 1) scope.names []).lookup y.1).isSome = true) := fun ⟨n, v⟩ hy => by
    rcases S.par n (List.of_mem_zip hy).1 with q | q
    · exact .inl q
    · exact .inr ⟨q, PySem.W.cellsFrom_some _ _ _ (.inl q)⟩
  refine codeAny_call_function hr.depth (KX _ _ lk) rfl S.co S.gen rfl (PySem.W.codeRec_of KX hcd) (hb _ _ _ _ ?_)
  refine wpAny_newFunctionEnv_cells S.kind hkind fun env he s1 x => ?_
  subst he
  refine ⟨lim.keeps x.toInCall.keep, codeAny_func ?_⟩
  obtain ⟨t, ht, hq⟩ := hbody A outer s H vs Q E (hr.deeper _) hsp
  have I : Inv (cxOf CX P w K mg base N qual scope f cdv A outer s H E) [] (start N vs) H s1 := inv_start S hr.hd e0 hl r x
  refine wpAny_mono (ht [] s1 (start N vs) H _ I hq) (fun fl s' hs => ?_) fun e s' hs => hs
  have fin : ∀ {σ' : St} {H' : Hp} {v : V} {u : Value}, Inv (cxOf CX P w K mg base N qual scope f cdv A outer s H E) [] σ' H' s' → RelV v u → Q v H' → CE outer P w H s Q u s' :=
    fun {σ' H' v u} J rv q => ⟨v, H', J.os, J.bare, J.base, J.hok, rv, q⟩
  cases fl with
  | ret u =>
    obtain ⟨v, σ', H', J, rv, q⟩ := hs
    exact fin J rv q
  | next =>
    obtain ⟨σ', H', J, q⟩ := hs
    exact fin (v := V.non) (u := Value.none) J rfl q
  | brk =>
    obtain ⟨_, _, _, q⟩ := hs
    exact False.elim q
  | cont =>
    obtain ⟨_, _, _, q⟩ := hs
    exact False.elim q
end L2

namespace L2
open PySem PySem.Spec PyProof.Rows
section
variable {X : Cx} {x : Str} {p pos : Pos} {e : Expr} {es : List Expr} {t : TA} {id T : String} {r : List V → Hp → VK → Prop}

noncomputable def tCB (r : List V → Hp → VK → Prop) (t : TA) : TE := fun σ H Q => t σ H fun vs H1 => r vs H1 Q
theorem pe_callB (hc : CallR X (.builtin id) r) (hg : Gl X x) (hm : X.mg x = none) (hv : bootBuiltins x = some (.builtin id)) (ha : PA X (e :: es) t) (hn : x ≠ "__name__" := by decide) (hdb : (x == ("__debug__" : Str)) = false := by decide)
    (he : starEach (e :: es) X.env = (false, eval e X.env) :: starEach es X.env := by rfl) (hpl : (backTo pos (starEach es X.env)).any (·.1) = false := by rfl) : PE X (.Call (.Name x p) (e :: es) [] pos) (tCB r t) := by
  intro pins s σ H Q I h
  refine wpAny_Call_Name_kw (ld_blt I hg hm hv ?_ hn hdb)
  exact PyProof.Rows.callWith_builtin1 (thn (ha pos pins s σ H _ I h) fun us s1 ⟨vs, H1, I1, r1, q1⟩ => hc pins s1 σ H1 vs us Q I1 r1 q1) he hpl
theorem pe_callTy (hc : CallR X (.type T) r) (hg : Gl X x) (hm : X.mg x = none) (hv : bootBuiltins x = some (.type T)) (ha : PA X (e :: es) t) (hn : x ≠ "__name__" := by decide) (hdb : (x == ("__debug__" : Str)) = false := by decide)
    (he : starEach (e :: es) X.env = (false, eval e X.env) :: starEach es X.env := by rfl) (hpl : (backTo pos (starEach es X.env)).any (·.1) = false := by rfl) : PE X (.Call (.Name x p) (e :: es) [] pos) (tCB r t) := by
  intro pins s σ H Q I h
  refine wpAny_Call_Name_kw (ld_blt I hg hm hv ?_ hn hdb)
  exact PyProof.Rows.callWith_type1 (thn (ha pos pins s σ H _ I h) fun us s1 ⟨vs, H1, I1, r1, q1⟩ => hc pins s1 σ H1 vs us Q I1 r1 q1) he hpl
end
end L2

namespace HT
open PySem PyProof.Rows

section
open PySem.SeqAt
open PySem.AutoSeq1 (wpAny_loadPart')
open PySem.MeetsSeq PySem.MeetsSeq2 PySem.MeetsSeq3

end

section
variable {prog : Program} {w : World} {A : Around} {E : Value → Shared → Prop} {s : Shared}

theorem cat_tup {t b : Addr} {vs ws : List Value} {Q : Value → Shared → Prop} (ht : IsTup s.heap t vs.toArray) (hb : IsTup s.heap b ws.toArray) (hv : vs ≠ [])
    (h1 : ws = [] → Q (.ref t) s) (h2 : ws ≠ [] → Q (.ref s.heap.objs.size) { s with heap := s.heap.push { cls := .type "tuple", data := .seq (vs ++ ws).toArray } })
    (hsz : vs.length + ws.length ≤ sizeLine) : wpAny (model prog w) A (binaryOp .Add (.ref t) (.ref b)) Q E s := by
  obtain ⟨⟨cls, dd, data, sl⟩, ho, hc, n, hd⟩ := id ht
  obtain ⟨⟨cls2, dd2, data2, sl2⟩, ho2, hc2, n2, hd2⟩ := id hb
  simp only at hc hd hc2 hd2
  subst hc hd hc2 hd2
  have e : vs.toArray ++ ws.toArray = (vs ++ ws).toArray := by simp
  by_cases hw : ws = []
  · exact concat_meets ⟨_, ho, rfl⟩ ⟨_, ho2, rfl⟩ noFill_tuple_add seq_tuple_add PySem.F.slot_tuple_add PySem.F.entry_tuple_add (PySem.F.args_tuple_add_2 _ _)
      (tuple_addW1 t b vs.toArray ws.toArray n n2 dd dd2 sl sl2 (by simpa using hv) (by simp [hw])) ⟨ho, ho2, h1 hw⟩
  · refine concat_meets ⟨_, ho, rfl⟩ ⟨_, ho2, rfl⟩ noFill_tuple_add seq_tuple_add PySem.F.slot_tuple_add PySem.F.entry_tuple_add (PySem.F.args_tuple_add_2 _ _)
      (tuple_addW2 t b vs.toArray ws.toArray n n2 dd dd2 sl sl2 (by simpa using hv) (by simpa using hw) (by rw [List.size_toArray, List.size_toArray]; exact hsz)) ⟨ho, ho2, ?_⟩
    rw [e]
    exact h2 hw

noncomputable def sIx (n d : Nat) : Option Int → Nat
  | none => d
  | some v => if v < 0 then (v + (n : Int)).toNat else min v.toNat n
theorem sIx_nat (n d k : Nat) : sIx n d (some (k : Int)) = min k n := by
  show (if (k : Int) < 0 then ((k : Int) + (n : Int)).toNat else min (k : Int).toNat n) = min k n
  rw [if_neg (by omega), Int.toNat_natCast]
theorem sIx_le (n d : Nat) (hd : d ≤ n) (o : Option Int) : sIx n d o ≤ n := by
  cases o with
  | none => exact hd
  | some v =>
    show (if v < 0 then (v + (n : Int)).toNat else min v.toNat n) ≤ n
    by_cases hv : v < 0
    · rw [if_pos hv]; omega
    · rw [if_neg hv]; exact Nat.min_le_right _ _
theorem clip_eq (v : Int) (n d : Nat) : (if v < 0 then max (v + (n : Int)) 0 else min v (n : Int)) = ((sIx n d (some v) : Nat) : Int) := by
  show (if v < 0 then max (v + (n : Int)) 0 else min v (n : Int)) = (((if v < 0 then (v + (n : Int)).toNat else min v.toNat n) : Nat) : Int)
  by_cases hv : v < 0
  · simp only [if_pos hv]; omega
  · simp only [if_neg hv]; omega
theorem adjust_gen (lo hi : Option Int) (n : Nat) : Builtin.Slice.sliceAdjust lo hi 1 (n : Int) = (((sIx n 0 lo : Nat) : Int), ((sIx n n hi : Nat) : Int)) := by
  have h1 : ¬ ((1 : Int) < 0) := by omega
  unfold Builtin.Slice.sliceAdjust
  simp only [h1, if_false]
  refine Prod.ext ?_ ?_
  · cases lo with
    | none => rfl
    | some v => exact clip_eq v n 0
  · cases hi with
    | none => rfl
    | some v => exact clip_eq v n n
theorem places_gen (i j : Nat) : Builtin.Slice.slicePlaces (i : Int) (j : Int) 1 = j - i := by
  unfold Builtin.Slice.slicePlaces
  have h1 : (1 : Int) > 0 := by omega
  simp only [h1, if_true, Int.ediv_one]
  split <;> omega
theorem slicePart_ {v : Value} {o : Option Int} {Q : Option Int → Shared → Prop} (p : IsPart v o) (h : Q o s) : wpAny (model prog w) A (Builtin.Slice.slicePartIndex v) Q E s := by
  cases p with
  | none => exact slicePart_none h
  | int i t => exact slicePart_int h
theorem sliceApplied_gen {sl : Addr} {vl vu : Value} {lo hi : Option Int} {n : Nat} {Q : Int × Int × Nat → Shared → Prop} (hs : s.heap.IsSliceOf sl vl vu .none) (pl : IsPart vl lo) (pu : IsPart vu hi)
    (h : Q (((sIx n 0 lo : Nat) : Int), 1, sIx n n hi - sIx n 0 lo) s) : wpAny (model prog w) A (Builtin.Slice.sliceApplied (.ref sl) (pure (n : Int))) Q E s := by
  obtain ⟨os, hos, hcs, hds⟩ := id hs
  unfold Builtin.Slice.sliceApplied Builtin.Slice.sliceFields
  refine wpAny_bind (wpAny_bind (wpAny_field hos hds (x := vl) rfl (wpAny_bind (wpAny_field hos hds (x := vu) rfl (wpAny_bind (wpAny_field hos hds (x := .none) rfl (wpAny_pure ?_)))))))
  refine wpAny_bind (slicePart_none ?_)
  show wpAny _ _ (if ((1 : Int) == 0) = true then _ else _) _ _ s
  rw [if_neg (by decide)]
  refine wpAny_bind (slicePart_ pl (wpAny_bind (slicePart_ pu (wpAny_bind (wpAny_pure ?_)))))
  show wpAny _ _ (match Builtin.Slice.sliceAdjust lo hi 1 (n : Int) with | (lo, hi) => pure (lo, (1 : Int), Builtin.Slice.slicePlaces lo hi 1)) _ _ s
  rw [adjust_gen lo hi n]
  show wpAny _ _ (pure (((sIx n 0 lo : Nat) : Int), (1 : Int), Builtin.Slice.slicePlaces ((sIx n 0 lo : Nat) : Int) ((sIx n n hi : Nat) : Int) 1)) _ _ s
  rw [places_gen]
  exact wpAny_pure h
theorem pick_gen (xs : Array Value) (i k : Nat) : ((List.range k).filterMap fun (m : Nat) => xs[((i : Int) + (m : Int) * 1).toNat]?).toArray = ((xs.toList.drop i).take k).toArray := by
  have e : (fun (m : Nat) => xs[((i : Int) + (m : Int) * 1).toNat]?) = fun m => xs[i + m]? := by
    funext m
    have : ((i : Int) + (m : Int) * 1).toNat = i + m := by omega
    rw [this]
  rw [e]
  have := pick_run xs i k
  rw [List.filterMap_map] at this
  have e2 : ((fun x => xs[x]?) ∘ fun x => i + x) = fun m => xs[i + m]? := rfl
  rw [e2] at this
  rw [this]

theorem getItem_tuple_cut {t sl : Addr} {items : Array Value} {vl vu : Value} {lo hi : Option Int} {Q : Value → Shared → Prop} (ht : IsTup s.heap t items) (hs : s.heap.IsSliceOf sl vl vu .none) (pl : IsPart vl lo) (pu : IsPart vu hi)
    (hw : ¬ (sIx items.size 0 lo = 0 ∧ sIx items.size items.size hi = items.size))
    (h : Q (.ref s.heap.objs.size) { s with heap := s.heap.push { cls := .type "tuple", data := .seq ((items.toList.drop (sIx items.size 0 lo)).take (sIx items.size items.size hi - sIx items.size 0 lo)).toArray } })
    (hsz : items.size ≤ sizeLine) : wpAny (model prog w) A (getItem (.ref t) (.ref sl)) Q E s := by
  have htake : sizeOk (.seq ((items.toList.drop (sIx items.size 0 lo)).take (sIx items.size items.size hi - sIx items.size 0 lo)).toArray) := by
    show ((items.toList.drop (sIx items.size 0 lo)).take (sIx items.size items.size hi - sIx items.size 0 lo)).toArray.size ≤ sizeLine
    rw [List.size_toArray, List.length_take, List.length_drop, Array.length_toList]
    omega
  have hj : sIx items.size items.size hi ≤ items.size := sIx_le _ _ (Nat.le_refl _) hi
  obtain ⟨os, hos, hcs, hds⟩ := id hs
  have hTs : s.TypeIs (.ref sl) "slice" := ⟨os, hos, hcs⟩
  unfold getItem
  try with_reducible refine wpAny_holding ?_
  first | refine wpAny_bind (wpAny_pure ?_) | skip
  refine wpAny_bind (wpAny_sequenceKey ht.typeIs (by decide) ?_)
  refine wpAny_bind (wpAny_callSpecial?_slot (name := Str.ofString "__getitem__") ht.typeIs PyProof.Rows.slot_tuple_getitem
    (wpAny_call_entry PyProof.Rows.slot_tuple_getitem ht.typeIs entry_tuple_getitem ?_ (args_tuple_getitem _ _)))
  show wpAny _ _ (Builtin.Tuple.tupleItemsOf (.ref t) >>= _) _ _ s
  refine wpAny_bind (tupleItemsOf_ ht ?_)
  refine wpAny_bind (wpAny_typeOf hTs ?_)
  rw [if_pos (by decide)]
  refine wpAny_bind (sliceApplied_gen hs pl pu ?_)
  have hno : ¬ ((((sIx items.size 0 lo : Nat) : Int) == 0 && (1 : Int) == 1 && (sIx items.size items.size hi - sIx items.size 0 lo) == items.size) = true) := by
    intro q
    rw [Bool.and_eq_true, Bool.and_eq_true] at q
    have q1 : ((sIx items.size 0 lo : Nat) : Int) = 0 := eq_of_beq q.1.1
    have q2 : sIx items.size items.size hi - sIx items.size 0 lo = items.size := eq_of_beq q.2
    exact hw ⟨by omega, by omega⟩
  show wpAny _ _ (if (((sIx items.size 0 lo : Nat) : Int) == 0 && (1 : Int) == 1 && (sIx items.size items.size hi - sIx items.size 0 lo) == items.size) = true then _ else _) _ _ s
  rw [if_neg hno, pick_gen]
  first
    | exact wpAny_bind (m := Builtin.Tuple.tupleExact _) (wpAny_newObj_type (wpAny_pure ⟨_, rfl, wpAny_pure h⟩) htake)
    | exact wpAny_bind (m := Builtin.Tuple.tupleExact _) (wpAny_newObj_type (wpAny_bind (wpAny_pure (wpAny_pure ⟨_, rfl, wpAny_pure h⟩))) htake)
    | exact wpAny_bind (wpAny_bind (m := Builtin.Tuple.tupleExact _) (wpAny_newObj_type (wpAny_pure (wpAny_pure ⟨_, rfl, wpAny_pure h⟩)) htake))
    | exact wpAny_bind (wpAny_bind (m := Builtin.Tuple.tupleExact _) (wpAny_newObj_type (wpAny_pure ⟨_, rfl, wpAny_pure h⟩) htake))
end
end HT

namespace L2
open PySem PySem.Spec PyProof.Rows

noncomputable abbrev TO := St → Hp → (Option Int → Hp → Prop) → Prop
noncomputable def PO (X : Cx) (e : Option Expr) (t : TO) : Prop :=
  ∀ (pins : List (Addr × Obj)) (s : Shared) (σ : St) (H : Hp) (Q : Option Int → Hp → Prop), Inv X pins σ H s → t σ H Q →
    wpAny (model X.prog X.w) X.A (evalPart e X.env) (fun u s' => ∃ o H', Inv X pins σ H' s' ∧ IsPart u o ∧ Q o H') X.xe s
noncomputable def tNoPart : TO := fun _ H Q => Q none H
noncomputable def tPart (t : TE) : TO := fun σ H Q => t σ H fun x H1 => ∃ i, x = .int i ∧ Q (some i) H1

theorem intsAre_of {ns : List Int} : ∀ {us : List Value}, Vals (ns.map V.int) us → IntsAre us ns := by
  induction ns with
  | nil => intro us r; rw [List.map_nil] at r; cases r; exact .nil
  | cons n ns ih =>
    intro us r
    rw [List.map_cons] at r
    cases r with
    | cons r1 r2 =>
      obtain ⟨t, e⟩ := r1
      subst e
      exact .cons n t (ih r2)

section
variable {X : Cx} {e : Expr} {te : TE} {lo hi : Option Expr} {tl th : TO} {pos p2 : Pos}

theorem po_none : PO X none tNoPart := by
  intro pins s σ H Q I h
  rw [evalPart_none]
  exact wpAny_pure ⟨none, H, I, .none, h⟩
theorem po_some (h : PE X e te) : PO X (some e) (tPart te) := by
  intro pins s σ H Q I hw
  rw [evalPart_some]
  refine thn (h pins s σ H _ I hw) fun u s1 ⟨x, H1, I1, r1, q1⟩ => ?_
  obtain ⟨i, rfl, q⟩ := q1
  obtain ⟨t, rfl⟩ := r1
  exact ⟨some i, H1, I1, .int i t, q⟩

noncomputable def SlR (X : Cx) (r : V → Option Int → Option Int → Hp → VK → Prop) : Prop :=
  ∀ (pins : List (Addr × Obj)) (s : Shared) (σ : St) (H : Hp) (x : V) (v vl vu : Value) (lo hi : Option Int) (sl : Addr) (Q : VK), Inv X pins σ H s → RelV x v → s.heap.IsSliceOf sl vl vu .none → IsPart vl lo → IsPart vu hi → r x lo hi H Q →
    ∃ T id, typeLookup (.type T) "__getitem__" = pure (some (.builtin id)) ∧ s.TypeIs v T ∧ wpAny (model X.prog X.w) X.A (getItem v (.ref sl)) (EP X pins σ Q) X.xe s
noncomputable def tSl (r : V → Option Int → Option Int → Hp → VK → Prop) (te : TE) (tl th : TO) : TE := fun σ H Q => te σ H fun x H1 => tl σ H1 fun l H2 => th σ H2 fun u H3 => r x l u H3 Q
theorem pe_slice {r : V → Option Int → Option Int → Hp → VK → Prop} (hr : SlR X r) (he : PE X e te) (hl : PO X lo tl) (hu : PO X hi th) : PE X (.Subscript e (.Slice lo hi none p2) pos) (tSl r te tl th) := by
  intro pins s σ H Q I h
  refine Subscript_ (thn (he pins s σ H _ I h) fun v s1 ⟨x, H1, I1, r1, q1⟩ => ?_)
  refine wpAny_Slice (thn (hl pins s1 σ H1 _ I1 q1) fun vl s2 ⟨l, H2, I2, pl, q2⟩ => thn (hu pins s2 σ H2 _ I2 q2) fun vu s3 ⟨u, H3, I3, pu, q3⟩ => ?_)
  rw [evalPart_none]
  refine wpAny_pure ?_
  have I4 : Inv X pins σ H3 { s3 with heap := s3.heap.push { cls := .type "slice", data := .fields #[vl, vu, .none] } } := I3.kept (t' := s3.toks) fun b ob q => Heap.get?_push_of_some _ q
  obtain ⟨T, id, hT, ht, hg⟩ := hr pins { s3 with heap := s3.heap.push { cls := .type "slice", data := .fields #[vl, vu, .none] } } σ H3 x v vl vu l u s3.heap.objs.size Q I4 r1 (Heap.IsSliceOf.new ..) pl pu q3
  show wpAny (model X.prog X.w) X.A (subscriptTail e (.Slice lo hi none p2) v (.ref s3.heap.objs.size)) (EP X pins σ Q) X.xe { s3 with heap := s3.heap.push { cls := .type "slice", data := .fields #[vl, vu, .none] } }
  exact tail_any (ops := [.ref s3.heap.objs.size, v]) ht hT hg (by with_unfolding_all rfl)

noncomputable def cutV (xs : List V) (lo hi : Option Int) : List V := (xs.drop (HT.sIx xs.length 0 lo)).take (HT.sIx xs.length xs.length hi - HT.sIx xs.length 0 lo)
theorem cutV_length (xs : List V) (lo hi : Option Int) : (cutV xs lo hi).length ≤ xs.length := by
  unfold cutV
  rw [List.length_take, List.length_drop]
  omega
noncomputable def rSlT (K : PySem.W.Frag) : V → Option Int → Option Int → Hp → VK → Prop := fun x lo hi H Q => ∃ a xs, x = .ref a ∧ SqT K H a xs ∧
  ¬ (HT.sIx xs.length 0 lo = 0 ∧ HT.sIx xs.length xs.length hi = xs.length) ∧ ∀ p, H p = none → Q (.ref p) (upd H p (.tup (cutV xs lo hi)))
theorem sl_tup : SlR X (rSlT X.K) := by
  intro pins s σ H x v vl vu lo hi sl Q I rx hs pl pu h
  obtain ⟨a, xs, rfl, hx, hw, q⟩ := h
  cases rx
  obtain ⟨its, r, ht, hz⟩ := I.tuple hx
  have hlen : its.toArray.size = xs.length := by rw [List.size_toArray]; exact r.length.symm
  refine ⟨"tuple", _, PyProof.Rows.slot_tuple_getitem.lookup, ht.typeIs, ?_⟩
  refine HT.getItem_tuple_cut ht hs pl pu (by rw [hlen]; exact hw) ?_ (by rw [hlen]; exact hz)
  rw [hlen]
  refine ⟨.ref s.heap.objs.size, _, I.laid (t' := s.toks) (o := .tup (cutV xs lo hi)) (fun b ob q => Heap.get?_push_of_some _ q) (Nat.le_refl _) ?_, rfl, q _ (I.hok.fresh (Nat.le_refl _))⟩
  exact ⟨Nat.le_trans (cutV_length xs lo hi) hz, _, (r.drop (HT.sIx xs.length 0 lo)).take (HT.sIx xs.length xs.length hi - HT.sIx xs.length 0 lo), IsTup.new _ _, _, Heap.get?_push_size _ rfl, rfl⟩

noncomputable def rCatT (K : PySem.W.Frag) : R2 := fun x y H Q => ∃ a b xs ys, x = .ref a ∧ y = .ref b ∧ SqT K H a xs ∧ SqT K H b ys ∧ xs ≠ [] ∧ xs.length + ys.length ≤ sizeLine ∧
  (ys = [] → Q (.ref a) H) ∧ (ys ≠ [] → ∀ p, H p = none → Q (.ref p) (upd H p (.tup (xs ++ ys))))
theorem Vals.nil_iff {xs : List V} {us : List Value} (r : Vals xs us) : us = [] ↔ xs = [] := by
  cases r with
  | nil => simp
  | cons _ _ => simp
theorem op_catT : OpR X (binaryOp .Add) (rCatT X.K) := by
  intro pins s σ H x y v u Q I rx ry h
  obtain ⟨a, b, xs, ys, rfl, rfl, ha, hb, hx, hz, q1, q2⟩ := h
  cases rx
  cases ry
  obtain ⟨its, r1, p1, _⟩ := I.tuple ha
  obtain ⟨its2, r2, p2, _⟩ := I.tuple hb
  refine HT.cat_tup p1 p2 (fun z => hx (r1.nil_iff.mp z)) (fun z => ⟨.ref a, H, I, rfl, q1 (r2.nil_iff.mp z)⟩) (fun z => ?_) (by rw [← r1.length, ← r2.length]; exact hz)
  refine ⟨.ref s.heap.objs.size, _, I.laid (t' := s.toks) (o := .tup (xs ++ ys)) (fun b ob q => Heap.get?_push_of_some _ q) (Nat.le_refl _) ?_, rfl, q2 (fun w => z (r2.nil_iff.mpr w)) _ (I.hok.fresh (Nat.le_refl _))⟩
  exact ⟨by rw [List.length_append]; exact hz, _, r1.append r2, IsTup.new _ _, _, Heap.get?_push_size _ rfl, rfl⟩
end
end L2

namespace L2
open PySem PySem.Spec PyProof.Rows

noncomputable def ixN (n : Nat) (i : Int) : Option Nat := if 0 ≤ i then (if i < n then some i.toNat else none) else if -(n : Int) ≤ i then some (i + n).toNat else none
noncomputable def atI {α : Type} (xs : List α) (i : Int) : Option α := (ixN xs.length i).bind fun j => xs[j]?
theorem ixN_seq {n : Nat} {i : Int} {j : Nat} (h : ixN n i = some j) : seqIndex? i n = some j ∧ j < n ∧ -(n : Int) ≤ i ∧ i < n := by
  unfold ixN at h
  by_cases h0 : 0 ≤ i
  · rw [if_pos h0] at h
    by_cases h1 : i < n
    · rw [if_pos h1] at h
      have e : i.toNat = j := Option.some.inj h
      exact ⟨by rw [seqIndex_of h0 h1, e], by omega, by omega, h1⟩
    · rw [if_neg h1] at h; cases h
  · rw [if_neg h0] at h
    by_cases h1 : -(n : Int) ≤ i
    · rw [if_pos h1] at h
      have e : (i + n).toNat = j := Option.some.inj h
      exact ⟨by rw [seqIndex_neg (by omega) h1, e], by omega, h1, by omega⟩
    · rw [if_neg h1] at h; cases h
theorem atI_get {α : Type} {xs : List α} {i : Int} {v : α} (h : atI xs i = some v) : ∃ j, seqIndex? i xs.length = some j ∧ xs[j]? = some v ∧ j < xs.length ∧ -(xs.length : Int) ≤ i ∧ i < xs.length := by
  unfold atI at h
  cases e : ixN xs.length i with
  | none => rw [e] at h; cases h
  | some j =>
    rw [e] at h
    obtain ⟨h1, h2, h3, h4⟩ := ixN_seq e
    exact ⟨j, h1, h, h2, h3, h4⟩
theorem atI_nat {α : Type} {xs : List α} {j : Nat} {v : α} (h : xs[j]? = some v) : atI xs (j : Int) = some v := by
  have hj : j < xs.length := (List.getElem?_eq_some_iff.mp h).1
  have e : ixN xs.length (j : Int) = some j := by
    unfold ixN
    rw [if_pos (by omega), if_pos (by omega)]; simp
  unfold atI; rw [e]; exact h
noncomputable def PlainIx (b : Expr) : Prop := ∀ o i, subscripted b false o i = operate [o, i] (getItem o i)
noncomputable def IxR (X : Cx) (r : R2) : Prop :=
  ∀ (value slice : Expr) (pins : List (Addr × Obj)) (s : Shared) (σ : St) (H : Hp) (x y : V) (v u : Value) (Q : VK), Inv X pins σ H s → RelV x v → RelV y u → r x y H Q →
    subscripted slice false v u = operate [v, u] (getItem v u) → wpAny (model X.prog X.w) X.A (subscriptTail value slice v u) (EP X pins σ Q) X.xe s
noncomputable def MtR (X : Cx) (id : String) (r : V → List V → Hp → VK → Prop) : Prop :=
  ∀ (pins : List (Addr × Obj)) (s : Shared) (σ : St) (H : Hp) (x : V) (xs : List V) (v : Value) (us : List Value) (Q : VK), Inv X pins σ H s → RelV x v → Vals xs us → r x xs H Q →
    wpAny (model X.prog X.w) X.A (call (.builtin id) (v :: us)) (EP X pins σ Q) X.xe s
section
variable {X : Cx} {a b : Expr} {ta tb : TE} {pos : Pos}
theorem pe_ix {r : R2} (hr : IxR X r) (ha : PE X a ta) (hb : PE X b tb) (hs : PlainIx b) : PE X (.Subscript a b pos) (tOp r ta tb) := by
  intro pins s σ H Q I h
  exact Subscript_ (binT ha hb I h fun v u s2 x y H2 I2 rx ry q => hr a b pins s2 σ H2 x y v u Q I2 rx ry q (hs _ _))

inductive IxLR (K : PySem.W.Frag) (x y : V) (H : Hp) (Q : VK) : Prop
  | mk (p : Addr) (xs : List V) (i : Int) (v : V) (a : x = .ref p) (b : y = .int i) (c : SqL K H p xs) (d : atI xs i = some v) (q : Q v H) : IxLR K x y H Q
inductive IxTR (K : PySem.W.Frag) (x y : V) (H : Hp) (Q : VK) : Prop
  | mk (p : Addr) (xs : List V) (i : Int) (v : V) (a : x = .ref p) (b : y = .int i) (c : SqT K H p xs) (d : atI xs i = some v) (q : Q v H) : IxTR K x y H Q
noncomputable def rIxL (K : PySem.W.Frag) : R2 := fun x y H Q => IxLR K x y H Q
noncomputable def rIxT (K : PySem.W.Frag) : R2 := fun x y H Q => IxTR K x y H Q
noncomputable def rIxS : R2 := fun x y H Q => ∃ z i c, x = .str z ∧ y = .int i ∧ z.length ≤ sizeLine ∧ atI z.cps.toList i = some c ∧ Q (.str ⟨#[c]⟩) H
theorem ix_list : IxR X (rIxL X.K) := by
  intro value slice pins s σ H x y v u Q I rx ry h hs
  obtain ⟨p, xs, i, z, rfl, rfl, hq, he, q⟩ := h
  cases rx
  obtain ⟨t, rfl⟩ := ry
  obtain ⟨its, r, pl, hz⟩ := I.list hq
  obtain ⟨j, h1, h2, h3, h4, h5⟩ := atI_get he
  obtain ⟨w, ew, rw'⟩ := r.get h2
  have hl := r.length
  have hn := line63
  have fin : EP X pins σ Q w s := ⟨z, H, I, rw', q⟩
  by_cases h0 : 0 ≤ i
  · have hj : i.toNat = j := by
      rw [seqIndex_of h0 h5] at h1
      exact Option.some.inj h1
    exact item_listR pl.isList h0 (by omega) (by rw [hj]; simpa using ew) fin hs
  · have hj : (i + (its.toArray.size : Int)).toNat = j := by
      rw [seqIndex_neg (by omega) h4] at h1
      rw [List.size_toArray, ← hl]
      exact Option.some.inj h1
    exact subscriptTail_builtinR (x := w) pl.isList.typeIs slot_list_getitem.lookup
      (wpAny_getItem_list_neg (Q := fun r s' => r = w ∧ EP X pins σ Q r s') pl.isList (by omega) (by rw [List.size_toArray] <;> omega) (by omega) (by rw [hj]; simpa using ew) ⟨rfl, fin⟩) hs
theorem ix_tup : IxR X (rIxT X.K) := by
  intro value slice pins s σ H x y v u Q I rx ry h hs
  obtain ⟨p, xs, i, z, rfl, rfl, hq, he, q⟩ := h
  cases rx
  obtain ⟨t, rfl⟩ := ry
  obtain ⟨its, r, pl, hz⟩ := I.tuple hq
  obtain ⟨j, h1, h2, h3, h4, h5⟩ := atI_get he
  obtain ⟨w, ew, rw'⟩ := r.get h2
  have hl := r.length
  have hn := line63
  have fin : EP X pins σ Q w s := ⟨z, H, I, rw', q⟩
  exact subscriptTail_builtinR (x := w) pl.typeIs slot_tuple_getitem.lookup
    (getItem_tuple (j := j) (Q := fun r s' => r = w ∧ EP X pins σ Q r s') pl (by omega) (by omega) (by rw [List.size_toArray, ← hl]; exact h1) (by simpa using ew) ⟨rfl, fin⟩) hs
theorem ix_str : IxR X rIxS := by
  intro value slice pins s σ H x y v u Q I rx ry h hs
  obtain ⟨z, i, c, rfl, rfl, hz, he, q⟩ := h
  obtain ⟨t, rfl⟩ := rx
  obtain ⟨t', rfl⟩ := ry
  obtain ⟨j, h1, h2, h3, h4, h5⟩ := atI_get he
  have hl : z.cps.toList.length = z.length := by simp [Str.length]
  rw [hl] at h1 h4 h5
  have hn := line63
  exact tail_any (typeIs_str s z t) slot_str_getitem.lookup (getItem_str (c := c) (by
    have e1 : decide (i < -(2 ^ 63 : Int)) = false := decide_eq_false (by omega)
    have e2 : decide (i ≥ 2 ^ 63) = false := decide_eq_false (by omega)
    rw [e1, e2, Bool.or_false]) (by rw [h1]; simpa using h2) ⟨.str ⟨#[c]⟩, H, I.tok _, ⟨_, rfl⟩, q⟩) hs
theorem mapSeq_set (its : List Value) (n j : Nat) (u : Value) : Obj.mapSeq (·.setIfInBounds j u) { cls := .type "list", data := .seq its.toArray n } = { cls := .type "list", data := .seq (its.set j u).toArray n } := by
  simp [Obj.mapSeq]
theorem Inv.lst {pins : List (Addr × Obj)} {σ : St} {H : Hp} {s : Shared} {p : Addr} {xs : List V} (I : Inv X pins σ H s) (h : H p = some (.lst xs)) :
    ∃ (its : List Value) (n : Nat), Vals xs its ∧ s.heap.get? p = some { cls := .type "list", data := .seq its.toArray n } ∧ xs.length ≤ sizeLine := by
  obtain ⟨z, its, n, r, e⟩ := I.hok p _ h
  exact ⟨its, n, r, e, z⟩
theorem Inv.lstUpd {pins : List (Addr × Obj)} {σ : St} {H : Hp} {s : Shared} {p : Addr} {xs ys : List V} {its its' : List Value} {n n' : Nat} {f : Obj → Obj} (I : Inv X pins σ H s) (h : H p = some (.lst xs))
    (ho : s.heap.get? p = some { cls := .type "list", data := .seq its.toArray n }) (hf : f { cls := .type "list", data := .seq its.toArray n } = { cls := .type "list", data := .seq its'.toArray n' }) (r : Vals ys its') (hz : ys.length ≤ sizeLine) (t : Nat) :
    Inv X pins σ (upd H p (.lst ys)) { s with heap := s.heap.update p f, toks := t } := by
  have e : (s.heap.update p f).get? p = some { cls := .type "list", data := .seq its'.toArray n' } := by
    rw [Heap.get?_update_self f ho (by rw [hf] <;> rfl), hf]
  refine I.write (x := p) (e := p) (by rw [h]; trivial) (.inl rfl) (fun b u hb q => (Heap.get?_update_other _ _ (Ne.symm hb)).trans q) ⟨_, e⟩ ?_
  exact ⟨hz, its', n', r, e⟩
inductive SetLR (o i v : V) (H : Hp) (Q : Hp → Prop) : Prop
  | mk (p : Addr) (xs : List V) (k : Int) (j : Nat) (e1 : o = .ref p) (e2 : i = .int k) (h : H p = some (.lst xs)) (x : ixN xs.length k = some j) (q : Q (upd H p (.lst (xs.set j v)))) : SetLR o i v H Q
noncomputable def rSetL : V → V → V → Hp → (Hp → Prop) → Prop := fun o i v H Q => SetLR o i v H Q
theorem set_list : PSet X rSetL := by
  intro pins s σ H o i v ov iv u Q I ro ri rv h
  obtain ⟨p, xs, k, j, rfl, rfl, hp, hj, q⟩ := h
  cases ro
  obtain ⟨t, rfl⟩ := ri
  obtain ⟨its, n, r, ho, hz⟩ := I.lst hp
  obtain ⟨h1, h2, h3, h4⟩ := ixN_seq hj
  have hl := r.length
  have hn := line63
  have I' : Inv X pins σ (upd H p (.lst (xs.set j v))) { s with heap := s.heap.update p (Obj.mapSeq (·.setIfInBounds j u)) } :=
    I.lstUpd hp ho (mapSeq_set its n j u) (r.set rv j) (by rw [List.length_set]; exact hz) s.toks
  by_cases h0 : 0 ≤ k
  · have hk : k.toNat = j := by
      rw [seqIndex_of h0 h4] at h1
      exact Option.some.inj h1
    exact PySem.W.ki_setAt ho h0 (by omega) (by rw [List.size_toArray, ← hl]; exact h4) (by rw [hk]; exact ⟨_, I', q⟩)
  · have hk : (k + (its.toArray.size : Int)).toNat = j := by
      rw [seqIndex_neg (by omega) h3] at h1
      rw [List.size_toArray, ← hl]
      exact Option.some.inj h1
    exact PySem.W.ki_setBack ho (by omega) (by rw [List.size_toArray, ← hl]; exact h3) (by omega) (by rw [hk]; exact ⟨_, I', q⟩)

inductive LenR (K : PySem.W.Frag) (xs : List V) (H : Hp) (Q : VK) : Prop
  | mk (p : Addr) (ys : List V) (e : xs = [.ref p]) (s : SqL K H p ys ∨ SqT K H p ys) (q : Q (.int ys.length) H) : LenR K xs H Q
theorem call_len_seq : CallR X (.builtin "len") (LenR X.K) := by
  intro pins s σ H xs us Q I r h
  obtain ⟨p, ys, rfl, hq, q⟩ := h
  obtain ⟨u, rfl, rx⟩ := vals1 r
  cases rx
  have hn := line63
  rcases hq with hq | hq
  · obtain ⟨its, r', pl, hz⟩ := I.list hq
    have hlen := r'.length
    exact Calls.call_len_list pl.isList (by simp only [List.size_toArray] <;> omega) ⟨.int ys.length, H, I.tok _, ⟨s.toks + 1, by rw [List.size_toArray, hlen]⟩, q⟩
  · obtain ⟨its, r', pl, hz⟩ := I.tuple hq
    have hlen := r'.length
    exact len_tuple pl (by simp only [List.size_toArray] <;> omega) ⟨.int ys.length, H, I.tok _, ⟨s.toks + 1, by rw [List.size_toArray, hlen]⟩, q⟩
theorem call_len_str : CallR X (.builtin "len") (fun xs H Q => ∃ z, xs = [.str z] ∧ z.length ≤ sizeLine ∧ Q (.int z.length) H) := by
  intro pins s σ H xs us Q I r h
  obtain ⟨z, rfl, hz, q⟩ := h
  obtain ⟨u, rfl, t, rfl⟩ := vals1 r
  have hn := line63
  exact len_str (by omega) ⟨.int z.length, H, I.tok _, ⟨_, rfl⟩, q⟩
theorem call_tuple_of : CallR X (.type "tuple") (fun xs H Q => ∃ p ys, xs = [.ref p] ∧ ((SqL X.K H p ys ∧ ∀ l, H l = none → Q (.ref l) (upd H l (.tup ys))) ∨ (SqT X.K H p ys ∧ Q (.ref p) H))) := by
  intro pins s σ H xs us Q I r h
  obtain ⟨p, ys, rfl, h⟩ := h
  obtain ⟨u, rfl, rx⟩ := vals1 r
  cases rx
  rcases h with ⟨hq, q⟩ | ⟨hq, q⟩
  · obtain ⟨its, r', pl, hz⟩ := I.list hq
    have hlen := r'.length
    refine call_tuple_list pl.isList (fun h' kp => ?_) (by simp only [List.size_toArray] <;> omega)
    have I1 : Inv X pins σ H { s with heap := h' } := I.kept (t' := s.toks) kp
    have I2 : Inv X pins σ (upd H h'.objs.size (.tup ys)) { s with heap := h'.push { cls := .type "tuple", data := .seq its.toArray } } :=
      I1.laid (t' := s.toks) (fun b o e => Heap.get?_push_of_some _ e) (Nat.le_refl _) (show ObjOk X.prog X.w _ _ _ (.tup ys) from ⟨hz, its, r', IsTup.new _ _, _, Heap.get?_push_size _ rfl, rfl⟩)
    exact ⟨.ref h'.objs.size, _, I2, rfl, q _ (I1.hok.fresh (Nat.le_refl _))⟩
  · obtain ⟨its, r', pl, hz⟩ := I.tuple hq
    exact call_tuple_same pl ⟨.ref p, H, I, rfl, q⟩

noncomputable def tyV (K : PySem.W.Frag) (T : String) (x : V) (H : Hp) : Prop := match x with
  | .str _ => T = "str"
  | .int _ => T = "int"
  | .ref p => (T = "list" ∧ ∃ xs, SqL K H p xs) ∨ (T = "tuple" ∧ ∃ o, K.lookup p = some o ∧ o.cls = .type "tuple" ∧ o.dict = none) ∨
      (T = "dict" ∧ ((∃ kvs, H p = some (.dK kvs)) ∨ ∃ kvs, H p = some (.dT kvs))) ∨ (T = "set" ∧ ∃ S n, H p = some (.set S n))
  | _ => False
theorem tyV_is {pins : List (Addr × Obj)} {σ : St} {H : Hp} {s : Shared} {T : String} {x : V} {v : Value} (I : Inv X pins σ H s) (r : RelV x v) (ty : tyV X.K T x H) :
    s.TypeIs v T ∧ ∀ a, v = .ref a → ∃ ob, s.heap.get? a = some ob ∧ ob.dict = none := by
  cases x with
  | str z =>
    obtain ⟨t, rfl⟩ := r
    cases (show T = "str" from ty)
    exact ⟨typeIs_str s z t, fun _ e => nomatch e⟩
  | int i =>
    obtain ⟨t, rfl⟩ := r
    cases (show T = "int" from ty)
    exact ⟨typeIs_int s i t, fun _ e => nomatch e⟩
  | ref p =>
    cases r
    rcases ty with ⟨rfl, xs, hq⟩ | ⟨rfl, o, hk, hc, hd⟩ | ⟨rfl, hk⟩ | ⟨rfl, S, n, hk⟩
    · obtain ⟨its, _, pl, _⟩ := I.list hq
      refine ⟨pl.isList.typeIs, fun a e => ?_⟩
      cases e
      obtain ⟨o, n, e, c, hd, _⟩ := pl
      exact ⟨o, e, hd⟩
    · refine ⟨⟨o, I.kIn p o hk, hc⟩, fun a e => ?_⟩
      cases e
      exact ⟨o, I.kIn _ o hk, hd⟩
    · have z : ∃ o, s.heap.get? p = some o ∧ o.ExactDict := by
        rcases hk with ⟨kvs, hk⟩ | ⟨kvs, hk⟩
        · obtain ⟨_, _, _, _, o, _, _, e, ex, _⟩ := I.hok p _ hk
          exact ⟨o, e, ex⟩
        · obtain ⟨_, _, _, _, o, _, _, e, ex, _⟩ := I.hok p _ hk
          exact ⟨o, e, ex⟩
      obtain ⟨o, e, ex⟩ := z
      refine ⟨⟨o, e, ex.1⟩, fun a e2 => ?_⟩
      cases e2
      exact ⟨o, e, ex.2.1⟩
    · obtain ⟨o, _, _, _, e, ex, _⟩ := I.hok p _ hk
      refine ⟨⟨o, e, ex.1⟩, fun a e2 => ?_⟩
      cases e2
      exact ⟨o, e, ex.2.1⟩
  | _ => exact False.elim ty
noncomputable def tBM (K : PySem.W.Frag) (T : String) (r : V → List V → Hp → VK → Prop) (to : TE) (t : TA) : TE := fun σ H Q => to σ H fun x H1 => tyV K T x H1 ∧ t σ H1 fun xs H2 => r x xs H2 Q
variable {o e : Expr} {es : List Expr} {to : TE} {t : TA} {name : Str} {apos cpos : Pos} {T id : String} {r : V → List V → Hp → VK → Prop}
theorem pe_bm (pa : PlainAttrs T) (slot : Slot T name id) (hty : typeOf (.builtin id) = pure (.type "method_descriptor")) (hm : MtR X id r) (ho : PE X o to) (ha : PA X (e :: es) t)
    (hbase : attributeBase o name X.env (eval o X.env) = eval o X.env := by rfl)
    (hfew : ((backTo cpos (starEach (e :: es) X.env)).all (fun x => !x.1) && (backToKw cpos (keywordEach [] X.env)).all (fun x => x.1.isSome)
      && decide ((e :: es).length + ([] : List Keyword).length + (if ([] : List Keyword).isEmpty then 0 else 1) < 30)) = true := by rfl)
    (hline : (apos.endLine == cpos.line) = true := by rfl) (hs : starEach (e :: es) X.env = (false, eval e X.env) :: starEach es X.env := by rfl) (hplain : (backTo cpos (starEach es X.env)).any (·.1) = false := by rfl) :
    PE X (.Call (.Attribute o name apos) (e :: es) [] cpos) (tBM X.K T r to t) := by
  intro pins s σ H Q I h
  refine wpAny_Call_method_late hbase hfew hline rfl (thn (ho pins s σ H _ I h) fun v s1 ⟨x, H1, I1, r1, ty, q1⟩ => ?_)
  obtain ⟨h1, h2⟩ := tyV_is I1 r1 ty
  refine ⟨T, id, pa, slot, hty, h1, h2, ?_⟩
  have hA := ha cpos pins s1 σ H1 _ I1 q1
  rw [hs] at hA ⊢
  refine Calls.callWith_builtin (by show (false || (backTo cpos (starEach es X.env)).any (·.1)) = false; rw [hplain] <;> rfl) (Calls.evalArgs_plain ?_)
  exact thn hA fun us s2 ⟨vs, H2, I2, r2, q2⟩ => hm pins s2 σ H2 x vs v us Q I2 r1 r2 q2
/- xs.append(e), list.index on a module's tuple .. are MtR facts of 06m -/
end
end L2

namespace L2
open PySem PySem.Spec PyProof.Rows

noncomputable def MtM (X : Cx) (id : String) (r : V → List V → Hp → VK → Prop) : Prop :=
  ∀ (pins : List (Addr × Obj)) (s : Shared) (σ : St) (H : Hp) (x : V) (xs : List V) (v : Value) (us : List Value) (Q : VK), Inv X pins σ H s → RelV x v → Vals xs us → r x xs H Q →
    wpAny (model X.prog X.w) X.A (call (.builtin id) (v :: us)) (EP X pins σ Q) X.xe s

theorem Vals.one : ∀ {x : V} {us : List Value}, Vals [x] us → ∃ u, us = [u] ∧ RelV x u
  | _, _, .cons r .nil => ⟨_, rfl, r⟩
theorem Vals.two : ∀ {x y : V} {us : List Value}, Vals [x, y] us → ∃ u v, us = [u, v] ∧ RelV x u ∧ RelV y v
  | _, _, _, .cons r (.cons q .nil) => ⟨_, _, rfl, r, q⟩
theorem Vals.reverse {xs : List V} {us : List Value} (h : Vals xs us) : Vals xs.reverse us.reverse := by
  induction h with
  | nil => exact .nil
  | cons r t ih => rw [List.reverse_cons, List.reverse_cons]; exact Vals.append ih (.cons r .nil)
section
variable {X : Cx} {pins : List (Addr × Obj)} {σ : St} {H : Hp} {s : Shared} {l b : Addr} {xs ys zs : List V}

theorem Inv.lset {its its' : List Value} {n : Nat} {f : Array Value → Array Value} {t' : Nat} (I : Inv X pins σ H s) (hH : H l = some (.lst xs))
    (e : s.heap.get? l = some { cls := .type "list", data := .seq its.toArray n }) (hf : f its.toArray = its'.toArray) (hv : Vals ys its') (hz : ys.length ≤ sizeLine) :
    Inv X pins σ (upd H l (.lst ys)) { s with heap := s.heap.update l (Obj.mapSeq f), toks := t' } := by
  have q := PySem.IsL.update e f
  rw [hf] at q
  refine I.write (x := l) (e := l) (by rw [hH]; exact trivial) (.inl rfl) (fun b' u hb hu => (Heap.get?_update_other s.heap (Obj.mapSeq f) (Ne.symm hb)).trans hu) ⟨_, q⟩ ?_
  exact ⟨hz, its', _, hv, q⟩
theorem Inv.fresh (I : Inv X pins σ H s) : H s.heap.objs.size = none := I.hok.fresh (Nat.le_refl _)
theorem Inv.lstM (I : Inv X pins σ H s) (hH : H l = some (.lst xs)) : xs.length ≤ sizeLine ∧ ∃ (its : List Value) (n : Nat), Vals xs its ∧ xs.length = its.length ∧ s.heap.get? l = some { cls := .type "list", data := .seq its.toArray n } := by
  obtain ⟨z, its, n, r, e⟩ := I.hok l _ hH
  exact ⟨z, its, n, r, r.length, e⟩

end

section
variable {X : Cx}

inductive AppR (x : V) (vs : List V) (H : Hp) (Q : VK) : Prop
  | mk (l : Addr) (xs : List V) (y : V) (e1 : x = .ref l) (e2 : vs = [y]) (h : H l = some (.lst xs)) (n : xs.length < sizeLine) (q : Q .non (upd H l (.lst (xs ++ [y])))) : AppR x vs H Q
noncomputable def rAppend : V → List V → Hp → VK → Prop := fun x vs H Q => AppR x vs H Q
theorem mt_append : MtM X "list.append" rAppend := by
  intro pins s σ H x vs v us Q I rx rv h
  obtain ⟨l, xs, y, rfl, rfl, hH, hz, q⟩ := h
  cases rx
  obtain ⟨u, rfl, ru⟩ := rv.one
  obtain ⟨z, its, n, r, hl, e⟩ := I.lstM hH
  refine call_meets F.slot_list_append ⟨_, e, rfl⟩ F.entry_list_append (F.args_list_append_2 _ _) (PySem.list_append l its.toArray n u (by rw [List.size_toArray]; omega)) ⟨e, ?_⟩
  refine ⟨.non, _, I.lset (its' := its ++ [u]) hH e (by simp) (r.append (.cons ru .nil)) ?_, rfl, q⟩
  rw [List.length_append, List.length_singleton]
  omega

end

section
variable {prog : Program} {w : World} {A : Around} {E : Value → Shared → Prop} {s : Shared}
end

section
variable {X : Cx}
end
end L2

namespace L2
open PySem PySem.Spec PyProof.Rows

section
variable {κ : Type} [DecidableEq κ]
noncomputable def valV (kvs : List (κ × V)) (k : κ) : Option V := (kvs.find? fun kv => decide (kv.1 = k)).map (·.2)
noncomputable def putK (kvs : List (κ × V)) (k : κ) (v : V) : List (κ × V) :=
  if (kvs.any fun kv => decide (kv.1 = k)) = true then kvs.map (fun kv => if kv.1 = k then (kv.1, v) else kv) else kvs ++ [(k, v)]
noncomputable def dropK (kvs : List (κ × V)) (k : κ) : List (κ × V) := kvs.filter fun kv => decide (kv.1 ≠ k)

theorem valV_pos {p : κ × V} {r : List (κ × V)} {k : κ} (e : p.1 = k) : valV (p :: r) k = some p.2 := by simp [valV, List.find?_cons, e]
theorem valV_neg {p : κ × V} {r : List (κ × V)} {k : κ} (e : ¬ p.1 = k) : valV (p :: r) k = valV r k := by simp [valV, List.find?_cons, e]
theorem valV_any (k : κ) : ∀ kvs : List (κ × V), (kvs.any fun kv => decide (kv.1 = k)) = (valV kvs k).isSome
  | [] => rfl
  | p :: r => by
    rw [List.any_cons]
    by_cases e : p.1 = k
    · simp only [valV_pos e, decide_eq_true e, Bool.true_or, Option.isSome_some]
    · rw [valV_neg e, decide_eq_false e, Bool.false_or]; exact valV_any k r
theorem length_putK (kvs : List (κ × V)) (k : κ) (v : V) : (putK kvs k v).length ≤ kvs.length + 1 := by
  unfold putK
  split
  · rw [List.length_map]; omega
  · rw [List.length_append, List.length_cons, List.length_nil]; omega
theorem RelO.isSome_eq {o : Option V} {u : Option Value} (r : RelO o u) : o.isSome = u.isSome := by
  cases o with
  | none => cases u with
    | none => rfl
    | some _ => exact (show False from r).elim
  | some _ => cases u with
    | none => exact (show False from r).elim
    | some _ => rfl
theorem RelO.getD {o : Option V} {u : Option Value} {d : V} {d' : Value} (r : RelO o u) (rd : RelV d d') : RelV (o.getD d) (u.getD d') := by
  cases o with
  | none => cases u with
    | none => exact rd
    | some _ => exact (show False from r).elim
  | some _ => cases u with
    | none => exact (show False from r).elim
    | some _ => exact r

theorem KV.val {kvs : List (κ × V)} {vs : List (κ × Value)} (r : KV kvs vs) (k : κ) : RelO (valV kvs k) (valueAt vs k) := by
  unfold KV at r
  induction r with
  | nil => exact True.intro
  | @cons p q ps qs h t ih =>
    obtain ⟨h1, h2⟩ := h
    by_cases e : p.1 = k
    · have e' : q.1 = k := h1.symm.trans e
      have b : valueAt (q :: qs) k = some q.2 := by simp [valueAt, List.find?_cons, e']
      rw [valV_pos e, b]; exact h2
    · have e' : ¬ q.1 = k := fun z => e (h1.trans z)
      have b : valueAt (q :: qs) k = valueAt qs k := by simp [valueAt, List.find?_cons, e']
      rw [valV_neg e, b]; exact ih
theorem KV.any {kvs : List (κ × V)} {vs : List (κ × Value)} (r : KV kvs vs) (k : κ) : (kvs.any fun kv => decide (kv.1 = k)) = vs.any fun kv => decide (kv.1 = k) := by
  unfold KV at r
  induction r with
  | nil => rfl
  | cons h t ih => rw [List.any_cons, List.any_cons, ih, h.1]
theorem KV.repl {kvs : List (κ × V)} {vs : List (κ × Value)} (r : KV kvs vs) (k : κ) {y : V} {u : Value} (ry : RelV y u) :
    KV (kvs.map fun kv => if kv.1 = k then (kv.1, y) else kv) (vs.map fun kv => if kv.1 = k then (kv.1, u) else kv) := by
  unfold KV at r ⊢
  induction r with
  | nil => exact .nil
  | @cons p q ps qs h t ih =>
    rw [List.map_cons, List.map_cons]
    refine .cons ?_ ih
    obtain ⟨h1, h2⟩ := h
    by_cases e : p.1 = k
    · rw [if_pos e, if_pos (h1.symm.trans e)]; exact ⟨h1, ry⟩
    · rw [if_neg e, if_neg (fun z => e (h1.trans z))]; exact ⟨h1, h2⟩
theorem KV.put {kvs : List (κ × V)} {vs : List (κ × Value)} (r : KV kvs vs) (k : κ) {y : V} {u : Value} (ry : RelV y u) : KV (putK kvs k y) (stored vs k u) := by
  unfold putK stored
  rw [r.any k]
  by_cases e : (vs.any fun kv => decide (kv.1 = k)) = true
  · rw [if_pos e, if_pos e]; exact r.repl k ry
  · rw [if_neg e, if_neg e]; exact Paired.snoc r ⟨rfl, ry⟩
theorem KV.drop {kvs : List (κ × V)} {vs : List (κ × Value)} (r : KV kvs vs) (k : κ) : KV (dropK kvs k) (without vs k) := by
  unfold KV at r ⊢
  unfold dropK without
  induction r with
  | nil => exact .nil
  | @cons p q ps qs h t ih =>
    obtain ⟨h1, h2⟩ := h
    rw [List.filter_cons, List.filter_cons]
    by_cases e : p.1 = k
    · have a : ¬ decide (p.1 ≠ k) = true := by simp [e]
      have b : ¬ decide (q.1 ≠ k) = true := by simp [h1.symm.trans e]
      rw [if_neg a, if_neg b]; exact ih
    · have e' : ¬ q.1 = k := fun z => e (h1.trans z)
      have a : decide (p.1 ≠ k) = true := by simp [e]
      have b : decide (q.1 ≠ k) = true := by simp [e']
      rw [if_pos a, if_pos b]; exact .cons ⟨h1, h2⟩ ih
theorem KV.length {kvs : List (κ × V)} {vs : List (κ × Value)} (r : KV kvs vs) : kvs.length = vs.length := Paired.length r
end


theorem kV_is {P : Program} {w : World} {k : Key} {u : Value} (r : RelV (kV k) u) : (mixKind P w).is k u = true := by
  cases k with
  | inl i => obtain ⟨t, e⟩ := (show ∃ t, u = Value.int i t from r); subst e; exact mixKind_int P w i t
  | inr x => obtain ⟨t, e⟩ := (show ∃ t, u = Value.str x t from r); subst e; exact mixKind_str P w x t
theorem items_are {P : Program} {w : World} : ∀ {ks : List Key} {us : List Value}, Vals (ks.map kV) us → ItemsAre (mixKind P w) ks us
  | [], _, r => by rw [List.map_nil] at r; cases r; exact .nil
  | k :: ks, _, r => by
    rw [List.map_cons] at r
    cases r with
    | cons h t => exact .cons (kV_is h) (items_are t)

noncomputable abbrev KT (H : Hp) : List (List Key × V) → List (List Key × Addr × Value) → Prop := Paired fun p q => p.1 = q.1 ∧ H q.2.1 = some (.tup (p.1.map kV)) ∧ RelV p.2 q.2.2
theorem KT.val {H : Hp} {kvs : List (List Key × V)} {xs : List (List Key × Addr × Value)} (r : KT H kvs xs) (k : List Key) : RelO (valV kvs k) ((atKey xs k).map (·.2)) := by
  induction r with
  | nil => exact True.intro
  | @cons p q ps qs h t ih =>
    obtain ⟨h1, _, h2⟩ := h
    by_cases e : p.1 = k
    · have e' : q.1 = k := h1.symm.trans e
      have b : atKey (q :: qs) k = some q.2 := by simp [atKey, List.find?_cons, e']
      rw [valV_pos e, b]; exact h2
    · have e' : ¬ q.1 = k := fun z => e (h1.trans z)
      have b : atKey (q :: qs) k = atKey qs k := by simp [atKey, List.find?_cons, e']
      rw [valV_neg e, b]; exact ih
theorem KT.repl {H : Hp} {kvs : List (List Key × V)} {xs : List (List Key × Addr × Value)} (r : KT H kvs xs) (k : List Key) {y : V} {u : Value} (ry : RelV y u) :
    KT H (kvs.map fun kv => if kv.1 = k then (kv.1, y) else kv) (xs.map (putAt k u)) := by
  induction r with
  | nil => exact .nil
  | @cons p q ps qs h t ih =>
    rw [List.map_cons, List.map_cons]
    refine .cons ?_ ih
    obtain ⟨h1, h2, h3⟩ := h
    unfold putAt
    by_cases e : p.1 = k
    · rw [if_pos e, if_pos (h1.symm.trans e)]; exact ⟨h1, h2, ry⟩
    · rw [if_neg e, if_neg (fun z => e (h1.trans z))]; exact ⟨h1, h2, h3⟩
theorem KT.put {H : Hp} {kvs : List (List Key × V)} {xs : List (List Key × Addr × Value)} (r : KT H kvs xs) (k : List Key) {b : Addr} {y : V} {u : Value} (hb : H b = some (.tup (k.map kV))) (ry : RelV y u) :
    KT H (putK kvs k y) (storedH xs k b u) := by
  have e : (kvs.any fun kv => decide (kv.1 = k)) = (atKey xs k).isSome := by
    rw [valV_any, (r.val k).isSome_eq, Option.isSome_map]
  unfold putK storedH
  rw [e]
  by_cases q : (atKey xs k).isSome = true
  · rw [if_pos q, if_pos q]; exact r.repl k ry
  · rw [if_neg q, if_neg q]; exact Paired.snoc r ⟨rfl, hb, ry⟩
theorem KT.keeps {H H' : Hp} {kvs : List (List Key × V)} {xs : List (List Key × Addr × Value)} (r : KT H kvs xs) (ht : ∀ b ys, H b = some (.tup ys) → H' b = some (.tup ys)) : KT H' kvs xs :=
  Paired.mapP r fun _ _ z => ⟨z.1, ht _ _ z.2.1, z.2.2⟩

section
variable {P : Program} {w : World} {H : Hp} {h : Heap} {a : Addr}
theorem rd_of {u : HO} (ok : HOk P w H h) (e : Rd H a u) : ObjOk P w H h a u := e.ok ok
theorem dk_rd {kvs : List (Key × V)} (ok : HOk P w H h) (e : Rd H a (.dK kvs)) : kvs.length ≤ sizeLine ∧ (a == sysModules) = false ∧ ∃ vs, KV kvs vs ∧ h.DictOf (mixKind P w) a vs :=
  show ObjOk P w H h a (.dK kvs) from rd_of ok e
theorem dk_of {kvs : List (Key × V)} (ok : HOk P w H h) (e : H a = some (.dK kvs)) : kvs.length ≤ sizeLine ∧ (a == sysModules) = false ∧ ∃ vs, KV kvs vs ∧ h.DictOf (mixKind P w) a vs := dk_rd ok (.inl e)
theorem key_of {ks : List Key} (ok : HOk P w H h) (e : H a = some (.tup (ks.map kV))) : (tupleKind (mixKind P w)).is h ks a := by
  obtain ⟨_, its, r, ⟨o, h1, h2, n, h3⟩, _⟩ := (show ObjOk P w H h a (.tup (ks.map kV)) from ok a _ e)
  exact ⟨o, its.toArray, n, h1, h2, h3, by simpa using items_are r⟩
theorem dt_rd {kvs : List (List Key × V)} (ok : HOk P w H h) (e : Rd H a (.dT kvs)) : kvs.length ≤ sizeLine ∧ (a == sysModules) = false ∧
    ∃ xs, KT H kvs xs ∧ h.DictOfH (tupleKind (mixKind P w)) a xs := by
  obtain ⟨z, y, xs, r, o, es, ep, h1, h2, h3, h4, h5⟩ := (show ObjOk P w H h a (.dT kvs) from rd_of ok e)
  refine ⟨z, y, xs, r, o, es, ep, h1, h2, h3, h4, fun x hx => ?_, h5⟩
  have all : ∀ {l : List (List Key × V)} {m : List (List Key × Addr × Value)}, KT H l m → ∀ x ∈ m, (tupleKind (mixKind P w)).is h x.1 x.2.1 := by
    intro l m q
    induction q with
    | nil => intro x hx; exact nomatch hx
    | @cons p q ps qs hq t ih =>
      intro x hx
      rcases List.mem_cons.mp hx with e | hx
      · subst e
        exact key_of ok (by rw [← hq.1]; exact hq.2.1)
      · exact ih x hx
  exact all r x hx
theorem dt_of {kvs : List (List Key × V)} (ok : HOk P w H h) (e : H a = some (.dT kvs)) : kvs.length ≤ sizeLine ∧ (a == sysModules) = false ∧
    ∃ xs, KT H kvs xs ∧ h.DictOfH (tupleKind (mixKind P w)) a xs := dt_rd ok (.inl e)
end

noncomputable def DGet (H : Hp) (a : Addr) (y : V) (r : Option V) : Prop :=
  (∃ kvs k, Rd H a (.dK kvs) ∧ y = kV k ∧ r = valV kvs k) ∨ ∃ kvs k b, Rd H a (.dT kvs) ∧ y = .ref b ∧ H b = some (.tup (k.map kV)) ∧ r = valV kvs k
noncomputable def DPut (H : Hp) (a : Addr) (y v : V) (H' : Hp) : Prop :=
  (∃ kvs k, H a = some (.dK kvs) ∧ y = kV k ∧ kvs.length < sizeLine ∧ H' = upd H a (.dK (putK kvs k v))) ∨
  ∃ kvs k b, H a = some (.dT kvs) ∧ y = .ref b ∧ H b = some (.tup (k.map kV)) ∧ kvs.length < sizeLine ∧ H' = upd H a (.dT (putK kvs k v))
theorem DGet.k {H : Hp} {a : Addr} {kvs : List (Key × V)} {k : Key} (e : H a = some (.dK kvs)) : DGet H a (kV k) (valV kvs k) := .inl ⟨kvs, k, .inl e, rfl, rfl⟩
theorem DPut.k {H : Hp} {a : Addr} {kvs : List (Key × V)} {k : Key} {v : V} (e : H a = some (.dK kvs)) (hl : kvs.length < sizeLine) : DPut H a (kV k) v (upd H a (.dK (putK kvs k v))) := .inl ⟨kvs, k, e, rfl, hl, rfl⟩
section
variable {X : Cx} {pins : List (Addr × Obj)} {σ : St} {H : Hp} {s : Shared} {a : Addr} {y v : V} {u r : Value} {o : Option V} {A : Around} {E : Value → Shared → Prop}

theorem Inv.big (I : Inv X pins σ H s) : sysModules < s.heap.objs.size := by
  have h : mainGlobals < s.heap.objs.size := (I.mod.glob.keeps I.bk).lt
  exact Nat.lt_trans (by decide) h

theorem d_getItem {Q : Value → Shared → Prop} (hu : A.units + 1 < cLine) (I : Inv X pins σ H s) (g : DGet H a y (some v)) (ry : RelV y u) (h : ∀ w' s', Inv X pins σ H s' → RelV v w' → Q w' s') :
    wpAny (model X.prog X.w) A (getItem (.ref a) u) Q E s := by
  rcases g with ⟨kvs, k, e, ey, l⟩ | ⟨kvs, k, b, e, ey, eb, l⟩
  · subst ey
    obtain ⟨z, hd, vs, rel, dd⟩ := dk_rd I.hok e
    obtain ⟨w', hw, rw'⟩ := RelO.some_of (v := v) (o := valueAt vs k) (by rw [l]; exact rel.val k)
    exact wpAny_getItem_of (kV_is ry) dd.mapOf hw (h w' _ (I.tok _) rw')
  · subst ey
    cases (show u = Value.ref b from ry)
    obtain ⟨z, hd, xs, rel, dd⟩ := dt_rd I.hok e
    obtain ⟨w', hw, rw'⟩ := RelO.some_of (v := v) (o := (atKey xs k).map (·.2)) (by rw [l]; exact rel.val k)
    obtain ⟨p, hp, hp2⟩ := Option.map_eq_some_iff.mp hw
    refine wpAny_getItem_heap (tupleKind_room_in1 hu) (key_of I.hok eb) dd hp ?_
    rw [hp2]
    exact h w' _ (I.tok _) rw'
theorem d_in {Q : Value → Shared → Prop} (hu : A.units + 1 < cLine) (I : Inv X pins σ H s) (g : DGet H a y o) (ry : RelV y u) (h : ∀ s', Inv X pins σ H s' → Q (.bool o.isSome) s') :
    wpAny (model X.prog X.w) A (compareOp .In u (.ref a)) Q E s := by
  rcases g with ⟨kvs, k, e, ey, l⟩ | ⟨kvs, k, b, e, ey, eb, l⟩
  · subst ey
    obtain ⟨z, hd, vs, rel, dd⟩ := dk_rd I.hok e
    refine wpAny_in_of (kV_is ry) hd dd.mapOf ?_
    rw [← (rel.val k).isSome_eq, ← l]
    exact h _ (I.tok _)
  · subst ey
    cases (show u = Value.ref b from ry)
    obtain ⟨z, hd, xs, rel, dd⟩ := dt_rd I.hok e
    refine wpAny_in_heap (tupleKind_room_in1 hu) (key_of I.hok eb) hd dd ?_
    have q := (rel.val k).isSome_eq
    rw [Option.isSome_map] at q
    rw [← q, ← l]
    exact h _ (I.tok _)
theorem d_notIn {Q : Value → Shared → Prop} (hu : A.units + 1 < cLine) (I : Inv X pins σ H s) (g : DGet H a y o) (ry : RelV y u) (h : ∀ s', Inv X pins σ H s' → Q (.bool (!o.isSome)) s') :
    wpAny (model X.prog X.w) A (compareOp .NotIn u (.ref a)) Q E s := by
  rcases g with ⟨kvs, k, e, ey, l⟩ | ⟨kvs, k, b, e, ey, eb, l⟩
  · subst ey
    obtain ⟨z, hd, vs, rel, dd⟩ := dk_rd I.hok e
    refine wpAny_notIn_of (kV_is ry) hd dd.mapOf ?_
    rw [← (rel.val k).isSome_eq, ← l]
    exact h _ (I.tok _)
  · subst ey
    cases (show u = Value.ref b from ry)
    obtain ⟨z, hd, xs, rel, dd⟩ := dt_rd I.hok e
    refine wpAny_notIn_heap (tupleKind_room_in1 hu) (key_of I.hok eb) hd dd ?_
    have q := (rel.val k).isSome_eq
    rw [Option.isSome_map] at q
    rw [← q, ← l]
    exact h _ (I.tok _)
theorem d_write {h' : Heap} {t' : Nat} {ob : HO} (I : Inv X pins σ H s) (mu : Mut (H a)) (hs : Heap.SameBut a s.heap h') (he : ∃ q, h'.get? a = some q) (new : ObjOk X.prog X.w (upd H a ob) h' a ob) :
    Inv X pins σ (upd H a ob) { s with heap := h', toks := t' } :=
  I.write (x := a) (e := a) mu (.inl rfl) (fun b q hb z => (hs.2 b hb).trans z) he new
theorem dk_new {P : Program} {w : World} {H' : Hp} {h' : Heap} {kvs : List (Key × V)} {vs : List (Key × Value)} (z : kvs.length ≤ sizeLine) (hd : (a == sysModules) = false) (rel : KV kvs vs) (dd : h'.DictOf (mixKind P w) a vs) :
    ObjOk P w H' h' a (.dK kvs) := ⟨z, hd, vs, rel, dd⟩
theorem d_setItem {H' : Hp} {Q : Unit → Shared → Prop} (hu : A.units + 1 < cLine) (I : Inv X pins σ H s) (g : DPut H a y v H') (ry : RelV y u) (rv : RelV v r) (h : ∀ s', Inv X pins σ H' s' → Q () s') :
    wpAny (model X.prog X.w) A (setItem (.ref a) u r) Q E s := by
  rcases g with ⟨kvs, k, e, ey, l, eH⟩ | ⟨kvs, k, b, e, ey, eb, l, eH⟩
  · subst ey eH
    obtain ⟨z, hd, vs, rel, dd⟩ := dk_of I.hok e
    have hz : vs.length ≤ sizeLine := by rw [← rel.length]; exact z
    have hl : (putK kvs k v).length ≤ sizeLine := by have := length_putK kvs k v; omega
    refine wpAny_setItem_pairs (hsz := hz) (kV_is ry) dd fun h' dd' hs => h _ ?_
    have he : ∃ q, h'.get? a = some q := let ⟨q, _, _, hq, _⟩ := dd'; ⟨q, hq⟩
    exact d_write I (by rw [e]; exact True.intro) hs he (dk_new hl hd (rel.put k rv) dd')
  · subst ey eH
    cases (show u = Value.ref b from ry)
    obtain ⟨z, hd, xs, rel, dd⟩ := dt_of I.hok e
    have hz : xs.length ≤ sizeLine := by rw [← Paired.length rel]; exact z
    have hl : (putK kvs k v).length ≤ sizeLine := by have := length_putK kvs k v; omega
    refine wpAny_setItem_heap (hsz := hz) (tupleKind_room_in1 hu) (key_of I.hok eb) dd fun h' dd' hs => h _ ?_
    obtain ⟨q, es, ep, hq, h2, h3, h4, _, h5⟩ := dd'
    refine d_write I (by rw [e]; exact True.intro) hs ⟨q, hq⟩ ⟨hl, hd, _, (rel.put k eb rv).keeps fun c ys ec => ?_, q, es, ep, hq, h2, h3, h4, h5⟩
    rw [upd_ne (ne_of ec e (fun z => nomatch z))]
    exact ec
end

section
variable {X : Cx} {pins : List (Addr × Obj)} {σ : St} {H : Hp} {s : Shared} {a : Addr} {kvs : List (Key × V)} {k : Key} {u : Value} {A : Around} {E : Value → Shared → Prop}
theorem d_len {Q : Value → Shared → Prop} (I : Inv X pins σ H s) (e : Rd H a (.dK kvs)) (h : ∀ t s', Inv X pins σ H s' → Q (.int kvs.length t) s') : wpAny (model X.prog X.w) A (call (.builtin "len") [.ref a]) Q E s := by
  obtain ⟨z, hd, vs, rel, dd⟩ := dk_rd I.hok e
  refine call_len_dict hd dd (by rw [← rel.length]; rw [sizeLine_eq] at z; omega) ?_
  rw [← rel.length]
  exact h _ _ (I.tok _)
end


noncomputable def NoSl (i : Expr) : Prop := ∀ ov iv, subscripted i false ov iv = operate [ov, iv] (getItem ov iv)
theorem subD_of {prog : Program} {w : World} {A : Around} {E : Value → Shared → Prop} {s : Shared} {env : Env} {value slice : Expr} {pos : Pos} {T id : String} {Q : Value → Shared → Prop}
    (hl : typeLookup (.type T) "__getitem__" = pure (some (.builtin id))) (hs : NoSl slice)
    (h : wpAny (model prog w) A (eval value env) (fun o s₁ => wpAny (model prog w) A (eval slice env) (fun i s₂ => s₂.TypeIs o T ∧ wpAny (model prog w) A (getItem o i) Q E s₂) E s₁) E s) :
    wpAny (model prog w) A (eval (.Subscript value slice pos) env) Q E s := by
  refine Subscript_ (wpAny_mono h (fun o s₁ h₁ => wpAny_mono h₁ (fun i s₂ h₂ => ?_) fun _ _ x => x) fun _ _ x => x)
  obtain ⟨hT, h₂⟩ := h₂
  unfold subscriptTail
  refine wpAny_bind ?_
  rw [getitemInPython_of_ne hT.not_modules]
  refine wpAny_bind (wpAny_specialOf hT hl ?_)
  have fin : wpAny (model prog w) A (subscripted slice false o i) (fun r s₃ => wpAny (model prog w) A (letTemporaryGo value o r >>= fun _ => pure r) Q E s₃) E s₂ := by
    rw [hs o i]
    exact wpAny_operating (wpAny_mono h₂ (fun r s₃ h₃ => wpAny_bind (wpAny_letTemporaryGo (wpAny_pure h₃))) fun _ _ x => x)
  first
    | exact wpAny_pure (wpAny_bind fin)
    | exact wpAny_bind (wpAny_pure (wpAny_bind fin))
    | exact wpAny_bind fin

theorem dict_typeIs {X : Cx} {pins : List (Addr × Obj)} {σ : St} {H : Hp} {s : Shared} {a : Addr} {y : V} {o : Option V} (I : Inv X pins σ H s) (g : DGet H a y o) : s.TypeIs (.ref a) "dict" := by
  rcases g with ⟨kvs, k, e, _, _⟩ | ⟨kvs, k, b, e, _, _, _⟩
  · obtain ⟨_, _, vs, _, dd⟩ := dk_rd I.hok e
    exact dd.typeIs
  · obtain ⟨_, _, xs, _, dd⟩ := dt_rd I.hok e
    exact dd.typeIs
inductive DGetR (x y : V) (H : Hp) (Q : VK) : Prop
  | mk (a : Addr) (v : V) (e : x = .ref a) (d : DGet H a y (some v)) (q : Q v H) : DGetR x y H Q
inductive DInR (x y : V) (H : Hp) (Q : VK) : Prop
  | mk (a : Addr) (o : Option V) (e : x = .ref a) (d : DGet H a y o) (q : Q (.bl o.isSome) H) : DInR x y H Q
inductive DPutR (x y v : V) (H : Hp) (Q : Hp → Prop) : Prop
  | mk (a : Addr) (H4 : Hp) (e : x = .ref a) (d : DPut H a y v H4) (q : Q H4) : DPutR x y v H Q
noncomputable def tDGet (td ty : TE) : TE := fun σ H Q => td σ H fun x H1 => ty σ H1 fun y H2 => DGetR x y H2 Q
noncomputable def tDIn (ty td : TE) : TE := fun σ H Q => ty σ H fun y H1 => td σ H1 fun x H2 => DInR x y H2 Q
noncomputable def tDNotIn (ty td : TE) : TE := fun σ H Q => ty σ H fun y H1 => td σ H1 fun x H2 => ∃ a o, x = .ref a ∧ DGet H2 a y o ∧ Q (.bl (!o.isSome)) H2
noncomputable def sDPut (td ty tv : TE) : TS := fun D σ H => tv σ H fun v H1 => td σ H1 fun x H2 => ty σ H2 fun y H3 => DPutR x y v H3 (D.nx σ)
section
variable {X : Cx} {o i e value : Expr} {pos pos' tpos : Pos} {td ty tv : TE}
theorem pe_dget (hu : X.A.units + 1 < cLine) (ho : PE X o td) (hi : PE X i ty) (hs : NoSl i) : PE X (.Subscript o i pos) (tDGet td ty) := by
  intro pins s σ H Q I h
  refine subD_of PySem.F.slot_dict_getitem.lookup hs (thn (ho pins s σ H _ I h) fun u s1 ⟨x, H1, I1, rx, q1⟩ => thn (hi pins s1 σ H1 _ I1 q1) fun iv s2 ⟨y, H2, I2, ry, a, v, ex, g, q2⟩ => ?_)
  subst ex
  obtain rfl : u = Value.ref a := rx
  exact ⟨dict_typeIs I2 g, d_getItem hu I2 g ry fun w' s3 I3 rw' => ⟨v, H2, I3, rw', q2⟩⟩
theorem pc_din (hu : X.A.units + 1 < cLine) (hi : PE X i ty) (ho : PE X o td) : PC X .In i o (tDIn ty td) := by
  intro pins s σ H Q I h
  refine thn (hi pins s σ H _ I h) fun iv s1 ⟨y, H1, I1, ry, q1⟩ => thn (ho pins s1 σ H1 _ I1 q1) fun u s2 ⟨x, H2, I2, rx, a, ov, ex, g, q2⟩ => ?_
  subst ex
  obtain rfl : u = Value.ref a := rx
  exact d_in hu I2 g ry fun s3 I3 => ⟨.bl ov.isSome, H2, I3, rfl, q2⟩
theorem pc_dnotin (hu : X.A.units + 1 < cLine) (hi : PE X i ty) (ho : PE X o td) : PC X .NotIn i o (tDNotIn ty td) := by
  intro pins s σ H Q I h
  refine thn (hi pins s σ H _ I h) fun iv s1 ⟨y, H1, I1, ry, q1⟩ => thn (ho pins s1 σ H1 _ I1 q1) fun u s2 ⟨x, H2, I2, rx, a, ov, ex, g, q2⟩ => ?_
  subst ex
  obtain rfl : u = Value.ref a := rx
  exact d_notIn hu I2 g ry fun s3 I3 => ⟨.bl (!ov.isSome), H2, I3, rfl, q2⟩
theorem ps_dput (hu : X.A.units + 1 < cLine) (ho : PE X o td) (hi : PE X i ty) (hv : PE X value tv) (hs : swapsWith value (some (.Subscript o i pos')) pos.line X.env = pure false) :
    PS X (.Assign [.Subscript o i pos'] value pos) (sDPut td ty tv) := by
  intro pins s σ H D I h
  refine wpAny_Assign_Subscript (thn (hv pins s σ H _ I h) fun r s1 ⟨v, H1, I1, rv, q1⟩ => thn (ho pins s1 σ H1 _ I1 q1) fun u s2 ⟨x, H2, I2, rx, q2⟩ => thn (hi pins s2 σ H2 _ I2 q2) fun iv s3 ⟨y, H3, I3, ry, a, H4, ex, g, q3⟩ => ?_) hs
  subst ex
  obtain rfl : u = Value.ref a := rx
  exact d_setItem hu I3 g ry rv fun s4 I4 => ⟨σ, H4, I4, q3⟩
end


theorem dk_empty {P : Program} {w : World} {H : Hp} (h : Heap) (hb : sysModules < h.objs.size) : ObjOk P w H (h.push { cls := .type "dict", data := .dict #[] }) h.objs.size (.dK []) :=
  ⟨Nat.zero_le _, beq_eq_false_iff_ne.mpr (Ne.symm (Nat.ne_of_lt hb)), [], .nil, Heap.DictOf.new h⟩
noncomputable def tDNewK : TE := fun _ H Q => ∀ p, H p = none → Q (.ref p) (upd H p (.dK []))
section
variable {X : Cx} {pos : Pos}
theorem pe_dnewK : PE X (.Dict [] [] pos) tDNewK := fun pins s σ H Q I h =>
  wpAny_Dict_empty ⟨.ref s.heap.objs.size, _, I.laid (a := s.heap.objs.size) (o := .dK []) (t' := s.toks) (fun _ _ q => Heap.get?_push_of_some _ q) (Nat.le_refl _) (dk_empty s.heap I.big), rfl, h _ (I.hok.fresh (Nat.le_refl _))⟩
end

noncomputable def tPairs : List (TE × TE) → St → Hp → (List (V × V) → Hp → Prop) → Prop
  | [], _, H, Q => Q [] H
  | (tk, tv) :: r, σ, H, Q => tk σ H fun x H1 => tv σ H1 fun y H2 => tPairs r σ H2 fun ps H3 => Q ((x, y) :: ps) H3
noncomputable abbrev VV : List (V × V) → List (Value × Value) → Prop := Paired fun p q => RelV p.1 q.1 ∧ RelV p.2 q.2
noncomputable def PPs (X : Cx) (pos : Pos) (keys : List (Option Expr)) (values : List Expr) (trs : List (TE × TE)) : Prop :=
  ∀ (pins : List (Addr × Obj)) (s : Shared) (σ : St) (H : Hp) (Q : List (V × V) → Hp → Prop), Inv X pins σ H s → tPairs trs σ H Q →
    wpAny (model X.prog X.w) X.A (evalPairs (pairTrees keys values X.env pos)) (fun vs s' => ∃ ps H', Inv X pins σ H' s' ∧ VV ps vs ∧ Q ps H') X.xe s
theorem pps_nil {X : Cx} {pos : Pos} : PPs X pos [] [] [] := fun pins s σ H Q I h => pairTrees_nil_walk ⟨[], H, I, .nil, h⟩
theorem pps_cons {X : Cx} {pos : Pos} {k v : Expr} {ks : List (Option Expr)} {vs : List Expr} {tk tv : TE} {trs : List (TE × TE)} (hk : PE X k tk) (hv : PE X v tv) (hr : PPs X pos ks vs trs) :
    PPs X pos (some k :: ks) (v :: vs) ((tk, tv) :: trs) := fun pins s σ H Q I h =>
  pairTrees_cons_walk (thn (hk pins s σ H _ I h) fun u s1 ⟨x, H1, I1, rx, q1⟩ => thn (hv pins s1 σ H1 _ I1 q1) fun w2 s2 ⟨y, H2, I2, ry, q2⟩ =>
    thn (hr pins s2 σ H2 _ I2 q2) fun ws s3 ⟨ps, H3, I3, rel, q3⟩ => ⟨(x, y) :: ps, H3, I3, .cons ⟨rx, ry⟩ rel, q3⟩)

noncomputable def mergeK (kvs more : List (Key × V)) : List (Key × V) := more.foldl (fun acc kv => putK acc kv.1 kv.2) kvs
theorem KV.merge : ∀ {more : List (Key × V)} {rs : List (Key × Value)} {kvs : List (Key × V)} {vs : List (Key × Value)}, KV more rs → KV kvs vs → KV (mergeK kvs more) (merged vs rs) := by
  intro more rs kvs vs r
  unfold KV at r
  induction r generalizing kvs vs with
  | nil => intro q; exact q
  | @cons p q ps qs h t ih =>
    intro r0
    have e : KV (putK kvs p.1 p.2) (stored vs q.1 q.2) := by
      have := r0.put p.1 h.2
      rw [← h.1]; exact this
    exact ih e
theorem length_mergeK : ∀ (more kvs : List (Key × V)), (mergeK kvs more).length ≤ kvs.length + more.length
  | [], kvs => by show kvs.length ≤ kvs.length + 0; omega
  | p :: r, kvs => by
    have h1 := length_mergeK r (putK kvs p.1 p.2)
    have h2 := length_putK kvs p.1 p.2
    show (mergeK (putK kvs p.1 p.2) r).length ≤ _
    rw [List.length_cons]; omega
theorem carries_of {P : Program} {w : World} : ∀ {kvs : List (Key × V)} {ws : List (Value × Value)}, VV (kvs.map fun kv => (kV kv.1, kv.2)) ws → ∃ rs, Carries (mixKind P w) ws rs ∧ KV kvs rs
  | [], _, r => by rw [List.map_nil] at r; cases r; exact ⟨[], True.intro, .nil⟩
  | p :: kvs, _, r => by
    rw [List.map_cons] at r
    cases r with
    | @cons a b as bs h t =>
      obtain ⟨rs, c, q⟩ := carries_of (P := P) (w := w) t
      obtain ⟨b1, b2⟩ := b
      exact ⟨(p.1, b2) :: rs, ⟨kV_is h.1, rfl, c⟩, .cons ⟨rfl, h.2⟩ q⟩
noncomputable def tDisp (trs : List (TE × TE)) : TE := fun σ H Q => ∀ p, H p = none → tPairs trs σ (upd H p (.dK [])) fun ps H2 => H2 p = some (.dK []) ∧ ∃ kvs : List (Key × V), ps = kvs.map (fun kv => (kV kv.1, kv.2)) ∧ kvs.length ≤ 15 ∧ Q (.ref p) (upd H2 p (.dK (mergeK [] kvs)))
theorem pe_disp {X : Cx} {pos : Pos} {keys : List (Option Expr)} {values : List Expr} {trs : List (TE × TE)} (h : PPs X pos keys values trs) (hall : keys.all (·.isSome) = true) (hl : keys.length = values.length) (h0 : keys ≠ [])
    (h15 : keys.length ≤ 15) : PE X (.Dict keys values pos) (tDisp trs) := by
  intro pins s σ H Q I q
  have hn := I.hok.fresh (Nat.le_refl s.heap.objs.size)
  have I1 := I.laid (a := s.heap.objs.size) (o := .dK []) (h' := s.heap.push { cls := .type "dict", data := .dict #[] }) (t' := s.toks) (fun _ _ q => Heap.get?_push_of_some _ q) (Nat.le_refl _) (dk_empty s.heap I.big)
  refine wpAny_Dict_walk (knd := mixKind X.prog X.w) hall hl h0 h15 (thn (h pins _ σ _ _ I1 (q _ hn)) fun ws s2 ⟨ps, H2, I2, rel, e, kvs, ep, lk, q2⟩ => ?_)
  subst ep
  obtain ⟨rs, c, rk⟩ := carries_of (P := X.prog) (w := X.w) rel
  obtain ⟨z, hd, vs0, r0, dd⟩ := dk_of I2.hok e
  cases r0
  refine ⟨rs, c, dd, fun h' dd' hs => ⟨.ref s.heap.objs.size, _, ?_, rfl, q2⟩⟩
  have hz : (mergeK [] kvs).length ≤ sizeLine := by
    have h1 := length_mergeK kvs []
    rw [List.length_nil] at h1
    rw [sizeLine_eq]; omega
  have he : ∃ q, h'.get? s.heap.objs.size = some q := let ⟨q, _, _, hq, _⟩ := dd'; ⟨q, hq⟩
  exact d_write I2 (by rw [e]; exact True.intro) hs he (dk_new hz hd (rk.merge .nil) dd')


structure M1 (X : Cx) (o : Expr) (m : Str) (apos : Pos) (e : Expr) (cpos : Pos) : Prop where
  base : attributeBase o m X.env (eval o X.env) = eval o X.env
  few : ((backTo cpos (starEach [e] X.env)).all (fun x => !x.1) && (backToKw cpos (keywordEach [] X.env)).all (fun x => x.1.isSome)
    && decide (([e] : List Expr).length + ([] : List Keyword).length + (if ([] : List Keyword).isEmpty then 0 else 1) < 30)) = true
  line : (apos.endLine == cpos.line) = true
  trees : backTo cpos (starEach [e] X.env) = [(false, eval e X.env)]
structure M2 (X : Cx) (o : Expr) (m : Str) (apos : Pos) (e f : Expr) (cpos : Pos) : Prop where
  base : attributeBase o m X.env (eval o X.env) = eval o X.env
  few : ((backTo cpos (starEach [e, f] X.env)).all (fun x => !x.1) && (backToKw cpos (keywordEach [] X.env)).all (fun x => x.1.isSome)
    && decide (([e, f] : List Expr).length + ([] : List Keyword).length + (if ([] : List Keyword).isEmpty then 0 else 1) < 30)) = true
  line : (apos.endLine == cpos.line) = true
  trees : backTo cpos (starEach [e, f] X.env) = [(false, eval e X.env), (false, eval f X.env)]

section
variable {X : Cx} {pins : List (Addr × Obj)} {σ : St} {H : Hp} {s : Shared} {a : Addr} {y d : V} {u r : Value} {o : Option V} {A : Around} {E : Value → Shared → Prop}
end

section
variable {X : Cx} {o e f : Expr} {apos cpos : Pos} {td ty tx : TE}
end

section
variable {X : Cx} {pins : List (Addr × Obj)} {σ : St} {H : Hp} {s : Shared} {a : Addr} {kvs : List (Key × V)} {A : Around} {E : Value → Shared → Prop}
end


section
variable {X : Cx} {pins : List (Addr × Obj)} {σ : St} {H : Hp} {s : Shared} {a : Addr} {y : V} {u : Value} {A : Around} {E : Value → Shared → Prop}
end
end L2


namespace Att
open PySem PySem.W PySem.Calls PyProof.Rows

theorem ints_of_wellAll {P : Params} {h : Heap} : ∀ (ns : List Int) (vs : List Value), WellAll P h vs (ns.map WData.int) → IntsAre vs ns := by
  intro ns
  induction ns with
  | nil =>
    intro vs w
    rw [List.map_nil] at w
    cases w
    exact .nil
  | cons n ns ih =>
    intro vs w
    rw [List.map_cons] at w
    cases w with
    | cons a b =>
      cases a
      exact .cons _ _ (ih _ b)

theorem script_of {l : OpenLaw} {n : Nat} (hn : l.most = some n) {P : Params} {h : Heap} {args : List WData} {vals : List Value}
    (hpre : l.row.toRowW.claim.pre args = true) (hwl : WellAll P h vals args) :
    ∃ a vs ns, vals = [Value.ref a] ∧ args = [WData.list (ns.map WData.int)] ∧ h.get? a = some { cls := .type "list", data := .seq vs.toArray } ∧ IntsAre vs ns ∧ ns.length ≤ n := by
  have hsh : WShape.hasAll [] args [.list .int] = true := (pre_splitW hpre).1
  have hc : l.pre.holds [] { args := args } = true := (pre_splitW hpre).2
  obtain ⟨d, r, rfl, h1, h2⟩ := hasAllW_cons hsh
  obtain rfl := hasAllW_nil h2
  obtain ⟨xs, rfl, h3⟩ := hasW_list h1
  obtain ⟨ns, rfl⟩ := items_int h3
  have hlen : ns.length ≤ n := by
    unfold OpenLaw.pre at hc
    have h4 : (WTm.not (.lt (.lit (.int (n : Int))) (.len (.arg 0)))).holds [] { args := [.list (ns.map .int)] } = true := by
      have h4 := (holds_andW hc).1
      rw [hn] at h4
      exact h4
    have h5 := condW_of h4 (w_not (w_lt w_lit (w_len_list (w_arg rfl))))
    rw [List.length_map] at h5
    refine Nat.le_of_not_lt fun q => ?_
    have q' : (n : Int) < ((ns.length : Nat) : Int) := by omega
    first
      | (rw [decide_eq_true q'] at h5; exact absurd h5 (by decide))
      | (simp at h5; omega)
  cases hwl with
  | cons w1 w2 =>
    cases w2
    cases w1 with
    | list ho hall => exact ⟨_, _, ns, rfl, rfl, ho, ints_of_wellAll ns _ hall, hlen⟩

theorem post_true (l : OpenLaw) (args : List WData) : l.row.toRowW.claim.post args (.bool true) args = true :=
  postW_of (r := l.row.toRowW) (X := (true == true))
    (show WShape.has [] (.bool true) .bool = true by first | rfl | decide | simp [WShape.has, WShape.arms, WShape.armsAll])
    (show (WTm.eq .res (.lit (.bool true))).value [] { args := args, res := some (.bool true), after := args } = some (.bool (true == true)) from w_eq_bool (w_res rfl) w_lit) rfl

theorem attach_call {l : OpenLaw} {n : Nat} {q : Program} {loose : List Str} {XP : (Str → Option Value) → Heap → Prop} {YP : World → Heap → Prop} {d : DefRec}
    (hn : l.most = some n) (hdf : d.params.defaults = [])
    (call : ∀ (w : World) (s₀ s₁ : Shared) (mg mb : Str → Option Value) (fa : Addr) (o : Obj) (pm cd doc : Value) (a : Addr) (vs : List Value) (ns : List Int),
      Ground q loose [] XP w s₀ mg mb s₁.heap → YP w s₁.heap →
      s₁.heap.get? fa = some o → o.data = .func (docDef d.name d.params d.body d.scope pm cd doc) → s₁.heap.CodeRec cd d.name → mg d.name = some (.ref fa) →
      s₁.heap.get? a = some { cls := .type "list", data := .seq vs.toArray } → IntsAre vs ns → ns.length ≤ n → s₁.gens = #[] →
      codeAny (model l.prog w) callerA (.call (.ref fa) ⟨[.ref a], []⟩) (fun r s' => r = .ok (.ret (.bool true)) ∧ OldK s₁.heap s'.heap ∧ s'.os = s₁.os ∧ AllBare s'.gens) s₁) :
    WalkO q loose XP YP l.row.toRowW d [] (fun f vs => PySem.call f vs) := by
  intro w s₀ s₁ mg mb G Y fa o pm cd doc dV kV ho hd hcd hD hmg hg args vals as hpre hlay hrd hwl hlo
  obtain rfl : dV = .none := Dflts.none hD hdf
  obtain rfl : kV = .none := Dflts.noKw hD
  obtain ⟨a, vs, ns, rfl, rfl, hobj, hints, hlen⟩ := script_of hn hpre hwl
  refine enter_call (codeAny_mono (call w s₀ s₁ mg mb fa o pm cd doc a vs ns G Y ho (fd_plain hd) hcd hmg hobj hints hlen hg) fun r s' hq => ?_)
  obtain ⟨rfl, h2, h3, h4⟩ := hq
  exact ⟨.inl ⟨.bool true, .bool true, [], rfl, fun _ => rfl, .bool true, post_true l _, fun _ => ⟨List.Pairwise.nil, fun _ hm => (nomatch hm)⟩⟩, h2, h3, h4⟩

section
variable {prog : Program} {w : World} {A : Around} {E : Value → Shared → Prop} {s : Shared} {K : Frag}

noncomputable def ledger (h : Heap) (L d : Addr) : List (Addr × Obj) := (List.range h.objs.size).filterMap fun a => if a = L ∨ a = d then none else (h.get? a).map fun o => (a, o)
end
end Att

namespace L2
open PySem PySem.Spec PyProof.Rows

theorem vals_ints : ∀ {vs : List Value} {ns : List Int}, IntsAre vs ns → Vals (ns.map V.int) vs
  | _, _, .nil => .nil
  | _, _, .cons n t h => .cons ⟨t, rfl⟩ (vals_ints h)

noncomputable def Only (H : Hp) : Prop := ∀ b, H b = none ∨ ∃ o xs, H b = some (.frz o (.lst xs))

theorem law_call {P : Program} {w : World} {K : PySem.W.Frag} {mg mb : Str → Option Value} {CX : CXT} {k : Nat} {fa a : Addr} {fd : FuncData} {x : Str} {sp : Sp} {s₁ : Shared} {vs : List Value} {ns : List Int}
    (KX : K.In s₁.heap) (hns : s₁.heap.Ns mainGlobals mg) (hb : s₁.heap.Ns builtinsNs mb) (hbb : ∀ x : Str, x ≠ "__name__" → mb x = bootBuiltins x) (hlim : s₁.heap.NoLimit) (hg : s₁.gens = #[])
    (ha : s₁.heap.get? a = some { cls := .type "list", data := .seq vs.toArray }) (hi : IntsAre vs ns) (hl : ns.length ≤ sizeLine) (hr : Room k callerA)
    (F : ∀ base : Heap, K.In base → base.Ns mainGlobals mg → FnOk P w K mg base CX k fa fd [x] sp) (hbind : ∀ (s : Shared) (u : Value), BindsTo s fd ⟨[u], []⟩ [(x, u)])
    (hsp : ∀ H : Hp, Only H → SqL K H a (ns.map V.int) → sp [.ref a] H (fun v _ => v = .bl true) fun _ _ _ => False)
    (hCX : ∀ H e s', CX [] H s₁ (fun _ _ _ => False) e s' → False) :
    codeAny (model P w) callerA (.call (.ref fa) ⟨[.ref a], []⟩) (fun r s' => r = .ok (.ret (.bool true)) ∧ OldK s₁.heap s'.heap ∧ s'.os = s₁.os ∧ AllBare s'.gens) s₁ := by
  have rv := vals_ints hi
  have lenV := hi.length
  -- from an abstract heap in which nothing but the script may be tracked
  have core : ∀ H : Hp, Only H → SqL K H a (ns.map V.int) → HOk P w H s₁.heap → (∀ b, H b ≠ none → b = a) → (H a ≠ none → K.lookup a = none) →
      codeAny (model P w) callerA (.call (.ref fa) ⟨[.ref a], []⟩) (fun r s' => r = .ok (.ret (.bool true)) ∧ OldK s₁.heap s'.heap ∧ s'.os = s₁.os ∧ AllBare s'.gens) s₁ := by
    intro H hO hS hok hA hK
    have base_of : ∀ {b : Addr} {o : Obj}, s₁.heap.get? b = some o → H b = none → (hidT s₁.heap H).get? b = some o := fun e n => hidT_get e n
    have noA : ∀ {b : Addr} {o : Obj} {es : Array DictEntry} {ep : Nat}, s₁.heap.get? b = some o → o.data = .dict es ep → H b = none := fun {b o es ep} e d => by
      cases q : H b with
      | none => rfl
      | some u =>
        have e' : b = a := hA b (by rw [q]; simp)
        subst e'
        rw [ha] at e; cases e
        have d' : Data.seq vs.toArray _ = Data.dict es ep := d
        cases d'
    have nsK : ∀ {b : Addr} {m : Str → Option Value}, s₁.heap.Ns b m → (hidT s₁.heap H).Ns b m := fun {b m} ⟨o, es, ep, e, d, r⟩ => ⟨o, es, ep, base_of e (noA e d), d, r⟩
    have hKb : K.In (hidT s₁.heap H) := fun b o e => base_of (KX b o e) (by
      cases q : H b with
      | none => rfl
      | some u =>
        have e' : b = a := hA b (by rw [q]; simp)
        subst e'
        rw [hK (by rw [q]; simp)] at e; cases e)
    have hM : Mod K mg (hidT s₁.heap H) := ⟨hKb, nsK hns, ⟨mb, nsK hb, hbb⟩, let ⟨mc, h1, h2⟩ := hlim; ⟨mc, nsK h1, h2⟩⟩
    have e0 : Env0 P w K mg (hidT s₁.heap H) callerA [] s₁ H := ⟨rfl, hM, fun b o e => of_hidT e, Nat.le_of_eq (hidT_size _ _), trivial, fun b hb => absurd (show b ∈ ([] : List Addr) from hb) (by simp), hok, .of_eq hg⟩
    refine codeAny_mono ((F _ hKb (nsK hns)).run callerA [] s₁ H ⟨[.ref a], []⟩ [.ref a] [.ref a] _ _ hr e0 (hbind s₁ (.ref a)) (.cons rfl .nil) (hsp H hO hS)) fun r s' h => ?_
    cases r with
    | error e => exact (hCX H e s' h).elim
    | ok fl =>
      cases fl with
      | next => exact False.elim h
      | brk => exact False.elim h
      | cont => exact False.elim h
      | ret u =>
        obtain ⟨v, H', os, bare, un, hok', r', q⟩ := h
        have q' : v = .bl true := q
        subst q'
        obtain rfl : u = Value.bool true := r'
        refine ⟨rfl, OldK.of_keep fun b o e => ?_, os, bare⟩
        cases q : H b with
        | none => exact un.keep b o e q (by intro z; exact absurd (show b ∈ ([] : List Addr) from z) (by simp)) (by simp)
        | some u =>
          rcases hO b with z | ⟨ob, xs, z⟩
          · rw [q] at z; cases z
          · have z2 := un.frzs b ob _ z
            obtain ⟨e1, _⟩ := hok b _ z
            obtain ⟨e2, _⟩ := hok' b _ z2
            rw [e] at e1; cases e1
            exact e2
  cases hk : K.lookup a with
  | some o =>
    -- the script is one of the module's own objects
    have e := KX a o hk
    rw [ha] at e
    cases e
    refine core (fun _ => none) (fun _ => .inl rfl) (.inr ⟨_, vs.toArray, _, hk, rfl, rfl, rfl, by rw [List.size_toArray, lenV]; exact hl, by simpa using rv⟩) (fun b u z => by have z' : (none : Option HO) = some u := z; cases z') (fun b z => absurd rfl z) fun z => absurd rfl z
  | none =>
    refine core (fun b => if b = a then some (.frz { cls := .type "list", data := .seq vs.toArray } (.lst (ns.map V.int))) else none) (fun b => ?_) (.inl (.inr ⟨{ cls := .type "list", data := .seq vs.toArray }, if_pos rfl⟩)) (fun b u z => ?_) (fun b z => ?_) fun _ => hk
    · by_cases hb : b = a
      · exact .inr ⟨_, _, if_pos hb⟩
      · exact .inl (if_neg hb)
    · by_cases hb : b = a
      · have z' := (if_pos hb).symm.trans z
        cases z'
        subst hb
        exact ⟨ha, by rw [List.length_map]; exact hl, vs, _, rv, ha⟩
      · have z' := (if_neg hb).symm.trans z
        cases z'
    · by_cases hb : b = a
      · exact hb
      · exact absurd (if_neg hb) z
end L2

namespace L2
open PySem PySem.Spec PyProof.Rows

noncomputable abbrev KOf {K : PySem.W.Frag} {h : Heap} (_ : K.In h) : PySem.W.Frag := K

theorem walk_of {l : PySem.W.OpenLaw} {n k : Nat} {q : Program} {loose : List Str} {XP : (Str → Option Value) → Heap → Prop} {YP : World → Heap → Prop} {d : DefRec} {K : Params → PySem.W.Frag} {CX : World → CXT} {sp : World → Sp} {x : Str}
    (hn : l.most = some n) (hn2 : n ≤ sizeLine) (hdf : d.params.defaults = []) (hr : Room k callerA)
    (hY : ∀ (w : World) (h : Heap), YP w h → (K w.params).In h)
    (F : ∀ (w : World) (mg : Str → Option Value) (fa : Addr) (h : Heap), (K w.params).In h → h.Ns mainGlobals mg → mg d.name = some (.ref fa) →
      ∃ fd : FuncData, (∀ (s : Shared) (u : Value), BindsTo s fd ⟨[u], []⟩ [(x, u)]) ∧
        ∀ base : Heap, (K w.params).In base → base.Ns mainGlobals mg → FnOk l.prog w (K w.params) mg base (CX w) k fa fd [x] (sp w))
    (hsp : ∀ (w : World) (H : Hp) (a : Addr) (ns : List Int), ns.length ≤ n → Only H → SqL (K w.params) H a (ns.map V.int) → sp w [.ref a] H (fun v _ => v = .bl true) fun _ _ _ => False)
    (hCX : ∀ (w : World) (H : Hp) (s : Shared) (e : Value) (s' : Shared), CX w [] H s (fun _ _ _ => False) e s' → False) :
    PySem.W.WalkO q loose XP YP l.row.toRowW d [] (fun f vs => PySem.call f vs) := by
  refine Att.attach_call hn hdf fun w s₀ s₁ mg mb fa o pm cd doc a vs ns G Y ho hd hcd hmg hobj hints hlen hg => ?_
  have KX := hY w _ Y
  obtain ⟨fd, hb, hF⟩ := F w mg fa _ KX G.T.g hmg
  exact law_call KX G.T.g G.T.b G.T.builtins G.T.nolimit hg hobj hints (Nat.le_trans hlen hn2) hr hF hb (fun H hO hS => hsp w H a ns hlen hO hS) fun H e s' => hCX w H s₁ e s'
end L2

/- THE LAST THEOREM (shape; LID, My.* are yours):
   My.Adr: a structure of the addresses that your layer names (classes, functions); My.Txt K t: a structure (Prop) of the equations over K;
   My.txt_mk : {K} {implicit addresses ..} (e1 : nsIn K mainGlobals "law" = some (some (.ref f))) (e2 : K.lookup f = some ⟨oc, od, .func (fnOf "law" "law" params body scope dV kV doc pm an cdv ct), sl⟩) (e3 : codeIn K cdv "law" = true) .. : ∃ t, My.Txt K t

set_option maxRecDepth 100000 in
set_option maxHeartbeats 0 in
theorem PySem.Challenge.cw_LID_holds : PySem.Challenge.rw_LID.Holds := by
  w_on; o_law; k_head; (case hw => w_witness2)
  k_fill
  refine L2.walk_of (l := PySem.Challenge.rw_LID) (n := 63) (k := 40) (x := "script") (CX := fun w => ..) (sp := fun _ => My.sp_law) rfl (by decide) rfl ⟨rfl, by decide, by decide⟩ (fun w h Y => PySem.W.kIn_of Y) ?F ?S ?C
  case F =>
    intro w mg fa h KX G hmg
    have T : ∃ t, My.Txt (L2.KOf KX) t := by
      dsimp only [L2.KOf]                          -- K must stand as «<heap const> w.params» for k_is
      refine' My.txt_mk ?e1 ?e2 ?e3 ..
      (case e1 => PySem.W.k_is)                    -- in the order: a name -> its address -> its object -> its parts
      (case e2 => PySem.W.k_is)
      ..
    obtain ⟨t, T⟩ := T
    have e0 := hmg.symm.trans (PySem.W.mg_of KX G T.law)
    cases e0                                       -- fa is the law's own address
    exact ⟨_, fun s u => .of_eq rfl, fun base kb nb => My.law_fn T kb nb⟩     -- if «.of_eq rfl» comes too early: refine' ⟨_, ?b, fun base kb nb => My.law_fn T kb nb⟩; exact fun s u => .of_eq rfl
  case S => exact fun w H a ns hl hO hS => ..
  case C => exact ..
(the tactic k_is has no namespace: write k_is) -/

namespace L2
open PySem PySem.Spec PyProof.Rows

noncomputable def defArgs (s : Stmt) : Arguments := match s with
  | .FunctionDef _ a _ _ _ _ _ _ _ _ => a
  | _ => { posonlyargs := [], args := [], vararg := none, kwonlyargs := [], kw_defaults := [], kwarg := none, defaults := [] }
noncomputable def defBody (s : Stmt) : List Stmt := match s with
  | .FunctionDef _ _ b _ _ _ _ _ _ _ => b
  | _ => []
noncomputable def defScope (s : Stmt) : Scope := match s with
  | .FunctionDef _ _ _ _ _ _ sc _ _ _ => sc
  | _ => { kind := .function, names := [], isGenerator := false, isCoroutine := false }

noncomputable abbrev CX0 : CXT := fun _ _ _ _ _ _ => False
noncomputable abbrev E0 : XK := fun _ _ _ => False
theorem pass0 {X : Cx} : Passes CX0 X E0 := fun _ _ _ _ _ _ _ h => h.elim

structure Fun (K : PySem.W.Frag) (x qual : Str) (st : Stmt) (f : Addr) (fd : FuncData) : Prop where
  ex : ∃ (oc : Value) (od : Option Addr) (kV doc pm : Value) (an : Option Addr) (cdv ct : Value) (osl : Array (Option Value)),
    fd = PySem.W.fnOf x qual (defArgs st) (defBody st) (defScope st) .none kV doc pm an cdv ct ∧ K.lookup f = some ⟨oc, od, .func fd, osl⟩ ∧ PySem.W.codeIn K cdv qual = true
  kp : PySem.W.keepIn K (.ref f) = true
section
variable {P : Program} {w : World} {K : PySem.W.Frag} {mg : Str → Option Value} {base : Heap}
theorem Fun.ok {x qual : Str} {st : Stmt} {f : Addr} {fd : FuncData} {N ps : List Str} {k : Nat} {sp : Sp} (F : Fun K x qual st f fd) (S : FnScope N ps (defScope st)) (len : ∀ vs H Q E, sp vs H Q E → vs.length = ps.length)
    (hbody : ∀ (cdv : Value) (A : Around) (outer : List Env) (s : Shared) (H : Hp) (vs : List V) (Q : VK) (E : XK), Room k (A.deeper (envOfC qual (defScope st) s.heap.objs.size f cdv)) → sp vs H Q E →
      ∃ t, PSs (cxOf CX0 P w K mg base N qual (defScope st) f cdv A outer s H E).nox (defBody st) t ∧ t { nx := fun _ H' => Q .non H', rt := Q } (start N vs) H) : FnOk P w K mg base CX0 (k + 1) f fd ps sp := by
  obtain ⟨oc, od, kV, doc, pm, an, cdv, ct, osl, rfl, lk, hcd⟩ := F.ex
  refine fn_of lk hcd S len fun A outer s H vs Q E hr hsp => ?_
  obtain ⟨t, h, q⟩ := hbody cdv A outer s H vs Q E hr hsp
  exact ⟨t, h.nox, q⟩
theorem Fun.binds {x qual : Str} {st : Stmt} {f : Addr} {fd : FuncData} {ps : List Str} (F : Fun K x qual st f fd)
    (h : ∀ (kV doc pm : Value) (an : Option Addr) (cdv ct : Value) (us : List Value), us.length = ps.length → bindArgs (PySem.W.fnOf x qual (defArgs st) (defBody st) (defScope st) .none kV doc pm an cdv ct) ⟨us, []⟩ = pure (ps.zip us)) : Binds K fd ps [] := by
  obtain ⟨oc, od, kV, doc, pm, an, cdv, ct, osl, rfl, lk, hcd⟩ := F.ex
  exact .all (h kV doc pm an cdv ct)
theorem fun_mk {x qual : Str} {st : Stmt} {f : Addr} {oc : Value} {od an : Option Addr} {osl : Array (Option Value)} {kV doc pm cdv ct : Value} (l : K.lookup f = some ⟨oc, od, .func (PySem.W.fnOf x qual (defArgs st) (defBody st) (defScope st) .none kV doc pm an cdv ct), osl⟩)
    (c : PySem.W.codeIn K cdv qual = true) (k : PySem.W.keepIn K (.ref f) = true) : Fun K x qual st f (PySem.W.fnOf x qual (defArgs st) (defBody st) (defScope st) .none kV doc pm an cdv ct) := ⟨⟨oc, od, kV, doc, pm, an, cdv, ct, osl, rfl, l, c⟩, k⟩
end
theorem hu_of {A : Around} {k : Nat} (hr : Room k A) : A.units + 1 < cLine := Nat.lt_of_le_of_lt (Nat.add_le_add_left (by decide : 1 ≤ 64) _) hr.units
section
variable {X : Cx}
theorem pv (i : Nat) {x : Str} {pos : Pos} (hN : X.N[i]? = some x := by rfl) (hv : Vis X.env.scope x := by first | exact Or.inl rfl | exact Or.inr (Or.inl rfl) | exact Or.inr (Or.inr rfl)) (hd : (x == ("__debug__" : Str)) = false := by decide)
    (hcd : (x == ("__classdict__" : Str)) = false := by decide) : PE X (.Name x pos) (tVar i) := pe_var hN hv hd hcd
end

theorem iteF {A B : Prop} (h : B) : if false = true then A else B := by
  rw [if_neg Bool.false_ne_true]
  exact h
theorem iteT {A B : Prop} (h : A) : if true = true then A else B := by
  rw [if_pos rfl]
  exact h
theorem ite2 {c A B : Prop} [Decidable c] (h1 : c → A) (h2 : ¬ c → B) : if c then A else B := by
  by_cases h : c
  · rw [if_pos h]
    exact h1 h
  · rw [if_neg h]
    exact h2 h
theorem iteNS {c A B : Prop} [Decidable c] (hc : c) (h : B) : if (!decide c) = true then A else B := by
  rw [decide_eq_true hc]
  exact iteF h

noncomputable def Same (H H' : Hp) : Prop := ∀ b o, H b = some o → H' b = some o
theorem Same.refl (H : Hp) : Same H H := fun _ _ h => h
theorem Same.trans {H H1 H2 : Hp} (a : Same H H1) (b : Same H1 H2) : Same H H2 := fun c o h => b c o (a c o h)
theorem Same.free {H H' : Hp} (e : Same H H') {l : Addr} (h : H' l = Option.none) : H l = Option.none := by
  cases q : H l with
  | none => rfl
  | some o =>
    rw [e l o q] at h
    cases h
theorem Same.seq {K : PySem.W.Frag} {H H' : Hp} {a : Addr} {xs : List V} (e : Same H H') (h : SqL K H a xs) : SqL K H' a xs := by
  rcases h with (h | ⟨o, h⟩) | h
  · exact .inl (.inl (e _ _ h))
  · exact .inl (.inr ⟨o, e _ _ h⟩)
  · exact .inr h

end L2


namespace L2
open PySem PySem.Spec PyProof.Rows
section
variable {X : Cx}
theorem call_lenD : CallR X (.builtin "len") (fun xs H Q => ∃ a kvs, xs = [V.ref a] ∧ H a = some (.dK kvs) ∧ Q (.int kvs.length) H) := by
  intro pins s σ H xs us Q I r h
  obtain ⟨a, kvs, rfl, ha, q⟩ := h
  obtain ⟨u, rfl, ru⟩ := vals1 r
  cases ru
  exact d_len I (.inl ha) fun t s' I' => ⟨.int kvs.length, H, I', ⟨t, rfl⟩, q⟩
end
section
variable {κ : Type} [DecidableEq κ]
end
end L2
namespace L2
open PySem
noncomputable def DK (h h' : Heap) : Prop := ∀ a o, h.get? a = some o → ∃ o', h'.get? a = some o' ∧ o'.dict = o.dict
theorem DK.refl (h : Heap) : DK h h := fun _ o e => ⟨o, e, rfl⟩
theorem DK.trans {h1 h2 h3 : Heap} (x : DK h1 h2) (y : DK h2 h3) : DK h1 h3 := fun a o e => by
  obtain ⟨o1, e1, d1⟩ := x a o e
  obtain ⟨o2, e2, d2⟩ := y a o1 e1
  exact ⟨o2, e2, d2.trans d1⟩
theorem not_freed {h : Heap} {a : Addr} {o : Obj} (e : h.get? a = some o) : o.isFreed = false := by
  unfold Heap.get? at e
  split at e
  · cases e
  · rename_i x hx
    obtain ⟨c, d, dt, sl⟩ := o
    cases dt <;> first | rfl | (exact absurd e (hx _ _ _))
theorem DK.upd {h : Heap} {a : Addr} {f : Obj → Obj} (hf : ∀ o, (f o).dict = o.dict ∧ (f o).isFreed = o.isFreed) : DK h (h.update a f) := fun b o e => by
  by_cases hb : a = b
  · subst hb
    exact ⟨f o, Heap.get?_update_self f e ((hf o).2.trans (not_freed e)), (hf o).1⟩
  · exact ⟨o, (Heap.get?_update_other h f hb).trans e, rfl⟩
theorem DK.push (h : Heap) (x : Obj) : DK h (h.push x) := fun _ o e => ⟨o, Heap.get?_push_of_some x e, rfl⟩
structure KpD {α : Type} (t : Sem α) : Prop where
  out : ∀ (M : Model) (Γ : Ctx) (Q : α → Pos → Shared → Prop) (E : Value → Pos → Shared → Prop) (p : Pos) (s : Shared), Sem.wp M Γ t Q E p s → Sem.wp M Γ t (fun a p' s' => Q a p' s' ∧ DK s.heap s'.heap) E p s
namespace KpD
variable {α β : Type}
theorem pure (a : α) : KpD (Pure.pure a : Sem α) := ⟨fun _ _ _ _ _ s h => ⟨h, DK.refl _⟩⟩
theorem unsupported (w : String) : KpD (PySem.unsupported w : Sem α) := ⟨fun _ _ _ _ _ _ h => h⟩
theorem bind {m : Sem α} {f : α → Sem β} (hm : KpD m) (hf : ∀ a, KpD (f a)) : KpD (m >>= f) := ⟨fun M Γ Q E p s h => by
  rw [Sem.wp_bind'] at h ⊢
  refine Sem.wp_mono M Γ m (fun a p' s' ⟨q, k⟩ => ?_) (fun _ _ _ z => z) p s (hm.out M Γ _ E p s h)
  exact Sem.wp_mono M Γ (f a) (fun b p2 s2 ⟨q2, k2⟩ => ⟨q2, k.trans k2⟩) (fun _ _ _ z => z) p' s' ((hf a).out M Γ Q E p' s' q)⟩
theorem ite {c : Prop} [Decidable c] {t u : Sem α} (ht : KpD t) (hu : KpD u) : KpD (if c then t else u) := by split <;> assumption
theorem load (a : Addr) : KpD (PySem.load a) := ⟨fun _ _ _ _ _ _ h => by
  obtain ⟨o, e, q⟩ := h
  exact ⟨o, e, q, DK.refl _⟩⟩
theorem stack : KpD PySem.stack := ⟨fun _ _ _ _ _ _ h => ⟨h, DK.refl _⟩⟩
theorem update (a : Addr) {f : Obj → Obj} (hf : ∀ o, (f o).dict = o.dict ∧ (f o).isFreed = o.isFreed) : KpD (PySem.update a f) := ⟨fun _ _ _ _ _ _ h => ⟨h.1, h.2, DK.upd hf⟩⟩
theorem alloc (x : Obj) : KpD (PySem.alloc x) := ⟨fun _ _ _ _ _ _ h => ⟨h, DK.push _ _⟩⟩
theorem field (v : Value) (i : Nat) : KpD (PySem.field v i) := ⟨fun M Γ Q E p s h => by
  rw [wp_field_iff] at h ⊢
  obtain ⟨a, o, vs, x, e, ho, hd, hx, q⟩ := h
  exact ⟨a, o, vs, x, e, ho, hd, hx, q, DK.refl _⟩⟩
theorem mapF (g : Array Value → Array Value) (o : Obj) : (o.mapFields g).dict = o.dict ∧ (o.mapFields g).isFreed = o.isFreed := by
  obtain ⟨c, d, dt, sl⟩ := o
  cases dt <;> exact ⟨rfl, rfl⟩
theorem setField (v : Value) (i : Nat) (x : Value) : KpD (PySem.setField v i x) := ⟨fun M Γ Q E p s h => by
  rw [wp_setField_iff] at h ⊢
  obtain ⟨a, o, vs, e, ho, hd, hi, q⟩ := h
  exact ⟨a, o, vs, e, ho, hd, hi, q, DK.upd (mapF _)⟩⟩
theorem newFields (ty : String) (vs : List Value) : KpD (PySem.newFields ty vs) := by
  unfold PySem.newFields newObj newObjAsIs
  dsimp only
  split
  all_goals repeat' with_reducible first
    | exact unsupported _
    | exact alloc _
    | exact pure _
    | apply bind
    | intro _
theorem slotF (g : Obj → Array (Option Value)) (o : Obj) : ({ o with slots := g o } : Obj).dict = o.dict ∧ ({ o with slots := g o } : Obj).isFreed = o.isFreed := by
  obtain ⟨c, d, dt, sl⟩ := o
  cases dt <;> exact ⟨rfl, rfl⟩
end KpD
local macro_rules
  | `(tactic| trivial) => `(tactic| (repeat' with_reducible first
    | assumption
    | exact KpD.pure _
    | exact KpD.unsupported _
    | exact KpD.field _ _
    | exact KpD.setField _ _ _
    | exact KpD.newFields _ _
    | exact KpD.load _
    | exact KpD.update _ (KpD.slotF _)
    | exact KpD.stack
    | exact KpD.alloc _
    | apply KpD.ite
    | apply KpD.bind
    | intro _
    | split))
end L2
namespace L2
open PySem PySem.Spec PyProof.Rows

noncomputable def FlyD (B : Heap) (l : List Env) (a : Addr) (cls : Value) (t : Addr) (od : Option Addr) (h : Heap) : Prop := Heap.FlyingW B l a cls (.ref t) h ∧ ∃ o, h.get? a = some o ∧ o.dict = od
theorem FlyD.there {B h : Heap} {l : List Env} {a t : Addr} {cls : Value} {od : Option Addr} (x : FlyD B l a cls t od h) : ∃ o, h.get? a = some o ∧ o.cls = cls ∧ o.dict = od ∧ ∃ vs, o.data = .fields vs := by
  obtain ⟨o, e, d⟩ := x.2
  obtain ⟨o2, vs, e2, c, f, _⟩ := x.1.first
  rw [e] at e2
  cases e2
  exact ⟨o, e, c, d, vs, f⟩
theorem DK.dict {h h' : Heap} {a : Addr} {od : Option Addr} (k : DK h h') (x : ∃ o, h.get? a = some o ∧ o.dict = od) : ∃ o, h'.get? a = some o ∧ o.dict = od := by
  obtain ⟨o, e, d⟩ := x
  obtain ⟨o', e', d'⟩ := k a o e
  exact ⟨o', e', d'.trans d⟩
section
variable {X : Cx} {pins : List (Addr × Obj)} {σ : St} {H : Hp} {s s' : Shared} {E : XK} {e : Value}
end

section
variable {P : Program} {w : World} {K : PySem.W.Frag} {mg : Str → Option Value} {base : Heap} {N : List Str} {qual : Str} {scope : Scope} {f : Addr} {cd : Value} {A : Around} {outer : List Env} {s₀ : Shared} {H₀ : Hp} {E : XK}
end

section
variable {M : Model} {A : Around} {E : Value → Shared → Prop} {s : Shared} {B : Heap} {env : Env} {outer l : List Env} {L e t : Addr} {cls : Value} {od : Option Addr} {Q : Unit → Shared → Prop}
end
end L2
namespace L2
open PySem PySem.Spec PyProof.Rows

noncomputable def cxComp (X : Cx) (scope : Scope) (cl : List (Str × Addr)) (C : Addr) (Nc : List Str) (ex : List Addr) (pins : List (Addr × Obj)) (s₀ : Shared) (H₀ : Hp) : Cx where
  prog := X.prog
  w := X.w
  K := X.K
  mg := X.mg
  base := X.base
  A := X.A
  N := Nc
  s₀ := s₀
  H₀ := H₀
  env := compEnvC scope cl C X.env
  outer := X.stack
  stack := X.stack
  ex := ex
  fn := fun y => scope.names.lookup y == some .local
  calm := true
  pn := X.pn ++ pins
  xe := fun _ _ => False

structure CompScope (X : Cx) (scope : Scope) (cl : List (Str × Addr)) (Nc : List Str) (cap : List (Nat × Nat)) : Prop where
  clos : closureFor scope X.env = pure cl
  kind : scope.kind = .function
  names : ∀ y ∈ scope.names, y.2 = .local → scope.names.lookup y.1 = some .local
  nocell : ∀ y ∈ scope.names, y.2 ≠ .cell
  sub : ∀ x c, cl.lookup x = some c → X.env.cells.lookup x = some c ∧ scope.names.lookup x ≠ some .local
  has : ∀ x, ((relabel scope X.env).names.lookup x = some .cell ∨ (relabel scope X.env).names.lookup x = some .free) → ∃ c, cl.lookup x = some c
  caps : ∀ j i, (j, i) ∈ cap → ∃ x c, Nc[j]? = some x ∧ X.N[i]? = some x ∧ cl.lookup x = some c ∧ X.env.scope.names.lookup x = some .cell ∧ (relabel scope X.env).names.lookup x = some .cell

theorem comp_mk {X : Cx} {scope : Scope} {cl : List (Str × Addr)} {Nc : List Str} {cap : List (Nat × Nat)} (clos : closureFor scope X.env = pure cl) (kind : scope.kind = .function) (names : ∀ y ∈ scope.names, y.2 = .local → scope.names.lookup y.1 = some .local) (nocell : ∀ y ∈ scope.names, y.2 ≠ .cell)
    (subs : ∀ p ∈ cl, X.env.cells.lookup p.1 = some p.2 ∧ scope.names.lookup p.1 = some .free) (hass : ((relabel scope X.env).names.all fun p => (p.2 != .cell && p.2 != .free) || (cl.lookup p.1).isSome) = true)
    (caps : ∀ p ∈ cap, ∃ x c, Nc[p.1]? = some x ∧ X.N[p.2]? = some x ∧ cl.lookup x = some c ∧ X.env.scope.names.lookup x = some .cell ∧ (relabel scope X.env).names.lookup x = some .cell) : CompScope X scope cl Nc cap :=
  ⟨clos, kind, names, nocell, fun x c e => ⟨(subs (x, c) (PySem.mem_of_lookup e)).1, fun z => by
    have := (subs (x, c) (PySem.mem_of_lookup e)).2
    rw [z] at this
    cases this⟩, fun x e => by
    have key : ∀ k, (relabel scope X.env).names.lookup x = some k → (k = .cell ∨ k = .free) → ∃ c, cl.lookup x = some c := fun k e hk => by
      have := List.all_eq_true.mp hass (x, k) (PySem.mem_of_lookup e)
      rcases hk with rfl | rfl
      · exact Option.isSome_iff_exists.mp (by simpa using this)
      · exact Option.isSome_iff_exists.mp (by simpa using this)
    rcases e with e | e
    · exact key _ e (.inl rfl)
    · exact key _ e (.inr rfl), fun j i m => caps (j, i) m⟩
noncomputable def capSt (n : Nat) (cap : List (Nat × Nat)) (σ : St) : St := (List.range n).map fun j => ((cap.find? fun p => p.1 == j).bind fun p => σ[p.2]?).bind id

theorem capSt_get {n : Nat} {cap : List (Nat × Nat)} {σ : St} {j : Nat} {v : V} (h : (capSt n cap σ)[j]? = some (some v)) : ∃ i, (j, i) ∈ cap ∧ σ[i]? = some (some v) := by
  unfold capSt at h
  rw [List.getElem?_map] at h
  cases e : (List.range n)[j]? with
  | none => rw [e] at h; cases h
  | some k =>
    rw [e] at h
    have hk : k = j := by
      obtain ⟨hl, q⟩ := List.getElem?_eq_some_iff.mp e
      rw [List.getElem_range] at q
      exact q.symm
    subst hk
    simp only [Option.map_some, Option.some.injEq] at h
    cases f : cap.find? fun p => p.1 == k with
    | none => rw [f] at h; cases h
    | some p =>
      rw [f] at h
      have h1 := List.mem_of_find?_eq_some f
      have h2 : p.1 = k := by
        have := List.find?_some f
        exact eq_of_beq this
      refine ⟨p.2, ?_, ?_⟩
      · rw [← h2]; exact h1
      · simp only [Option.bind_some] at h
        cases g : σ[p.2]? with
        | none => rw [g] at h; cases h
        | some o => rw [g] at h; simpa using h

section
variable {X : Cx} {pins : List (Addr × Obj)} {σ : St} {H : Hp} {s : Shared} {scope : Scope} {cl : List (Str × Addr)} {Nc : List Str} {cap : List (Nat × Nat)} {fp : List Addr}
theorem inv_comp (I : Inv X pins σ H s) (hcalm : X.calm = true) (S : CompScope X scope cl Nc cap) (hfp : ∀ b ∈ fp, FpOk X pins H b) (hob : ∀ b ∈ fp, ∃ o, s.heap.get? b = some o) {C : Addr} {h1 : Heap} {m : Str → Option Value} {tk : Nat} (hC : s.heap.objs.size ≤ C)
    (hn : h1.Ns C m) (keep : ∀ b o, s.heap.get? b = some o → h1.get? b = some o) : Inv (cxComp X scope cl C Nc fp pins s H) [] (capSt Nc.length cap σ) H { s with heap := h1, toks := tk } := by
  have neC : ∀ b o, s.heap.get? b = some o → b ≠ C := fun b o e => Nat.ne_of_lt (Nat.lt_of_lt_of_le (Heap.lt_size e) hC)
  refine ⟨⟨I.ok.mod, S.kind, I.ok.glob, I.ok.blt, hC, fun x y c e1 e2 => ?_, fun x hx => S.has x hx, fun x c e1 e2 => ?_, fun _ => I.ok.hd hcalm, I.ok.frames, .inl rfl, fun b hb => ⟨?_, fun x c e => ?_⟩, I.bs, Nat.le_trans I.ok.bsz I.sz, fun b o e hb => ?_, fun b hb z => ?_, I.stack, I.stkFree⟩,
    rfl, I.bare, Un.kept keep, ⟨m, hn, fun j x v e1 e2 e3 => ?_⟩, fun x c e => ?_, I.hok.fresh hC, fun x c e => ?_, fun p hp => ?_, I.hok.kept keep, ?_⟩
  · exact I.ok.inj x y c (S.sub x c e1).1 (S.sub y c e2).1
  · exact absurd (beq_iff_eq.mp e1) (S.sub x c e2).2
  · obtain ⟨o, e⟩ := hob b hb
    exact neC b o e
  · exact (hfp b hb).2.2.2.2.1 x c (S.sub x c e).1
  · rcases (hfp b hb).2.2.2.1 with z | z
    · exact I.ok.noex b o e z
    · exact absurd (Nat.lt_of_lt_of_le (Heap.lt_size e) (Nat.le_trans I.ok.bsz z)) (Nat.lt_irrefl _)
  · rcases List.mem_cons.mp (I.stkSub b z) with z | z
    · exact (hfp b hb).2.1 z
    · exact (hfp b hb).2.2.1 z
  · obtain ⟨i, hm, hv⟩ := capSt_get e2
    obtain ⟨x', c, q1, q2, q3, q4, q5⟩ := S.caps j i hm
    have e1' : Nc[j]? = some x := e1
    rw [q1] at e1'
    cases e1'
    obtain ⟨mo, _, hl⟩ := I.loc
    obtain ⟨u, r, l⟩ := hl i x v q2 hv (.inr (.inl q4))
    refine ⟨u, r, ?_⟩
    rcases l with ⟨k, _⟩ | ⟨_, c', e', z⟩
    · have k' : X.env.scope.names.lookup x = some .local := k
      rw [q4] at k'
      cases k'
    · have : c' = c := Option.some.inj (e'.symm.trans (S.sub x c q3).1)
      subst this
      obtain ⟨o, ho, hd⟩ := z
      exact .inr ⟨.inl q5, c', q3, ⟨o, keep _ _ ho, hd⟩⟩
  · obtain ⟨v, o, ho, hd⟩ := I.cell x c (S.sub x c e).1
    exact ⟨v, o, keep _ _ ho, hd⟩
  · exact I.freeC x c (S.sub x c e).1
  · have hp' : p ∈ X.pn ++ pins := by
      have z : p ∈ (X.pn ++ pins) ++ [] := hp
      rw [List.append_nil] at z
      exact z
    obtain ⟨e, n, ne, nf, d⟩ := I.pin p hp'
    refine ⟨keep _ _ e, n, neC _ _ e, fun z => ?_, d⟩
    rcases List.mem_cons.mp (I.stkSub p.1 z) with z | z
    · exact ne z
    · exact nf z
  · show (capSt Nc.length cap σ).length = Nc.length
    unfold capSt
    rw [List.length_map, List.length_range]

theorem comp_back (I : Inv X pins σ H s) (hfp : ∀ b ∈ fp, FpOk X pins H b) {C : Addr} {σc : St} {H' : Hp} {s' : Shared} {h' : Heap} (J : Inv (cxComp X scope cl C Nc fp pins s H) [] σc H' s') (hs : Heap.SameBut C s'.heap h') : Inv X pins σ H' { s' with heap := h' } := by
  have hC : s.heap.objs.size ≤ C := J.ok.above
  have neC : ∀ b o, s.heap.get? b = some o → b ≠ C := fun b o e => Nat.ne_of_lt (Nat.lt_of_lt_of_le (Heap.lt_size e) hC)
  have u := J.base
  refine I.call' (s' := { s' with heap := h' }) (ch := fp) J.os ⟨fun b o e n hb hx => ?_, fun b o e n hb hx => ?_, u.free, fun b o e hx => ?_, u.tups, u.frzs, u.tbls⟩ (fun b o e => ?_) J.bare fun b hb => ⟨(hfp b hb).2.2.2.1, (hfp b hb).2.1, (hfp b hb).2.2.2.2.1, (hfp b hb).2.2.2.2.2⟩
  · exact (hs.2 b (neC b o e)).trans (u.keep b o e n hb hx)
  · obtain ⟨sl, q⟩ := u.slot b o e n hb hx
    exact ⟨sl, (hs.2 b (neC b o e)).trans q⟩
  · obtain ⟨o', q⟩ := u.there b o e hx
    exact ⟨o', (hs.2 b (neC b o e)).trans q⟩
  · refine (J.hok b o e).stay (fun c v hc q => (hs.2 c ?_).trans q) (fun _ q => q) fun _ _ q => q
    intro z
    subst z
    have fr : H' c = none := J.free
    rcases hc with hc | hc
    · rw [hc] at fr; rw [fr] at e; cases e
    · rw [fr] at hc; cases hc
end

noncomputable def tComp (n : Nat) (cap : List (Nat × Nat)) (wi : TI) (g : TG) (te : TE) : TE := fun σ H Q => wi σ H fun J H1 => ∀ acc, H1 acc = none →
  ∃ W : Nat → Nat → List V → St → Hp → Prop, (∃ m, W 0 m [] (capSt n cap σ) (upd H1 acc (.lst []))) ∧ ∀ i m ys σc H2, W i m ys σc H2 →
    (J.stop i H2 ∧ Q (.ref acc) H2) ∨ (J.go i H2 ∧ ∀ x H3, J.yld i H2 x H3 → g x σc H3 fun σ4 H4 => te σ4 H4 fun v H5 => H5 acc = some (.lst ys) ∧ ys.length < sizeLine ∧ ∃ m', m' < m ∧ W (i + 1) m' (ys ++ [v]) σ4 (upd H5 acc (.lst (ys ++ [v]))))

noncomputable def tCompF (n : Nat) (cap : List (Nat × Nat)) (wi : TI) (g : TG) (tt : TT) (te : TE) : TE := fun σ H Q => wi σ H fun J H1 => ∀ acc, H1 acc = none →
  ∃ W : Nat → Nat → List V → St → Hp → Prop, (∃ m, W 0 m [] (capSt n cap σ) (upd H1 acc (.lst []))) ∧ ∀ i m ys σc H2, W i m ys σc H2 →
    (J.stop i H2 ∧ Q (.ref acc) H2) ∨ (J.go i H2 ∧ ∀ x H3, J.yld i H2 x H3 → g x σc H3 fun σ4 H4 => tt σ4 H4 fun ok H5 => if ok = true then (te σ4 H5 fun v H6 => H6 acc = some (.lst ys) ∧ ys.length < sizeLine ∧ ∃ m', m' < m ∧ W (i + 1) m' (ys ++ [v]) σ4 (upd H6 acc (.lst (ys ++ [v])))) else ∃ m', m' < m ∧ W (i + 1) m' ys σ4 H5)
noncomputable def PTs (X : Cx) (ifs : List PySem.Expr) (tt : TT) : Prop := ∀ (pins : List (Addr × Obj)) (s : Shared) (σ : St) (H : Hp) (Q : Bool → Hp → Prop), Inv X pins σ H s → tt σ H Q →
  wpAny (model X.prog X.w) X.A (forIn ifs true fun c r => if r = true then do let ok ← isTrue c X.env (eval c X.env); pure (ForInStep.yield ok) else pure (ForInStep.yield r)) (fun ok s' => ∃ H', Inv X pins σ H' s' ∧ Q ok H') X.xe s
theorem pts_nil {X : Cx} : PTs X [] (fun _ H Q => Q true H) := fun _ _ _ H _ I q => wpAny_tests_nil ⟨H, I, q⟩
section
variable {prog : Program} {w : World} {A : Around} {s : Shared}
theorem compLoop_any {elt iter tg : PySem.Expr} {ifs : List PySem.Expr} {scope : Scope} {pos : Pos} {it acc : Value} {env : Env} {R : Result → Shared → Prop} (I : Nat → Shared → Prop)
    (turn : ∀ n s, I n s → wpAny (model prog w) A (pyNext it) (fun r s₁ => match r with
      | none => R (.ok .next) s₁
      | some v => wpAny (model prog w) A (letOwnedTupleGo tg it v) (fun _ s₁' => wpAny (model prog w) A (assign tg env v) (fun _ s₂ =>
          wpAny (model prog w) A (forIn ifs true fun c r => if r = true then do let ok ← isTrue c env (eval c env); pure (ForInStep.yield ok) else pure (ForInStep.yield r)) (fun ok s₃ => if ok = true then
            wpAny (model prog w) A (eval elt env) (fun x s₄ =>
              wpAny (model prog w) A (call (.builtin "list.append") [acc, x]) (fun _ s₅ => ∃ m, m < n ∧ I m s₅) (fun _ _ => False) s₄) (fun _ _ => False) s₃
            else ∃ m, m < n ∧ I m s₃) (fun _ _ => False) s₂)
          (fun _ _ => False) s₁') (fun _ _ => False) s₁) (notedBy (model prog w) A env fun e s' => R (.error e) s') s)
    (n : Nat) (h : I n s) : codeAny (model prog w) A (.compLoop (.ListComp elt [⟨tg, iter, ifs, 0⟩] scope pos) 0 it acc env) R s := by
  refine codeAny_loop rfl I (fun n s hI => ?_) n h
  show wpAny _ A ((compTurn (.ListComp elt [⟨tg, iter, ifs, 0⟩] scope pos) 0 it acc env).onRaise (fun x => do noteFrame x env; theTreesLotGoes x)) _ _ s
  refine wpAny_noted ?_
  rw [compTurn_list]
  refine wpAny_bind (wpAny_standAt (wpAny_bind (wpAny_mono (turn n s hI) (fun r s₁ h₁ => ?_) fun _ _ h' => h')))
  cases r with
  | none => exact wpAny_pure h₁
  | some v =>
    refine wpAny_bind (wpAny_mono h₁ (fun _ s₁' h₁' => ?_) fun _ _ h' => False.elim h')
    refine wpAny_bind (wpAny_mono h₁' (fun _ s₂ h₂ => wpAny_bind (wpAny_mono h₂ (fun ok s₃ h₃ => ?_) fun _ _ h' => False.elim h')) fun _ _ h' => False.elim h')
    cases ok with
    | false => exact wpAny_pure ⟨rfl, h₃⟩
    | true =>
      exact wpAny_bind (wpAny_bind (wpAny_mono h₃ (fun x s₄ h₄ => wpAny_bind (wpAny_mono h₄ (fun _ s₅ h₅ => wpAny_pure (wpAny_pure ⟨rfl, h₅⟩)) fun _ _ h' => False.elim h')) fun _ _ h' => False.elim h'))
end
section
variable {X : Cx} {elt iter tg : PySem.Expr} {ifs : List PySem.Expr} {pos : Pos} {scope : Scope} {cl : List (Str × Addr)} {Nc : List Str} {cap : List (Nat × Nat)} {wi : TI} {g : TG} {tt : TT} {te : TE}
theorem comp_core {pins : List (Addr × Obj)} {s : Shared} {σ : St} {H : Hp} {Q : V → Hp → Prop} {pos' : Pos} {use : Option (Value → Sem Unit)} {P : Value → Shared → Prop} (hc : X.calm = true) (hi : PI X tg iter wi) (S : CompScope X scope cl Nc cap)
    (hg : ∀ C fp pins s H, PG (cxComp X scope cl C Nc fp pins s H) tg g) (ht : ∀ C fp pins s H, PTs (cxComp X scope cl C Nc fp pins s H) ifs tt) (he : ∀ C fp pins s H, PE (cxComp X scope cl C Nc fp pins s H) elt te)
    (hs : ∀ y, foldedSetIterable iter X.env y = pure y) (I : Inv X pins σ H s) (h : tCompF Nc.length cap wi g tt te σ H Q)
    (fin : ∀ (acc C : Addr) (H5 : Hp) (s6 : Shared) (m6 : Str → Option Value), Inv X pins σ H5 s6 → FpOk X pins H5 C → s6.heap.Ns C m6 → Q (.ref acc) H5 → compPost (model X.prog X.w) X.A X.xe use P (.ref acc) C (.ok .next) s6) :
    wpAny (model X.prog X.w) X.A (comprehension (.ListComp elt [⟨tg, iter, ifs, 0⟩] scope pos) scope X.env pos' (newList []) false (eval iter X.env) use) P X.xe s := by
  refine wpAny_comprehension_free (use := use) (cl := cl) rfl hs S.clos S.kind S.names ?_
  refine thn (hi pins s σ H _ I h) fun v s1 h1 => thn h1 fun itv s2 h2 => ?_
  obtain ⟨it, fp, tn, J, H2, e, I2, T, st2, f2, rd⟩ := h2
  subst e
  refine wpAny_newObj_type ?_
  have hacc : H2 s2.heap.objs.size = none := I2.hok.fresh (Nat.le_refl _)
  obtain ⟨W, ⟨m0, w0⟩, turn⟩ := rd s2.heap.objs.size hacc
  -- the list is tracked
  have I3 : Inv X pins σ (upd H2 s2.heap.objs.size (.lst [])) { s2 with heap := s2.heap.push { cls := .type "list", dict := none, data := .seq ([] : List Value).toArray } } :=
    I2.laid (t' := s2.toks) (fun b u e => Heap.get?_push_of_some _ e) (Nat.le_refl _) ⟨Nat.zero_le _, [], 0, .nil, Heap.get?_push_size _ rfl⟩
  have st3 : tn 0 (s2.heap.push { cls := .type "list", dict := none, data := .seq ([] : List Value).toArray }) := T.keep _ _ _ st2 fun b _ o e => Heap.get?_push_of_some _ e
  have f3 : ∀ b ∈ fp, FpOk X pins (upd H2 s2.heap.objs.size (.lst [])) b := fun b hb => by
    obtain ⟨o, e, _⟩ := T.obj _ _ st2 b hb
    refine ⟨?_, (f2 b hb).2⟩
    rw [upd_ne (Nat.ne_of_lt (Heap.lt_size e))]
    exact (f2 b hb).1
  generalize hh3 : s2.heap.push { cls := .type "list", dict := none, data := .seq ([] : List Value).toArray } = h3 at I3 st3 ⊢
  generalize hH3 : upd H2 s2.heap.objs.size (.lst []) = H3 at I3 f3 w0
  generalize s2.heap.objs.size = acc at *
  refine wpAny_newFunctionEnv S.nocell (by intro y hy; simp at hy) (fun h4 hns hsb => ?_) S.kind
  dsimp only at hns hsb ⊢
  have keep : ∀ b o, h3.get? b = some o → h4.get? b = some o := fun b o e => hsb.extBut b o (Nat.ne_of_lt (Heap.lt_size e)) (Heap.get?_push_of_some _ e)
  have f0 : ∀ b ∈ fp, ∃ o, h3.get? b = some o := fun b hb => by
    obtain ⟨o, e, _⟩ := T.obj _ _ st3 b hb
    exact ⟨o, e⟩
  have I4 := inv_comp (tk := s2.toks + ([] : List (Str × Value)).length) I3 hc S f3 f0 (C := h3.objs.size) (Nat.le_refl _) hns keep
  have st4 : tn 0 h4 := T.keep _ _ _ st3 fun b _ o e => keep b o e
  have stat : ∀ {H' : Hp}, (∀ b ∈ fp, H' b = none) → ∀ b ∈ fp, FpOk (cxComp X scope cl h3.objs.size Nc fp pins { s2 with heap := h3 } H3) [] H' b := fun hn b hb => by
    obtain ⟨o, e⟩ := f0 b hb
    refine ⟨hn b hb, Nat.ne_of_lt (Heap.lt_size e), I4.ok.exfs b hb, .inl hb, fun x c q => (f3 b hb).2.2.2.2.1 x c (S.sub x c q).1, fun p hp => ?_⟩
    have z : p ∈ (X.pn ++ pins) ++ [] := hp
    rw [List.append_nil] at z
    exact (f3 b hb).2.2.2.2.2 p z
  have loop : codeAny (model X.prog X.w) X.A (.compLoop (.ListComp elt [⟨tg, iter, ifs, 0⟩] scope pos) 0 (.ref it) (.ref acc) (compEnvC scope cl h3.objs.size X.env)) (compPost (model X.prog X.w) X.A X.xe use P (.ref acc) h3.objs.size)
      { s2 with heap := h4, toks := s2.toks + ([] : List (Str × Value)).length } := by
    refine compLoop_any (fun n s' => ∃ i ys σ' H', Inv (cxComp X scope cl h3.objs.size Nc fp pins { s2 with heap := h3 } H3) [] σ' H' s' ∧ tn i s'.heap ∧ (∀ b ∈ fp, H' b = none) ∧ W i n ys σ' H') ?_ m0 ⟨0, [], _, H3, I4, st4, fun b hb => (f3 b hb).1, w0⟩
    rintro n s5 ⟨i, ys, σ5, H5, I5, st5, fr5, w5⟩
    rcases turn i n ys σ5 H5 w5 with ⟨stop, qn⟩ | ⟨go, step⟩
    · refine thn (T.done (cxComp X scope cl h3.objs.size Nc fp pins { s2 with heap := h3 } H3) rfl rfl rfl rfl i [] s5 σ5 H5 _ I5 (stat fr5) st5 stop) fun r s6 ⟨hr, I6⟩ => ?_
      subst hr
      obtain ⟨m6, hn6, _⟩ := id I6.loc
      exact fin acc _ H5 s6 m6 (comp_back (h' := s6.heap) I3 f3 I6 ⟨rfl, fun _ _ => rfl⟩) (I3.fpOk (Nat.le_refl _) I6.free) hn6 qn
    · refine wpAny_mono (T.item (cxComp X scope cl h3.objs.size Nc fp pins { s2 with heap := h3 } H3) rfl rfl rfl rfl i [] s5 σ5 H5 (fun _ _ => False) I5 (stat fr5) st5 go) (fun r s6 ⟨u, hr, h6⟩ => ?_) fun _ _ z => False.elim z
      subst hr
      refine thn h6 fun _ s7 ⟨y, H7, I7, r7, y7, st7, fr7⟩ => ?_
      have I7' := I7.pinned (stat fr7) (T.obj _ _ st7)
      have kp : ∀ {σ8 : St} {H8 : Hp} {s8 : Shared}, Inv (cxComp X scope cl h3.objs.size Nc fp pins { s2 with heap := h3 } H3) ([] ++ pinsAt fp s7.heap) σ8 H8 s8 → tn (i + 1) s8.heap ∧ ∀ b ∈ fp, H8 b = none := fun {σ8 H8 s8} I8 =>
        ⟨T.keep _ _ _ st7 fun b hb o e => (I8.pin (b, o) (List.mem_append_right _ (List.mem_append_right _ (mem_pinsAt hb e)))).1, fun b hb => by
          obtain ⟨o, e, d⟩ := T.obj _ _ st7 b hb
          exact (I8.pin (b, o) (List.mem_append_right _ (List.mem_append_right _ (mem_pinsAt hb e)))).2.1⟩
      refine thn (hg _ _ _ _ _ _ s7 σ5 H7 y u _ I7' r7 (step y H7 y7)) fun _ s8 ⟨σ8, H8, I8, q8⟩ => ?_
      refine thn (ht _ _ _ _ _ _ s8 σ8 H8 _ I8 q8) fun ok s9 ⟨H9, I9, q9⟩ => ?_
      cases ok with
      | false =>
        rw [if_neg Bool.false_ne_true] at q9 ⊢
        obtain ⟨m', hm, w'⟩ := q9
        obtain ⟨st9, fr9⟩ := kp I9
        exact ⟨m', hm, i + 1, ys, σ8, H9, I9.unpinned, st9, fr9, w'⟩
      | true =>
        rw [if_pos rfl] at q9 ⊢
        refine thn (he _ _ _ _ _ _ s9 σ8 H9 _ I9 q9) fun w10 s10 ⟨v10, H10, I10, r10, e10, l10, m', hm, q10⟩ => ?_
        refine thn (mt_append _ s10 σ8 H10 (.ref acc) [v10] (.ref acc) [w10] (fun _ H11 => W (i + 1) m' (ys ++ [v10]) σ8 H11) I10 rfl (.cons r10 .nil) ⟨acc, ys, v10, rfl, rfl, e10, l10, q10⟩) fun _ s11 ⟨_, H11, I11, _, q11⟩ => ?_
        obtain ⟨st11, fr11⟩ := kp I11
        exact ⟨m', hm, i + 1, ys ++ [v10], σ8, H11, I11.unpinned, st11, fr11, q11⟩
  exact codeAny_compStart_list loop (T.self _ 0 _ _ _ st4 loop)
theorem pe_compG (hc : X.calm = true) (hi : PI X tg iter wi) (S : CompScope X scope cl Nc cap)
    (hg : ∀ C fp pins s H, PG (cxComp X scope cl C Nc fp pins s H) tg g) (ht : ∀ C fp pins s H, PTs (cxComp X scope cl C Nc fp pins s H) ifs tt) (he : ∀ C fp pins s H, PE (cxComp X scope cl C Nc fp pins s H) elt te)
    (hs : ∀ y, foldedSetIterable iter X.env y = pure y := by intro _; rfl) : PE X (.ListComp elt [⟨tg, iter, ifs, 0⟩] scope pos) (tCompF Nc.length cap wi g tt te) := by
  intro pins s σ H Q I h
  rw [eval_ListComp]
  exact comp_core (use := none) hc hi S hg ht he hs I h fun acc C H5 s6 m6 back fpC hn qn => ⟨m6, hn, fun h7 hs7 => ⟨.ref acc, H5, back.turned (t' := s6.toks) (fun b o hb q => (hs7.2 b hb).trans q) fpC.1 fpC.2.1 fpC.2.2.2.1 fpC.2.2.2.2.1 fpC.2.2.2.2.2, rfl, qn⟩⟩
theorem tCompF_nil {n : Nat} : tCompF n cap wi g (fun _ H Q => Q true H) te = tComp n cap wi g te := by
  unfold tCompF tComp
  simp only [if_true]
theorem pe_comp (hc : X.calm = true) (hi : PI X tg iter wi) (S : CompScope X scope cl Nc cap)
    (hg : ∀ C fp pins s H, PG (cxComp X scope cl C Nc fp pins s H) tg g) (he : ∀ C fp pins s H, PE (cxComp X scope cl C Nc fp pins s H) elt te)
    (hs : ∀ y, foldedSetIterable iter X.env y = pure y := by intro _; rfl) : PE X (.ListComp elt [⟨tg, iter, [], 0⟩] scope pos) (tComp Nc.length cap wi g te) :=
  tCompF_nil ▸ pe_compG (ifs := []) (pos := pos) hc hi S hg (fun _ _ _ _ _ => pts_nil) he hs
theorem ps_setCompG {i : Nat} {y : Str} {py spos : Pos} (hN : X.N.Nodup) (hiN : X.N[i]? = some y) (hy : Loc X.env.scope y)
    (hc : X.calm = true) (hi : PI X tg iter wi) (S : CompScope X scope cl Nc cap)
    (hg : ∀ C fp pins s H, PG (cxComp X scope cl C Nc fp pins s H) tg g) (ht : ∀ C fp pins s H, PTs (cxComp X scope cl C Nc fp pins s H) ifs tt) (he : ∀ C fp pins s H, PE (cxComp X scope cl C Nc fp pins s H) elt te)
    (hsw : swapsWith (.ListComp elt [⟨tg, iter, ifs, 0⟩] scope pos) (some (.Name y py)) spos.line X.env = pure true := by rfl) (hs : ∀ z, foldedSetIterable iter X.env z = pure z := by intro _; rfl)
    (hf : X.fn y = true ∨ X.env.scope.names.lookup y = some .local := by first | exact .inl rfl | exact .inr rfl | assumption) :
    PS X (.Assign [.Name y py] (.ListComp elt [⟨tg, iter, ifs, 0⟩] scope pos) spos) (tAsg (tCompF Nc.length cap wi g tt te) (gName i)) := by
  intro pins s σ H D I h
  rw [exec_Assign_Name_used _ _ _ _ hsw]
  refine wpAny_bind (wpAny_standAt (wpAny_bind ?_))
  show wpAny _ X.A (do let _ ← comprehension (.ListComp elt [⟨tg, iter, ifs, 0⟩] scope pos) scope X.env _ (newList []) false (eval iter X.env) (some (assign (.Name y py) X.env))) _ _ s
  refine wpAny_bind (wpAny_mono (comp_core (use := some (assign (.Name y py) X.env)) (P := fun _ s' => SP X pins D .next s') hc hi S hg ht he hs I h fun acc C H5 s6 m6 back fpC hn6 qn => ?_) (fun _ s' hq => wpAny_pure (wpAny_pure hq)) fun _ _ e => e)
  show wpAny (model X.prog X.w) X.A (assign (.Name y py) X.env (.ref acc)) _ X.xe s6
  refine wpAny_assign_Name (store_ok2 (v := .ref acc) back hN hiN hy rfl (fun s7 I7 ⟨a7, sb7, e7⟩ => ?_) hf)
  have nC : C ≠ a7 := by
    rcases e7 with e7 | e7
    · rw [e7]; exact fpC.2.1
    · exact Ne.symm (fpC.2.2.2.2.1 _ _ e7)
  refine ⟨m6, hn6.sameBut sb7 nC, fun h8 hs8 => ⟨_, H5, ?_, qn⟩⟩
  exact I7.turned (t' := s7.toks) (fun b o hb q => (hs8.2 b hb).trans q) fpC.1 fpC.2.1 fpC.2.2.2.1 fpC.2.2.2.2.1 fpC.2.2.2.2.2
theorem ps_setComp {i : Nat} {y : Str} {py spos : Pos} (hN : X.N.Nodup) (hiN : X.N[i]? = some y) (hy : Loc X.env.scope y)
    (hc : X.calm = true) (hi : PI X tg iter wi) (S : CompScope X scope cl Nc cap)
    (hg : ∀ C fp pins s H, PG (cxComp X scope cl C Nc fp pins s H) tg g) (he : ∀ C fp pins s H, PE (cxComp X scope cl C Nc fp pins s H) elt te)
    (hsw : swapsWith (.ListComp elt [⟨tg, iter, [], 0⟩] scope pos) (some (.Name y py)) spos.line X.env = pure true := by rfl) (hs : ∀ z, foldedSetIterable iter X.env z = pure z := by intro _; rfl)
    (hf : X.fn y = true ∨ X.env.scope.names.lookup y = some .local := by first | exact .inl rfl | exact .inr rfl | assumption) :
    PS X (.Assign [.Name y py] (.ListComp elt [⟨tg, iter, [], 0⟩] scope pos) spos) (tAsg (tComp Nc.length cap wi g te) (gName i)) :=
  tCompF_nil ▸ ps_setCompG (ifs := []) hN hiN hy hc hi S hg (fun _ _ _ _ _ => pts_nil) he hsw hs hf
end
end L2
namespace L2
open PySem PySem.Spec PyProof.Rows
section
variable {X : Cx}
noncomputable def Big (i : Int) : Prop := i.natAbs < 2 ^ 8000
theorem big_log {i : Int} (h : Big i) : i.natAbs.log2 < 8000 := by
  by_cases z : i.natAbs = 0
  · rw [z]; decide
  · exact (Nat.log2_lt z).mpr h
noncomputable def CDivB (_ j : Int) : Prop := j ≠ 0 ∧ Big j
theorem op_fdivB : OpR X (binaryOp .FloorDiv) (rI CDivB fun i j => .int (i.fdiv j)) := opI fun _ _ _ _ _ _ _ hc q => floordiv_int hc.1 q (.inl (PyProof.noPylong_of_log2 (by have := big_log hc.2; omega)))
noncomputable def rIsi (K : PySem.W.Frag) (c : V) (cv : Value) : List V → Hp → VK → Prop := fun xs H Q => ∃ x t b, xs = [x, c] ∧ TyOf K H x t ∧ PySem.W.kitOne K t cv = some b ∧ Q (.bl b) H
theorem call_isi {c : V} {cv : Value} (hc : ∀ u, RelV c u → u = cv) : CallR X (.builtin "isinstance") (rIsi X.K c cv) := by
  intro pins s σ H xs us Q I r h
  obtain ⟨x, t, b, rfl, ty, e, q⟩ := h
  obtain ⟨u, w', rfl, r1, r2⟩ := vals2 r
  cases hc w' r2
  exact isinst_ok I r1 ty e fun tk => ⟨.bl b, H, I.tok _, rfl, q⟩
end
end L2
namespace L2
open PySem PySem.Spec PyProof.Rows
theorem bt_isinstance : bootBuiltins "isinstance" = some (.builtin "isinstance") := by decide +kernel
theorem bt_int : bootBuiltins "int" = some (.type "int") := by decide +kernel
theorem bt_bool : bootBuiltins "bool" = some (.type "bool") := by decide +kernel
theorem bt_tuple : bootBuiltins "tuple" = some (.type "tuple") := by decide +kernel
theorem bt_all : bootBuiltins "all" = some (.builtin "all") := by decide +kernel
theorem bt_len : bootBuiltins "len" = some (.builtin "len") := by decide +kernel
theorem bt_abs : bootBuiltins "abs" = some (.builtin "abs") := by decide +kernel
theorem bt_max : bootBuiltins "max" = some (.builtin "max") := by decide +kernel
theorem bt_min : bootBuiltins "min" = some (.builtin "min") := by decide +kernel
theorem kit_self (K : PySem.W.Frag) (t : Value) : PySem.W.kitOne K t t = some true := by
  unfold PySem.W.kitOne
  rw [if_pos (beq_self_eq_true t)]
theorem kit_int_bool (K : PySem.W.Frag) : PySem.W.kitOne K (.type "int") (.type "bool") = some false := by first | rfl | decide +kernel | kernel_rfl
theorem kit_int_tuple (K : PySem.W.Frag) : PySem.W.kitOne K (.type "int") (.type "tuple") = some false := by first | rfl | decide +kernel | kernel_rfl
section
variable {X : Cx}
end
end L2
namespace L2
open PySem PySem.Spec PyProof.Rows
section
variable {X : Cx}
theorem vals_bl : ∀ {bs : List Bool} {us : List Value}, Vals (bs.map V.bl) us → us = bs.map Value.bool
  | [], _, .nil => rfl
  | b :: r, _, .cons (b := u) h t => by
    have h' : u = Value.bool b := h
    rw [h', vals_bl t]
    rfl
noncomputable def rAll (K : PySem.W.Frag) : List V → Hp → VK → Prop := fun xs H Q => ∃ (p : Addr) (bs : List Bool), xs = [.ref p] ∧ SqL K H p (bs.map V.bl) ∧ Q (.bl (bs.all id)) H
theorem all_range (bs : List Bool) : ((List.range bs.length).all fun i => (bs[i]?).getD true) = bs.all id := by
  rw [Bool.eq_iff_iff, List.all_eq_true, List.all_eq_true]
  constructor
  · intro h b hb
    obtain ⟨i, hi, rfl⟩ := List.mem_iff_getElem.mp hb
    have := h i (List.mem_range.mpr hi)
    rw [List.getElem?_eq_getElem hi] at this
    exact this
  · intro h i hi
    have hl := List.mem_range.mp hi
    rw [List.getElem?_eq_getElem hl]
    exact h _ (List.getElem_mem hl)
theorem call_allB (hc : X.calm = true) : CallR X (.builtin "all") (rAll X.K) := by
  intro pins s σ H xs us Q I r h
  obtain ⟨p, bs, rfl, hq, q⟩ := h
  obtain ⟨u, rfl, r1⟩ := vals1 r
  cases r1
  obtain ⟨its, rv, pl, hz⟩ := I.list hq
  have e := vals_bl rv
  subst e
  have hlt : p < s.heap.objs.size := by
    obtain ⟨o, _, ho, _⟩ := pl
    exact Heap.lt_size ho
  refine call_all_walk (wpAny_pyIter_list pl.isList ?_)
  refine ⟨s.heap.objs.size, _, _, _, _, _, fun i => (bs[i]?).getD true, rfl, Walks.list (show X.A.in1.handled = none from I.ok.hd hc) _ p (Nat.ne_of_lt hlt) (bs.map Value.bool).toArray, ⟨⟨_, Heap.get?_push_size _ rfl, rfl, rfl⟩, pl.isList.push _⟩, fun i v s' Q' E' hP hQ' => ?_, fun h' tk k => ?_⟩
  · have hP : (bs.map Value.bool).toArray[i]? = some v := hP
    have hQ' : Q' ((bs[i]?).getD true) s' := hQ'
    rw [List.getElem?_toArray, List.getElem?_map] at hP
    cases e : bs[i]? with
    | none => rw [e] at hP; cases hP
    | some b =>
      rw [e] at hP
      obtain rfl : Value.bool b = v := Option.some.inj hP
      have hQ2 : Q' b s' := by
        rw [e] at hQ'
        exact hQ'
      exact wpAny_pure hQ2
  · refine ⟨.bl (bs.all id), H, I.kept fun b o eb => ?_, ?_, q⟩
    · exact k b o (fun z => by
        have : b = s.heap.objs.size := by simpa using z
        exact absurd (Heap.lt_size eb) (by rw [this]; exact Nat.lt_irrefl _)) (Heap.get?_push_of_some _ eb)
    · show Value.bool _ = Value.bool _
      rw [List.size_toArray, List.length_map, all_range]

end
end L2
namespace L2
open PySem PySem.Spec PyProof.Rows
section
variable {prog : Program} {w : World} {A : Around} {E : Value → Shared → Prop} {s : Shared}
theorem nextT_item {c t : Addr} {k : Nat} {vs : Array Value} {y : Value} {Q : Value → Shared → Prop} (hc : s.heap.IsTupleIter c t k) (ht : s.heap.IsTuple t vs) (hy : vs[k]? = some y)
    (hQ : ∀ h', h'.IsTupleIter c t (k + 1) → Heap.SameBut c s.heap h' → Q y { s with heap := h' }) : wpAny (model prog w) A (Builtin.SmallTypes.nextOf (.ref c)) Q E s := by
  obtain ⟨ob, e1, e2, e3⟩ := id hc
  obtain ⟨ot, f1, _, nt, f2⟩ := ht
  unfold Builtin.SmallTypes.nextOf
  refine wpAny_bind (wpAny_callSpecial?_slot (name := Str.ofString "__next__") hc.typeIs PySem.F.slot_tuple_iterator_next (wpAny_call_entry PySem.F.slot_tuple_iterator_next hc.typeIs PySem.F.entry_tuple_iterator_next ?_ (PySem.F.args_tuple_iterator_next_1 _)))
  show wpAny _ _ (field (.ref c) 0 >>= _) _ _ s
  refine wpAny_bind (wpAny_field e1 e3 (x := .ref t) rfl ?_)
  show wpAny _ _ (if (Value.ref t == Value.none) = true then _ else _) _ _ _
  rw [if_neg (show ¬ ((Value.ref t == Value.none) = true) by exact Bool.false_ne_true)]
  show wpAny _ _ (field (.ref c) 1 >>= _) _ _ s
  refine wpAny_bind (wpAny_field e1 e3 (x := .int k 0) rfl ?_)
  show wpAny _ _ (seqItems? (.ref t) >>= _) _ _ _
  refine wpAny_bind (wpAny_seqItems f1 f2 ?_)
  simp only [Int.toNat_natCast, hy]
  refine wpAny_bind (wpAny_setField e1 e3 (by simp) (wpAny_pure ⟨y, rfl, wpAny_pure (hQ _ ?_ (Heap.SameBut.update ..))⟩))
  exact ⟨_, Heap.get?_update_self _ e1 (Obj.isFreed_of_fields (Obj.data_mapFields e3 _)), (Obj.cls_mapFields ..).trans e2, by rw [Obj.data_mapFields e3]; simp [rawInt]⟩
theorem nextT_end {c t : Addr} {k : Nat} {vs : Array Value} {Q : Value → Shared → Prop} (hh : A.handled = none) (hc : s.heap.IsTupleIter c t k) (ht : s.heap.IsTuple t vs) (hy : vs[k]? = none)
    (hE : ∀ h' x, Heap.ExtBut c s.heap h' → (∃ o, h'.get? x = some o ∧ o.cls = .type "StopIteration") → E (.ref x) { s with heap := h' }) : wpAny (model prog w) A (Builtin.SmallTypes.nextOf (.ref c)) Q E s := by
  obtain ⟨ob, e1, e2, e3⟩ := id hc
  obtain ⟨ot, f1, _, nt, f2⟩ := ht
  unfold Builtin.SmallTypes.nextOf
  refine wpAny_bind (wpAny_callSpecial?_slot (name := Str.ofString "__next__") hc.typeIs PySem.F.slot_tuple_iterator_next (wpAny_call_entry PySem.F.slot_tuple_iterator_next hc.typeIs PySem.F.entry_tuple_iterator_next ?_ (PySem.F.args_tuple_iterator_next_1 _)))
  show wpAny _ _ (field (.ref c) 0 >>= _) _ _ s
  refine wpAny_bind (wpAny_field e1 e3 (x := .ref t) rfl ?_)
  show wpAny _ _ (if (Value.ref t == Value.none) = true then _ else _) _ _ _
  rw [if_neg (show ¬ ((Value.ref t == Value.none) = true) by exact Bool.false_ne_true)]
  show wpAny _ _ (field (.ref c) 1 >>= _) _ _ s
  refine wpAny_bind (wpAny_field e1 e3 (x := .int k 0) rfl ?_)
  show wpAny _ _ (seqItems? (.ref t) >>= _) _ _ _
  refine wpAny_bind (wpAny_seqItems f1 f2 ?_)
  simp only [Int.toNat_natCast, hy]
  refine wpAny_bind (wpAny_rule (wpAny_bind (wpAny_setField e1 e3 (by simp) ?_)))
  show wpAny _ _ (newExc (.type "StopIteration") [] >>= _) _ _ (_ : Shared)
  refine wpAny_bind ?_
  simp only [newExc, newTuple]
  refine wpAny_bind (wpAny_newObj_type ?_ (by size_fits)); refine wpAny_bind (m := firstArgMember _ _) (wpAny_of_eq (a := Value.none) (by first | rfl | (simp only [firstArgMember]; rfl)) ?_)
  refine wpAny_newObj_type ?_ (by size_fits); simp only [raiseNew]
  refine wpAny_bind (wpAny_handled ?_); first | rw [show A.in1.handled = none from hh] | rw [hh]
  refine wpAny_bind (wpAny_pure (wpAny_throw (hE _ _ (((Heap.SameBut.update ..).extBut.push _).push _) ⟨_, Heap.get?_push_size _ rfl, rfl⟩)))
theorem drawsT (hh : A.handled = none) (c t : Addr) (hne : t ≠ c) (vs : Array Value) :
    Draws prog w A c [c, t] vs.size (fun i v => vs[i]? = some v) (fun i h => h.IsTupleIter c t i ∧ h.IsTuple t vs) where
  live := fun _ _ st => let ⟨o, ho, _⟩ := st.1; ⟨o, ho⟩
  frame := fun _ _ _ st hk => ⟨let ⟨o, ho, r⟩ := st.1; ⟨o, hk c (by simp) o ho, r⟩, let ⟨o, ho, r⟩ := st.2; ⟨o, hk t (by simp) o ho, r⟩⟩
  item := fun i s' Q' E' hi st hQ => nextT_item st.1 st.2 (y := vs[i]) (by simp [hi]) fun h' k1 k2 => hQ _ h' s'.toks (by simp [hi]) ⟨k1, st.2.extBut k2.extBut hne⟩ k2
  done := fun s' Q' E' st hE => nextT_end hh st.1 st.2 (by simp) hE
set_option maxHeartbeats 1000000 in
theorem meets_enumT (t : Addr) (vs : Array Value) (n : Nat) (dct : Option Addr) (sl : Array (Option Value)) :
    Meets (Builtin.«enumerate.__new__» ⟨[.type "enumerate", .ref t], []⟩) (fun _ R s => s.heap.get? t = some { cls := .type "tuple", dict := dct, data := .seq vs n, slots := sl } ∧
      R (.ok (.ret (.ref (s.heap.push { cls := .type "tuple_iterator", data := .fields #[.ref t, .int 0 0] }).objs.size)))
        { s with heap := (s.heap.push { cls := .type "tuple_iterator", data := .fields #[.ref t, .int 0 0] }).push { cls := .type "enumerate", data := .fields #[.none, .bool false, .ref s.heap.objs.size, rawInt 0, .none, .none] } }) :=
  .of_wp fun prog w A R s h => by
    obtain ⟨hp, g, d, tk, os⟩ := s; obtain ⟨ht, h⟩ := h
    have hsub := sub_enumerate
    have hT : Heap.IsTuple (Shared.heap ⟨hp, g, d, tk, os⟩) t vs := ⟨_, ht, rfl, n, rfl⟩
    wp_walk using AutoSeq1.wpAny_loadPart' ht
    refine wpAny_stack_any fun st => wpAny_pure ?_
    split
    · rename_i c _ _ _ _ _
      cases (c == Value.type "enumerate") <;> (wp_walk using AutoSeq1.wpAny_loadPart' ht, wpAny_pyIter_tuple hT; exact ⟨_, rfl, h⟩)
    · wp_walk using AutoSeq1.wpAny_loadPart' ht, wpAny_pyIter_tuple hT; exact ⟨_, rfl, h⟩
theorem call_enumT {t : Addr} {vs : Array Value} {Q : Value → Shared → Prop} (hT : s.heap.IsTuple t vs)
    (h : ∀ h', IsEnum h' (s.heap.objs.size + 1) s.heap.objs.size 0 .none → h'.IsTupleIter s.heap.objs.size t 0 → (∀ b o, s.heap.get? b = some o → h'.get? b = some o) → Q (.ref (s.heap.objs.size + 1)) { s with heap := h' }) :
    wpAny (model prog w) A (call (.type "enumerate") [.ref t]) Q E s := by
  obtain ⟨⟨c, dct, dt, sl⟩, ht, hc, n, hd⟩ := hT
  obtain rfl : c = .type "tuple" := hc
  obtain rfl : dt = .seq vs n := hd
  refine callType_new PySem.F.called_enumerate (by decide) (PySem.F.typeCall_enumerate_1 _) (PySem.F.newCall_enumerate_1 _) (fun obj => PySem.F.args_object_init_2 obj _) PySem.F.entry_enumerate_new (meets_enumT t vs n dct sl) ⟨ht, ?_⟩
  have z : (s.heap.push { cls := .type "tuple_iterator", data := .fields #[.ref t, .int 0 0] }).objs.size = s.heap.objs.size + 1 := Heap.size_push ..
  show _ ∧ _
  rw [z]
  have he : IsEnum ((s.heap.push { cls := .type "tuple_iterator", data := .fields #[.ref t, .int 0 0] }).push { cls := .type "enumerate", data := .fields #[.none, .bool false, .ref s.heap.objs.size, rawInt 0, .none, .none] }) (s.heap.objs.size + 1) s.heap.objs.size 0 .none := by
    have q := Heap.get?_push_size (s.heap.push { cls := .type "tuple_iterator", data := .fields #[.ref t, .int 0 0] }) (o := { cls := .type "enumerate", data := .fields #[.none, .bool false, .ref s.heap.objs.size, rawInt 0, .none, .none] }) rfl
    rw [z] at q
    exact q
  exact ⟨⟨_, he, rfl⟩, h _ he ⟨_, Heap.get?_push_of_some _ (Heap.get?_push_size _ rfl), rfl, rfl⟩ fun b o q => Heap.get?_push_of_some _ (Heap.get?_push_of_some _ q)⟩
end
section
variable {X : Cx}
noncomputable def Ite (a : Addr) : It :=
  ⟨fun i H => ∃ xs x, H a = some (.tup xs) ∧ xs[i]? = some x,
   fun i H v H' => ∃ p x, v = .ref p ∧ H p = none ∧ H' = upd H p (.tup [.int i, x]) ∧ ∀ xs, H a = some (.tup xs) → xs[i]? = some x,
   fun i H => ∃ xs, H a = some (.tup xs) ∧ xs.length = i⟩
theorem turn_enum {P : Program} {w : World} {K : PySem.W.Frag} {es : List PySem.Expr} {kk : Nat} {pos : Pos} {a e it : Addr} (hei : e ≠ it) :
    Turn P w K (.Tuple es kk pos) (Ite a) [e, it] e (fun i h => (∃ old, IsEnum h e it ((i : Nat) : Int) old) ∧ h.IsTupleIter it a i) where
  mem := by simp
  obj := fun i h st c hc => by
    obtain ⟨⟨old, h1⟩, o2, h2, _, d2⟩ := st
    simp only [List.mem_cons, List.not_mem_nil, or_false] at hc
    rcases hc with rfl | rfl
    · exact ⟨_, h1, fun v z => by have z' : Data.fields _ = Data.cell v := z; cases z'⟩
    · exact ⟨_, h2, fun v z => by rw [d2] at z; cases z⟩
  keep := fun i h h' st k => by
    obtain ⟨⟨old, h1⟩, o2, h2, r⟩ := st
    exact ⟨⟨old, k e (by simp) _ h1⟩, o2, k it (by simp) _ h2, r⟩
  item := by
    intro X hP hw hK hc i pins s σ H E I hf st hg
    subst hP hw hK
    obtain ⟨xs, x, qa, hx⟩ := hg
    obtain ⟨its, rv, pa, _⟩ := I.tuple (SqT.of (K := X.K) qa)
    obtain ⟨ux, hux, rx⟩ := rv.get hx
    obtain ⟨⟨old, h1⟩, h2⟩ := st
    have nea : e ≠ a := fun z => by
      have := (hf e (by simp)).1
      rw [z, qa] at this
      cases this
    have nia : a ≠ it := fun z => by
      have := (hf it (by simp)).1
      rw [← z, qa] at this
      cases this
    have hlt : i < its.toArray.size := by
      rw [List.size_toArray]
      exact (List.getElem?_eq_some_iff.mp hux).1
    have D : Draws X.prog X.w X.A.in1 it [it, a] its.toArray.size (fun i v => its.toArray[i]? = some v) (fun i h => h.IsTupleIter it a i ∧ h.IsTuple a its.toArray) := drawsT (show X.A.in1.handled = none from I.ok.hd hc) it a nia its.toArray
    refine wpAny_pyNext_enum_itemD D h1 ⟨h2, pa⟩ hlt hei (by simp [hei, nea]) fun y h' tk hy a1 a2 a3 a4 k => ?_
    have hyx : y = ux := by
      have q1 : its.toArray[i]? = some y := hy
      rw [List.getElem?_toArray, hux] at q1
      exact (Option.some.inj q1).symm
    subst hyx
    refine ⟨_, rfl, wpAny_letOwnedTupleGo_enum a1 fun h'' b1 sb => ?_⟩
    have sb : Heap.SameBut e h' h'' := sb
    have hse : s.heap.objs.size ≠ e := Nat.ne_of_gt (Heap.lt_size h1)
    have hsi : s.heap.objs.size ≠ it := by
      obtain ⟨o, g, _⟩ := id h2
      exact Nat.ne_of_gt (Heap.lt_size g)
    have hn : H s.heap.objs.size = none := I.hok.fresh (Nat.le_refl _)
    have kk' : ∀ c o, c ∉ [e, it] → s.heap.get? c = some o → h''.get? c = some o := fun c o hc q =>
      (sb.2 c fun z => hc (by simp [z])).trans (k c o (fun z => hc (by simp [z])) (fun z => hc (by simp [z])) q)
    have tO : h''.get? s.heap.objs.size = some { cls := .type "tuple", data := .seq #[.int i tk, y] } := (sb.2 _ hse).trans a3
    have nt : ∀ c u, H c = some u → c ∉ [e, it] := fun c u q hc => by
      have := (hf c hc).1
      rw [q] at this
      cases this
    have tupOk : ObjOk X.prog X.w (upd H s.heap.objs.size (.tup [.int i, x])) h'' s.heap.objs.size (.tup [.int i, x]) :=
      ⟨by show 2 ≤ sizeLine; decide, [.int i tk, y], .cons ⟨tk, rfl⟩ (.cons rx .nil), ⟨_, tO, rfl, _, rfl⟩, _, tO, rfl⟩
    have I1 : Inv X pins σ (upd H s.heap.objs.size (.tup [.int i, x])) { s with heap := h'', toks := tk + 1 } := by
      refine I.step (g' := s.gens) (d' := s.drawn) (t' := tk + 1) (ch := [e, it]) (fun c hc => ⟨(hf c hc).2.2.2.1, (hf c hc).2.1, (hf c hc).2.2.2.2.1, (hf c hc).2.2.2.2.2⟩) (fun c o _ _ hc q _ => kk' c o hc q) (fun c o _ _ hc q _ => ⟨o.slots, kk' c o hc q⟩)
        (fun c o _ q n => by rw [upd_ne (Nat.ne_of_lt (Heap.lt_size q))]; exact n) (fun c o hc q => ⟨o, kk' c o hc q⟩) (fun c vs q => by rw [upd_ne (ne_of_none q hn)]; exact q) (fun c o vs q => by rw [upd_ne (ne_of_none q hn)]; exact q)
        (fun c ps q => ⟨#[], by rw [upd_ne (ne_of_none q hn), q]; simp⟩) (fun m hm => ?_) (fun c o q => ?_) I.bare
      · obtain ⟨o, es', ep, ho, r⟩ := hm
        exact ⟨o, es', ep, kk' _ o (fun q => (hf _ q).2.1 rfl) ho, r⟩
      · by_cases hcs : c = s.heap.objs.size
        · subst hcs
          rw [upd_same] at q
          cases q
          exact tupOk
        · rw [upd_ne hcs] at q
          refine (I.hok c o q).stay (fun d v hd z => kk' d v ?_ z) (fun d z => by rw [upd_ne (ne_of_none z hn)]; exact z) fun d vs z => by rw [upd_ne (ne_of_none z hn)]; exact z
          rcases hd with hd | hd
          · rw [hd]; exact nt c o q
          · exact nt d _ hd
    have g2 : h''.IsTupleIter it a (i + 1) := by
      obtain ⟨⟨o, g, r⟩, _⟩ := a2
      exact ⟨o, (sb.2 _ (Ne.symm hei)).trans g, r⟩
    have g1 : IsEnum h'' e it (((i + 1 : Nat)) : Int) y := by
      have : ((i + 1 : Nat) : Int) = (i : Int) + 1 := by omega
      rw [this]
      exact b1
    exact ⟨.ref s.heap.objs.size, _, I1, rfl, ⟨_, x, rfl, hn, rfl, fun xs' q => by rw [qa] at q; cases q; exact hx⟩, ⟨⟨_, g1⟩, g2⟩, fun c hc => by
      have : c ≠ s.heap.objs.size := by
        simp only [List.mem_cons, List.not_mem_nil, or_false] at hc
        rcases hc with rfl | rfl
        · exact Ne.symm hse
        · exact Ne.symm hsi
      rw [upd_ne this]
      exact (hf c hc).1⟩
  done := by
    intro X hP hw hK hc i pins s σ H E I hf st hg
    subst hP hw hK
    obtain ⟨xs, qa, hl⟩ := hg
    obtain ⟨its, rv, pa, _⟩ := I.tuple (SqT.of (K := X.K) qa)
    obtain ⟨⟨old, h1⟩, h2⟩ := st
    have nia : a ≠ it := fun z => by
      have := (hf it (by simp)).1
      rw [← z, qa] at this
      cases this
    have D : Draws X.prog X.w X.A.in1 it [it, a] its.toArray.size (fun i v => its.toArray[i]? = some v) (fun i h => h.IsTupleIter it a i ∧ h.IsTuple a its.toArray) := drawsT (show X.A.in1.handled = none from I.ok.hd hc) it a nia its.toArray
    have hi : its.toArray.size = i := by
      rw [List.size_toArray, ← rv.length]
      exact hl
    obtain ⟨f0, f1, f2, f3, f4, f5⟩ := hf it (by simp)
    refine wpAny_pyNext_enum_endD D h1 (by rw [hi]; exact ⟨h2, pa⟩) fun h' k => ⟨rfl, I.turned (t' := s.toks) (fun b o hb q => k b o hb q) f0 f1 f3 f4 f5⟩
  self := fun _ _ _ _ _ st h => by
    obtain ⟨⟨old, h1⟩, _⟩ := st
    exact wpAny_pyIter_enum h1 h
noncomputable def iEnum (ta : TA) : TI := fun σ H R => ta σ H fun vs H1 => ∃ a xs, vs = [.ref a] ∧ H1 a = some (.tup xs) ∧ R (Ite a) H1
theorem pi_enum {es : List PySem.Expr} {kk : Nat} {tpos : Pos} {a : PySem.Expr} {ta : TA} {p pos : Pos} (hg : Gl X "enumerate") (hm : X.mg "enumerate" = none) (ha : PA X [a] ta) (hs : starEach [a] X.env = [(false, eval a X.env)] := by rfl) :
    PI X (.Tuple es kk tpos) (.Call (.Name "enumerate" p) [a] [] pos) (iEnum ta) := by
  intro pins s σ H R I h
  refine Call_ (ld_blt I hg hm PyProof.Rows.boot_enumerate (PyProof.Rows.callWith_type1 (thn (ha pos pins s σ H _ I h) fun us s1 ⟨vs, H1, I1, r1, q1⟩ => ?_) hs rfl))
  obtain ⟨la, xs, e, qa, q⟩ := q1
  subst e
  obtain ⟨u1, rfl, ra⟩ := vals1 r1
  cases ra
  obtain ⟨its, rv, pa, _⟩ := I1.tuple (SqT.of (K := X.K) qa)
  refine call_enumT pa fun h' z1 z2 zk => wpAny_pyIter_enum z1 ?_
  have I2 : Inv X pins σ H1 { s1 with heap := h' } := I1.kept (t' := s1.toks) zk
  refine ⟨s1.heap.objs.size + 1, _, _, _, H1, rfl, I2, turn_enum (Nat.succ_ne_self _), ⟨⟨_, z1⟩, z2⟩, fun c hc => ?_, q⟩
  have hge : s1.heap.objs.size ≤ c := by
    simp only [List.mem_cons, List.not_mem_nil, or_false] at hc
    rcases hc with rfl | rfl <;> omega
  exact I1.fpOk (H' := H1) hge (I1.hok.fresh hge)
theorem for_enum {a : Addr} {xs : List V} {g : TG} {tb : TS} {D : Ends} {σ : St} {H : Hp} (Pv : Nat → St → Hp → Prop) (h0 : Pv 0 σ H) (hl : ∀ i σ H, i ≤ xs.length → Pv i σ H → H a = some (.tup xs))
    (hs : ∀ i x σ H p, xs[i]? = some x → Pv i σ H → H p = none → g (.ref p) σ (upd H p (.tup [.int i, x])) fun σ2 H2 => tb { D with nx := Pv (i + 1), ct := Pv (i + 1), bk := D.nx } σ2 H2) (hd : ∀ σ H, Pv xs.length σ H → D.nx σ H) :
    ∃ W : Nat → Nat → St → Hp → Prop, (∃ m, W 0 m σ H) ∧ ∀ i m σ H, W i m σ H →
      ((Ite a).stop i H ∧ D.nx σ H) ∨ ((Ite a).go i H ∧ ∃ N : St → Hp → Prop, (∀ σ' H', N σ' H' → ∃ m', m' < m ∧ W (i + 1) m' σ' H') ∧ ∀ x H', (Ite a).yld i H x H' → g x σ H' fun σ2 H2 => tb { D with nx := N, ct := N, bk := D.nx } σ2 H2) := by
  refine ⟨fun i m σ H => m = xs.length - i ∧ i ≤ xs.length ∧ Pv i σ H, ⟨xs.length, by simp, Nat.zero_le _, h0⟩, ?_⟩
  rintro i m σ H ⟨rfl, hi, p⟩
  have qa := hl i σ H hi p
  rcases Nat.lt_or_ge i xs.length with hlt | hge
  · refine .inr ⟨⟨xs, xs[i], qa, by simp [hlt]⟩, Pv (i + 1), fun σ' H' p' => ⟨xs.length - (i + 1), by omega, rfl, hlt, p'⟩, fun v H' yl => ?_⟩
    obtain ⟨pa, x, rfl, hp, rfl, hx⟩ := yl
    exact hs i x σ H pa (hx xs qa) p hp
  · obtain rfl : i = xs.length := by omega
    exact .inl ⟨⟨xs, qa, rfl⟩, hd σ H p⟩

noncomputable def rInsert : V → List V → Hp → VK → Prop := fun x vs H Q => ∃ l xs k y, x = .ref l ∧ vs = [.int k, y] ∧ H l = some (.lst xs) ∧ 0 ≤ k ∧ k ≤ xs.length ∧ xs.length < 1000000 ∧ Q .non (upd H l (.lst (xs.take k.toNat ++ y :: xs.drop k.toNat)))
theorem mt_insert : MtM X "list.insert" rInsert := by
  intro pins s σ H x vs v us Q I rx rv h
  obtain ⟨l, xs, k, y, rfl, rfl, hH, k0, k1, hz, q⟩ := h
  cases rx
  obtain ⟨u1, u2, rfl, r1, r2⟩ := vals2 rv
  obtain ⟨t, rfl⟩ := r1
  obtain ⟨z, its, n, r, hl, e⟩ := I.lstM hH
  have hzs : its.length ≤ sizeLine := by rw [← hl]; exact z
  have hfit : ¬ (!Builtin.List.listFitsIndex k) = true := by
    unfold Builtin.List.listFitsIndex
    simp only [Bool.not_eq_true, Bool.not_eq_false', Bool.and_eq_true, decide_eq_true_eq]
    omega
  refine call_meets PySem.F.slot_list_insert ⟨_, e, rfl⟩ PySem.F.entry_list_insert (PySem.F.args_list_insert_3 _ _ _) (AutoSeq1.list_insert_list_int_val_1 l its.toArray n k t u2 hfit (by rw [List.size_toArray]; exact hzs)) ⟨e, ?_⟩
  refine ⟨.non, _, I.lset (its' := its.take k.toNat ++ u2 :: its.drop k.toNat) hH e ?_ ((r.take _).append (.cons r2 (r.drop _))) ?_, rfl, q⟩
  · have hk : ¬ k < 0 := by omega
    have hm : min k.toNat its.toArray.size = k.toNat := by rw [List.size_toArray]; omega
    simp only [if_neg hk, hm]
    apply Array.toList_inj.mp
    simp
    exact List.take_of_length_le (by simp)
  · rw [List.length_append, List.length_cons, List.length_take, List.length_drop]
    rw [sizeLine_eq] at *
    omega

theorem call_minT (hc : X.calm = true) : CallR X (.builtin "min") (fun xs H Q => ∃ (p : Addr) (ns : List Int), xs = [.ref p] ∧ H p = some (.tup (ns.map V.int)) ∧ 0 < ns.length ∧ ∀ m, m ∈ ns → (∀ a ∈ ns, m ≤ a) → Q (.int m) H) := by
  intro pins s σ H xs us Q I r h
  obtain ⟨p, ns, rfl, hp, hne, q⟩ := h
  obtain ⟨u, rfl, r1⟩ := vals1 r
  cases r1
  obtain ⟨its, rv, pa, _⟩ := I.tuple (SqT.of (K := X.K) hp)
  have hlen : its.length = ns.length := by rw [← rv.length, List.length_map]
  have hlt : p < s.heap.objs.size := by
    obtain ⟨o, ho, _⟩ := id pa
    exact Heap.lt_size ho
  have num : ∀ i v, its.toArray[i]? = some v → ∃ t, v = .int (ns.getD i 0) t ∧ i < ns.length := fun i v hv => by
    rw [List.getElem?_toArray] at hv
    have hi : i < its.length := (List.getElem?_eq_some_iff.mp hv).1
    have hi2 : i < ns.length := by omega
    have hx : (ns.map V.int)[i]? = some (.int ns[i]) := by rw [List.getElem?_map, List.getElem?_eq_getElem hi2]; rfl
    obtain ⟨u, hu, ru⟩ := rv.get hx
    rw [hu] at hv
    obtain rfl : u = v := Option.some.inj hv
    obtain ⟨t, rfl⟩ := ru
    exact ⟨t, by rw [List.getD_eq_getElem?_getD, List.getElem?_eq_getElem hi2]; rfl, hi2⟩
  refine call_min_walk (wpAny_pyIter_tuple pa ?_)
  refine ⟨s.heap.objs.size, _, _, _, _, _, fun i j => decide (ns.getD i 0 < ns.getD j 0), rfl, Walks.tuple (show X.A.in1.handled = none from I.ok.hd hc) _ p (Nat.ne_of_lt hlt) its.toArray, ⟨⟨_, Heap.get?_push_size _ rfl, rfl, rfl⟩, pa.push _⟩, fun b hb => ?_, by rw [List.size_toArray]; omega, fun i j vi vj s' Q' E' hi hj hQ' => ?_, fun v h' tk hv k => ?_⟩
  · simp only [List.mem_cons, List.not_mem_nil, or_false] at hb
    rw [Heap.size_push]
    rcases hb with rfl | rfl
    · exact Nat.lt_succ_self _
    · exact Nat.lt_succ_of_lt hlt
  · obtain ⟨t1, rfl, _⟩ := num i vi hi
    obtain ⟨t2, rfl, _⟩ := num j vj hj
    exact lt_int hQ'
  · obtain ⟨t, rfl, hb⟩ := num _ v hv
    obtain ⟨h1, h2⟩ := argBest_lt (fun i => ns.getD i 0) (its.toArray.size - 1)
    refine ⟨.int _, H, I.kept fun b o eb => ?_, ⟨t, rfl⟩, q _ (getD_mem hb) fun a ha => ?_⟩
    · exact k b o (fun z => by
        have : b = s.heap.objs.size := by simpa using z
        exact absurd (Heap.lt_size eb) (by rw [this]; exact Nat.lt_irrefl _)) (Heap.get?_push_of_some _ eb)
    · obtain ⟨j, hj, rfl⟩ := mem_getD ha
      exact h2 j (by rw [List.size_toArray]; omega)

end
end L2
namespace L2
open PySem PySem.Spec PyProof.Rows
section
variable {X : Cx}
noncomputable def ItEl (a : Addr) : It :=
  ⟨fun i H => ∃ xs x, H a = some (.lst xs) ∧ xs[i]? = some x,
   fun i H v H' => ∃ p x, v = .ref p ∧ H p = none ∧ H' = upd H p (.tup [.int i, x]) ∧ ∀ xs, H a = some (.lst xs) → xs[i]? = some x,
   fun i H => ∃ xs, H a = some (.lst xs) ∧ xs.length = i⟩
theorem turn_enumL {P : Program} {w : World} {K : PySem.W.Frag} {es : List PySem.Expr} {kk : Nat} {pos : Pos} {a e it : Addr} (hei : e ≠ it) :
    Turn P w K (.Tuple es kk pos) (ItEl a) [e, it] e (fun i h => (∃ old, IsEnum h e it ((i : Nat) : Int) old) ∧ h.IsListIter it a i) where
  mem := by simp
  obj := fun i h st c hc => by
    obtain ⟨⟨old, h1⟩, o2, h2, _, d2⟩ := st
    simp only [List.mem_cons, List.not_mem_nil, or_false] at hc
    rcases hc with rfl | rfl
    · exact ⟨_, h1, fun v z => by have z' : Data.fields _ = Data.cell v := z; cases z'⟩
    · exact ⟨_, h2, fun v z => by rw [d2] at z; cases z⟩
  keep := fun i h h' st k => by
    obtain ⟨⟨old, h1⟩, o2, h2, r⟩ := st
    exact ⟨⟨old, k e (by simp) _ h1⟩, o2, k it (by simp) _ h2, r⟩
  item := by
    intro X hP hw hK hc i pins s σ H E I hf st hg
    subst hP hw hK
    obtain ⟨xs, x, qa, hx⟩ := hg
    obtain ⟨its, rv, pa, _⟩ := I.list (SqL.of (K := X.K) qa)
    obtain ⟨ux, hux, rx⟩ := rv.get hx
    obtain ⟨⟨old, h1⟩, h2⟩ := st
    have nea : e ≠ a := fun z => by
      have := (hf e (by simp)).1
      rw [z, qa] at this
      cases this
    have nia : a ≠ it := fun z => by
      have := (hf it (by simp)).1
      rw [← z, qa] at this
      cases this
    have hlt : i < its.toArray.size := by
      rw [List.size_toArray]
      exact (List.getElem?_eq_some_iff.mp hux).1
    have D : Draws X.prog X.w X.A.in1 it [it, a] its.toArray.size (fun i v => its.toArray[i]? = some v) (fun i h => h.IsListIter it a i ∧ h.IsList a its.toArray) := Draws.list (show X.A.in1.handled = none from I.ok.hd hc) it a nia its.toArray
    refine wpAny_pyNext_enum_itemD D h1 ⟨h2, pa.isList⟩ hlt hei (by simp [hei, nea]) fun y h' tk hy a1 a2 a3 a4 k => ?_
    have hyx : y = ux := by
      have q1 : its.toArray[i]? = some y := hy
      rw [List.getElem?_toArray, hux] at q1
      exact (Option.some.inj q1).symm
    subst hyx
    refine ⟨_, rfl, wpAny_letOwnedTupleGo_enum a1 fun h'' b1 sb => ?_⟩
    have sb : Heap.SameBut e h' h'' := sb
    have hse : s.heap.objs.size ≠ e := Nat.ne_of_gt (Heap.lt_size h1)
    have hsi : s.heap.objs.size ≠ it := by
      obtain ⟨o, g, _⟩ := id h2
      exact Nat.ne_of_gt (Heap.lt_size g)
    have hn : H s.heap.objs.size = none := I.hok.fresh (Nat.le_refl _)
    have kk' : ∀ c o, c ∉ [e, it] → s.heap.get? c = some o → h''.get? c = some o := fun c o hc q =>
      (sb.2 c fun z => hc (by simp [z])).trans (k c o (fun z => hc (by simp [z])) (fun z => hc (by simp [z])) q)
    have tO : h''.get? s.heap.objs.size = some { cls := .type "tuple", data := .seq #[.int i tk, y] } := (sb.2 _ hse).trans a3
    have nt : ∀ c u, H c = some u → c ∉ [e, it] := fun c u q hc => by
      have := (hf c hc).1
      rw [q] at this
      cases this
    have tupOk : ObjOk X.prog X.w (upd H s.heap.objs.size (.tup [.int i, x])) h'' s.heap.objs.size (.tup [.int i, x]) :=
      ⟨by show 2 ≤ sizeLine; decide, [.int i tk, y], .cons ⟨tk, rfl⟩ (.cons rx .nil), ⟨_, tO, rfl, _, rfl⟩, _, tO, rfl⟩
    have I1 : Inv X pins σ (upd H s.heap.objs.size (.tup [.int i, x])) { s with heap := h'', toks := tk + 1 } := by
      refine I.step (g' := s.gens) (d' := s.drawn) (t' := tk + 1) (ch := [e, it]) (fun c hc => ⟨(hf c hc).2.2.2.1, (hf c hc).2.1, (hf c hc).2.2.2.2.1, (hf c hc).2.2.2.2.2⟩) (fun c o _ _ hc q _ => kk' c o hc q) (fun c o _ _ hc q _ => ⟨o.slots, kk' c o hc q⟩)
        (fun c o _ q n => by rw [upd_ne (Nat.ne_of_lt (Heap.lt_size q))]; exact n) (fun c o hc q => ⟨o, kk' c o hc q⟩) (fun c vs q => by rw [upd_ne (ne_of_none q hn)]; exact q) (fun c o vs q => by rw [upd_ne (ne_of_none q hn)]; exact q)
        (fun c ps q => ⟨#[], by rw [upd_ne (ne_of_none q hn), q]; simp⟩) (fun m hm => ?_) (fun c o q => ?_) I.bare
      · obtain ⟨o, es', ep, ho, r⟩ := hm
        exact ⟨o, es', ep, kk' _ o (fun q => (hf _ q).2.1 rfl) ho, r⟩
      · by_cases hcs : c = s.heap.objs.size
        · subst hcs
          rw [upd_same] at q
          cases q
          exact tupOk
        · rw [upd_ne hcs] at q
          refine (I.hok c o q).stay (fun d v hd z => kk' d v ?_ z) (fun d z => by rw [upd_ne (ne_of_none z hn)]; exact z) fun d vs z => by rw [upd_ne (ne_of_none z hn)]; exact z
          rcases hd with hd | hd
          · rw [hd]; exact nt c o q
          · exact nt d _ hd
    have g2 : h''.IsListIter it a (i + 1) := by
      obtain ⟨⟨o, g, r⟩, _⟩ := a2
      exact ⟨o, (sb.2 _ (Ne.symm hei)).trans g, r⟩
    have g1 : IsEnum h'' e it (((i + 1 : Nat)) : Int) y := by
      have : ((i + 1 : Nat) : Int) = (i : Int) + 1 := by omega
      rw [this]
      exact b1
    exact ⟨.ref s.heap.objs.size, _, I1, rfl, ⟨_, x, rfl, hn, rfl, fun xs' q => by rw [qa] at q; cases q; exact hx⟩, ⟨⟨_, g1⟩, g2⟩, fun c hc => by
      have : c ≠ s.heap.objs.size := by
        simp only [List.mem_cons, List.not_mem_nil, or_false] at hc
        rcases hc with rfl | rfl
        · exact Ne.symm hse
        · exact Ne.symm hsi
      rw [upd_ne this]
      exact (hf c hc).1⟩
  done := by
    intro X hP hw hK hc i pins s σ H E I hf st hg
    subst hP hw hK
    obtain ⟨xs, qa, hl⟩ := hg
    obtain ⟨its, rv, pa, _⟩ := I.list (SqL.of (K := X.K) qa)
    obtain ⟨⟨old, h1⟩, h2⟩ := st
    have nia : a ≠ it := fun z => by
      have := (hf it (by simp)).1
      rw [← z, qa] at this
      cases this
    have D : Draws X.prog X.w X.A.in1 it [it, a] its.toArray.size (fun i v => its.toArray[i]? = some v) (fun i h => h.IsListIter it a i ∧ h.IsList a its.toArray) := Draws.list (show X.A.in1.handled = none from I.ok.hd hc) it a nia its.toArray
    have hi : its.toArray.size = i := by
      rw [List.size_toArray, ← rv.length]
      exact hl
    obtain ⟨f0, f1, f2, f3, f4, f5⟩ := hf it (by simp)
    refine wpAny_pyNext_enum_endD D h1 (by rw [hi]; exact ⟨h2, pa.isList⟩) fun h' k => ⟨rfl, I.turned (t' := s.toks) (fun b o hb q => k b o hb q) f0 f1 f3 f4 f5⟩
  self := fun _ _ _ _ _ st h => by
    obtain ⟨⟨old, h1⟩, _⟩ := st
    exact wpAny_pyIter_enum h1 h
noncomputable def iEnumL (ta : TA) : TI := fun σ H R => ta σ H fun vs H1 => ∃ a xs, vs = [.ref a] ∧ H1 a = some (.lst xs) ∧ R (ItEl a) H1
theorem pi_enumL {es : List PySem.Expr} {kk : Nat} {tpos : Pos} {a : PySem.Expr} {ta : TA} {p pos : Pos} (hg : Gl X "enumerate") (hm : X.mg "enumerate" = none) (ha : PA X [a] ta) (hs : starEach [a] X.env = [(false, eval a X.env)] := by rfl) :
    PI X (.Tuple es kk tpos) (.Call (.Name "enumerate" p) [a] [] pos) (iEnumL ta) := by
  intro pins s σ H R I h
  refine Call_ (ld_blt I hg hm PyProof.Rows.boot_enumerate (PyProof.Rows.callWith_type1 (thn (ha pos pins s σ H _ I h) fun us s1 ⟨vs, H1, I1, r1, q1⟩ => ?_) hs rfl))
  obtain ⟨la, xs, e, qa, q⟩ := q1
  subst e
  obtain ⟨u1, rfl, ra⟩ := vals1 r1
  cases ra
  obtain ⟨its, rv, pa, _⟩ := I1.list (SqL.of (K := X.K) qa)
  refine call_enumerate_list pa.isList fun h' z1 z2 _ zk => wpAny_pyIter_enum z1 ?_
  have I2 : Inv X pins σ H1 { s1 with heap := h' } := I1.kept (t' := s1.toks) zk
  refine ⟨s1.heap.objs.size + 1, _, _, _, H1, rfl, I2, turn_enumL (Nat.succ_ne_self _), ⟨⟨_, z1⟩, z2⟩, fun c hc => ?_, q⟩
  have hge : s1.heap.objs.size ≤ c := by
    simp only [List.mem_cons, List.not_mem_nil, or_false] at hc
    rcases hc with rfl | rfl <;> omega
  exact I1.fpOk (H' := H1) hge (I1.hok.fresh hge)
theorem for_enumL {a : Addr} {xs : List V} {g : TG} {tb : TS} {D : Ends} {σ : St} {H : Hp} (Pv : Nat → St → Hp → Prop) (h0 : Pv 0 σ H) (hl : ∀ i σ H, i ≤ xs.length → Pv i σ H → H a = some (.lst xs))
    (hs : ∀ i x σ H p, xs[i]? = some x → Pv i σ H → H p = none → g (.ref p) σ (upd H p (.tup [.int i, x])) fun σ2 H2 => tb { D with nx := Pv (i + 1), ct := Pv (i + 1), bk := D.nx } σ2 H2) (hd : ∀ σ H, Pv xs.length σ H → D.nx σ H) :
    ∃ W : Nat → Nat → St → Hp → Prop, (∃ m, W 0 m σ H) ∧ ∀ i m σ H, W i m σ H →
      ((ItEl a).stop i H ∧ D.nx σ H) ∨ ((ItEl a).go i H ∧ ∃ N : St → Hp → Prop, (∀ σ' H', N σ' H' → ∃ m', m' < m ∧ W (i + 1) m' σ' H') ∧ ∀ x H', (ItEl a).yld i H x H' → g x σ H' fun σ2 H2 => tb { D with nx := N, ct := N, bk := D.nx } σ2 H2) := by
  refine ⟨fun i m σ H => m = xs.length - i ∧ i ≤ xs.length ∧ Pv i σ H, ⟨xs.length, by simp, Nat.zero_le _, h0⟩, ?_⟩
  rintro i m σ H ⟨rfl, hi, p⟩
  have qa := hl i σ H hi p
  rcases Nat.lt_or_ge i xs.length with hlt | hge
  · refine .inr ⟨⟨xs, xs[i], qa, by simp [hlt]⟩, Pv (i + 1), fun σ' H' p' => ⟨xs.length - (i + 1), by omega, rfl, hlt, p'⟩, fun v H' yl => ?_⟩
    obtain ⟨pa, x, rfl, hp, rfl, hx⟩ := yl
    exact hs i x σ H pa (hx xs qa) p hp
  · obtain rfl : i = xs.length := by omega
    exact .inl ⟨⟨xs, qa, rfl⟩, hd σ H p⟩

end
end L2
namespace L2
open PySem PySem.Spec PyProof.Rows
theorem name_goH {i : Nat} {v : V} {σ : L2.St} {H : Hp} {k : L2.St → Hp → Prop} (h : k (σ.set i (some v)) H) : gName i v σ H k := h
theorem seq_hide {t u : L2.TS} {D : Ends} {σ : L2.St} {H : Hp} (h : ∀ U : L2.St → Hp → Prop, u D = U → t { D with nx := U } σ H) : tSeq t u D σ H := h _ rfl
theorem nx_hide {t : L2.TS} {N c b : L2.St → Hp → Prop} {r : VK} {σ : L2.St} {H : Hp} (h : ∀ U : L2.St → Hp → Prop, N = U → t { nx := U, rt := r, ct := c, bk := b } σ H) : t { nx := N, rt := r, ct := c, bk := b } σ H := h _ rfl
section
variable {a : Addr} {xs : List V} {g : TG} {tb : TS} {D : Ends} {σ : St} {H : Hp}
end
end L2
namespace L2
open PySem PySem.Spec PyProof.Rows
theorem pe_bmK {X : Cx} (K : PySem.W.Frag) {o e : PySem.Expr} {es : List PySem.Expr} {to : TE} {t : TA} {name : Str} {apos cpos : Pos} {T id : String} {r : V → List V → Hp → VK → Prop} (pa : PlainAttrs T) (slot : Slot T name id) (hty : typeOf (.builtin id) = pure (.type "method_descriptor")) (hm : MtR X id r) (ho : PE X o to) (ha : PA X (e :: es) t)
    (hbase : attributeBase o name X.env (eval o X.env) = eval o X.env := by rfl)
    (hfew : ((backTo cpos (starEach (e :: es) X.env)).all (fun x => !x.1) && (backToKw cpos (keywordEach [] X.env)).all (fun x => x.1.isSome) && decide ((e :: es).length + ([] : List Keyword).length + (if ([] : List Keyword).isEmpty then 0 else 1) < 30)) = true := by rfl)
    (hline : (apos.endLine == cpos.line) = true := by rfl) (hs : starEach (e :: es) X.env = (false, eval e X.env) :: starEach es X.env := by rfl) (hplain : (backTo cpos (starEach es X.env)).any (·.1) = false := by rfl) (hK : X.K = K := by rfl) :
    PE X (.Call (.Attribute o name apos) (e :: es) [] cpos) (tBM K T r to t) := by
  subst hK
  exact pe_bm pa slot hty hm ho ha hbase hfew hline hs hplain
end L2
namespace L2
open PySem PySem.Spec PyProof.Rows
section
variable {X : Cx}
end
end L2
namespace L2
open PySem PySem.Spec PyProof.Rows
noncomputable def ItK (t : Bool) (h : Heap) (c a : Addr) (k : Nat) : Prop := if t then h.IsTupleIter c a k else h.IsListIter c a k
noncomputable def SqK (t : Bool) (h : Heap) (a : Addr) (vs : Array Value) : Prop := if t then h.IsTuple a vs else h.IsList a vs
theorem ItK.ext {t : Bool} {h h' : Heap} {c b a : Addr} {k : Nat} (x : ItK t h c a k) (hs : Heap.ExtBut b h h') (n : c ≠ b) : ItK t h' c a k := by
  cases t
  · exact Heap.IsListIter.extBut x hs n
  · exact Heap.IsTupleIter.extBut x hs n
theorem ItK.at {t : Bool} {h h' : Heap} {c a : Addr} {k : Nat} (x : ItK t h c a k) (e : ∀ o, h.get? c = some o → h'.get? c = some o) : ItK t h' c a k := by
  cases t
  · exact Heap.IsListIter.at x e
  · exact Heap.IsTupleIter.at x e
theorem ItK.obj {t : Bool} {h : Heap} {c a : Addr} {k : Nat} (x : ItK t h c a k) : ∃ o, h.get? c = some o ∧ ∀ v, o.data ≠ .cell v := by
  cases t
  · obtain ⟨o, e, _, d⟩ := x
    exact ⟨o, e, fun v z => by rw [d] at z; cases z⟩
  · obtain ⟨o, e, _, d⟩ := x
    exact ⟨o, e, fun v z => by rw [d] at z; cases z⟩
theorem SqK.ext {t : Bool} {h h' : Heap} {b a : Addr} {vs : Array Value} (x : SqK t h a vs) (hs : Heap.ExtBut b h h') (n : a ≠ b) : SqK t h' a vs := by
  cases t
  · exact Heap.IsList.extBut x hs n
  · exact Heap.IsTuple.extBut x hs n
section
variable {prog : Program} {w : World} {A : Around} {E : Value → Shared → Prop} {s : Shared}
end
end L2
namespace L2
open PySem PySem.Spec PyProof.Rows
section
variable {X : Cx}
theorem SqK.lt {t : Bool} {h : Heap} {a : Addr} {vs : Array Value} (x : SqK t h a vs) : a < h.objs.size := by
  cases t
  · obtain ⟨o, e, _⟩ := x
    exact Heap.lt_size e
  · obtain ⟨o, e, _⟩ := x
    exact Heap.lt_size e
end
end L2
namespace L2
open PySem PySem.Spec PyProof.Rows
section
variable {X : Cx}
end
end L2
namespace L2
open PySem PySem.Spec PyProof.Rows
theorem lri_no_len : typeLookup (.type "list_reverseiterator") "__len__" = pure none := by rw [typeLookup_type, builtinLookup_eq_fast]; kernel_rfl
theorem lri_hint : typeLookup (.type "list_reverseiterator") "__length_hint__" = pure (some (.builtin "list_reverseiterator.__length_hint__")) := by rw [typeLookup_type, builtinLookup_eq_fast]; kernel_rfl
theorem lri_self : isSubtype (.type "list_reverseiterator") (.type "list_reverseiterator") = pure true := by rw [isSubtype_type]; kernel_rfl
section
variable {prog : Program} {w : World} {A : Around} {E : Value → Shared → Prop} {s : Shared}
theorem hint_rev {I : Addr} {Q : Bool → Shared → Prop} (hT : s.TypeIs (.ref I) "list_reverseiterator") (h : Q false s) : wpAny (model prog w) A (Builtin.List.listLengthHint (.ref I)) Q E s := by
  unfold Builtin.List.listLengthHint
  refine wpAny_bind (wpAny_specialOf hT lri_no_len ?_)
  show wpAny _ _ (specialOf (Value.ref I) (Str.ofString "__length_hint__") >>= _) _ _ _
  refine wpAny_bind (wpAny_specialOf hT lri_hint ?_)
  dsimp only
  have e : splitId "list_reverseiterator.__length_hint__" = some ("list_reverseiterator", "__length_hint__") := by kernel_rfl
  rw [e]
  dsimp only
  refine wpAny_bind (wpAny_isInstance (T := "list_reverseiterator") (b := true) hT lri_self ?_)
  exact wpAny_of_eq (a := false) (by first | rfl | kernel_rfl) h
theorem revS (hh : A.handled = none) (I l : Addr) (hne : l ≠ I) (items : Array Value) :
    WalksS prog w A I [I, l] [I] (fun a b => a = b) items.size (fun i v => items[items.size - 1 - i]? = some v) (fun i s => i ≤ items.size ∧ s.heap.IsRevIter I l ((items.size : Int) - 1 - (i : Int)) ∧ s.heap.IsList l items) where
  sub := fun b hb => by
    have : b = I := by simpa using hb
    simp [this]
  grefl := fun _ => rfl
  gtrans := fun _ _ _ h1 h2 => h1.trans h2
  frame := fun _ _ _ _ x _ hk => ⟨x.1, x.2.1.at fun o e => hk I (by simp) o e, x.2.2.at fun o e => hk l (by simp) o e⟩
  item := fun i s Q E hi x hQ => by
    have hit := x.2.1
    rw [show (items.size : Int) - 1 - (i : Int) = ((items.size - 1 - i : Nat) : Int) by omega] at hit
    have hx : items[items.size - 1 - i]? = some (items[items.size - 1 - i]'(by omega)) := Array.getElem?_eq_getElem (by omega)
    refine wpAny_pyNext_rev_item hit x.2.2 hx fun h' hit' hs' => hQ _ _ hx ⟨hi, ?_, x.2.2.at fun o eo => (hs'.2 l hne).trans eo⟩ ⟨fun b o hb eo => (hs'.2 b fun q => hb (by simp [q])).trans eo, rfl, rfl, rfl, Nat.le_refl _⟩
    rw [show ((items.size - 1 - i : Nat) : Int) - 1 = (items.size : Int) - 1 - ((i + 1 : Nat) : Int) by omega] at hit'
    exact hit'
  done := fun s Q E x hQ => by
    have hit := x.2.1
    rw [show (items.size : Int) - 1 - (items.size : Int) = -1 by omega] at hit
    exact wpAny_pyNext_rev_end hh hit fun h' he' => hQ _ ⟨fun b o hb eo => he' b o (fun q => hb (by simp [q])) eo, rfl, rfl, rfl, Nat.le_refl _⟩
  self := fun _ _ _ _ x hQ => wpAny_pyIter_revIter x.2.1 hQ
theorem items_rev {items acc : Array Value} (h : ItemsOf (fun i v => items[items.size - 1 - i]? = some v) acc items.size) : acc.toList = items.toList.reverse := by
  apply List.ext_getElem
  · rw [List.length_reverse, Array.length_toList, Array.length_toList, h.1]
  · intro j h1 h2
    have hj' : j < acc.size := by rw [Array.length_toList] at h1; exact h1
    have hj : j < items.size := by rw [← h.1]; exact hj'
    have e := h.2 j acc[j] (Array.getElem?_eq_getElem hj')
    rw [List.getElem_reverse]
    have e2 : items[items.size - 1 - j]? = some (items[items.size - 1 - j]'(by omega)) := Array.getElem?_eq_getElem (by omega)
    have e3 := Option.some.inj (e2.symm.trans e)
    simp only [Array.getElem_toList, Array.length_toList]
    exact e3.symm
theorem collect_rev {I l : Addr} {items : Array Value} {Q : List Value → Shared → Prop} (hh : A.handled = none) (hit : s.heap.IsRevIter I l ((items.size : Int) - 1)) (hl : s.heap.IsList l items) (hne : l ≠ I) (hsz : items.size ≤ sizeLine)
    (hQ : ∀ s', Moved [I] (fun a b => a = b) s s' → Q items.toList.reverse s') : wpAny (model prog w) A (collect (.ref I)) Q E s := by
  have W := revS (prog := prog) (w := w) (A := A.in1) hh I l hne items
  have ltI : I < s.heap.objs.size := by
    obtain ⟨o, ho, _⟩ := hit
    exact Heap.lt_size ho
  have ltl : l < s.heap.objs.size := by
    obtain ⟨o, ho, _⟩ := hl
    exact Heap.lt_size ho
  have hSf : s.heap.objs.size ∉ [I, l] := fun hm => by
    rcases List.mem_cons.mp hm with z | z
    · exact absurd ltI (by rw [← z]; exact Nat.lt_irrefl _)
    · rw [List.mem_singleton] at z
      exact absurd ltl (by rw [← z]; exact Nat.lt_irrefl _)
  have hSI : s.heap.objs.size ≠ I := fun z => hSf (by simp [z])
  have st0 : (0 : Nat) ≤ items.size ∧ s.heap.IsRevIter I l ((items.size : Int) - 1 - ((0 : Nat) : Int)) ∧ s.heap.IsList l items := ⟨Nat.zero_le _, by simpa using hit, hl⟩
  unfold collect
  refine wpAny_bind (wpAny_runValue (codeAny_builtin F.entry_proto_collect ?_))
  rw [Around.under_plainId F.plain_proto_collect _]
  show wpAny _ A.in1 (newList [] >>= fun x => again (.builtin "list.__iadd__" ⟨[x, .ref I], []⟩)) _ _ s
  refine wpAny_bind (wpAny_newObj_type (wpAny_pure ⟨plainId_quiet F.plain_list_iadd _, codeAny_builtin F.entry_list_iadd ?_⟩))
  rw [Around.under_plainId F.plain_list_iadd _]
  have st1 := W.frame 0 s (s.heap.push { cls := .type "list", data := .seq ([] : List Value).toArray }) s.toks st0 (Nat.le_refl _) fun b _ o e => Heap.get?_push_of_some _ e
  have T1 := st1.2.1.typeIs
  show wpAny _ A.in1 (Builtin.List.listExtendWith (.ref s.heap.objs.size) (.ref I) (.ref s.heap.objs.size)) _ _ _
  unfold Builtin.List.listExtendWith
  refine wpAny_bind (wpAny_typeOf T1 ?_)
  have q1 : Builtin.List.listSameRef (.ref s.heap.objs.size) (.ref I) = false := by simp [Builtin.List.listSameRef, hSI]
  have q2 : (Value.type "list_reverseiterator" == Value.type "list") = false := by decide
  have q3 : (Value.type "list_reverseiterator" == Value.type "tuple") = false := by decide
  simp only [q1, q2, q3, Bool.or_false, Bool.false_eq_true, if_false]
  refine wpAny_bind (W.self 0 _ _ _ st1 ?_)
  refine wpAny_bind (wpAny_holding (hint_rev T1 ?_))
  have S1 : (s.heap.push { cls := .type "list", data := .seq ([] : List Value).toArray }).get? s.heap.objs.size = some { cls := .type "list", data := .seq ([] : List Value).toArray } := Heap.get?_push_size _ rfl
  show wpAny _ A.in1 (again (.builtin "list.extend.loop" ⟨[.ref s.heap.objs.size, .ref I, .ref s.heap.objs.size], []⟩)) _ _ _
  refine wpAny_pure ⟨plainId_quiet F.plain_extend_loop _, codeAny_extend_loopS W hsz _ hSf _ items.size 0 _ _ _ rfl (Nat.zero_le _) st1 S1 (ItemsOf.nil _) fun s' acc' c' hm hS' hacc => ?_⟩
  show wpAny _ A (load s.heap.objs.size >>= _) _ _ s'
  refine wpAny_bind (wpAny_load hS' (wpAny_pure ?_))
  rw [items_rev hacc]
  refine hQ s' ⟨fun b o hb eb => hm.heap b o (fun z => ?_) (Heap.get?_push_of_some _ eb), hm.gens, hm.drawn, hm.os, hm.toks⟩
  rcases List.mem_cons.mp z with z | z
  · exact absurd (Heap.lt_size eb) (by rw [z]; exact Nat.lt_irrefl _)
  · exact hb z
theorem gives_join (x : Str) : ∀ (zs : List (Str × Tok)), Builtin.Str.tooLong ((zs.map (·.1)).toArray.foldl (· + ·.length + x.length) 0) = false → Gives (joinTail x (strValues zs)) (joinMade x zs)
  | [], h => gives_joinTail x [] h
  | [p], h => gives_joinTail x [p] h
  | p :: q :: r, h => gives_joinTail x (p :: q :: r) h
theorem join_rev {I l : Addr} {x : Str} {t : Tok} {items : Array Value} {ys : List (Str × Tok)} {Q : Value → Shared → Prop} (hh : A.handled = none) (hit : s.heap.IsRevIter I l ((items.size : Int) - 1)) (hl : s.heap.IsList l items) (hne : l ≠ I) (hsz : items.size ≤ sizeLine)
    (hi : items.toList = strValues ys) (hok : JoinOk x (ys.reverse.map (·.1)) = true) (hq : ∀ s' t' k, Moved [I] (fun a b => a = b) s s' → Q (.str (Txt.join x (ys.reverse.map (·.1))) t') { s' with toks := k }) :
    wpAny (model prog w) A (call (.builtin "str.join") [.str x t, .ref I]) Q E s := by
  refine wpAny_call (codeAny_call_builtin F.slot_str_join.plain F.entry_str_join (F.slot_str_join.check _ _ _ _ _ _ _ _ (typeIs_str _ _ _) (F.args_str_join_2 _ _) ?_))
  rw [join_tree_other]
  refine wpAny_bind (wpAny_typeOf hit.typeIs ?_)
  show wpAny _ A.in1 ((pyIter (.ref I)).tryCatch _ >>= fun it => collect it >>= fun items => joinTail x items) _ _ s
  refine wpAny_bind (wpAny_tryCatch (wpAny_pyIter_revIter hit ?_))
  refine wpAny_bind (collect_rev (A := A.in1) hh hit hl hne hsz fun s' hm => ?_)
  have hr : items.toList.reverse = strValues ys.reverse := by
    rw [hi]
    unfold strValues
    rw [List.map_reverse]
  rw [hr]
  unfold JoinOk at hok
  rw [Bool.not_eq_true'] at hok
  have g := gives_join x ys.reverse hok
  exact g prog w A (wants Q E) s' (post_join ys.reverse ⟨joinFit_length hok, fun t' k => hq s' t' k hm⟩)
end
section
variable {X : Cx}
theorem vals_str : ∀ {ts : List Str} {us : List Value}, Vals (ts.map V.str) us → ∃ ys : List (Str × Tok), us = strValues ys ∧ ys.map (·.1) = ts
  | [], _, .nil => ⟨[], rfl, rfl⟩
  | t :: r, _, .cons (b := u) h t' => by
    obtain ⟨k, rfl⟩ := h
    obtain ⟨ys, rfl, e⟩ := vals_str t'
    exact ⟨(t, k) :: ys, rfl, by rw [List.map_cons, e]⟩
noncomputable def tJoinRev (sep : Str) (tl : TE) : TE := fun σ H Q => tl σ H fun x H1 => ∃ (l : Addr) (ts : List Str), x = .ref l ∧ H1 l = some (.lst (ts.map V.str)) ∧ (ts.map (·.length)).sum + ts.length * sep.length ≤ 16777216 ∧ Q (.str (Txt.join sep ts.reverse)) H1
theorem pe_joinRev {sep : Str} {j : Nat} {l : PySem.Expr} {tl : TE} {spos apos p rpos cpos : Pos} (hc : X.calm = true) (hg : Gl X "reversed") (hm : X.mg "reversed" = none) (hl : PE X l tl)
    (hbase : attributeBase (.Constant (.str sep) j spos) "join" X.env (eval (.Constant (.str sep) j spos) X.env) = eval (.Constant (.str sep) j spos) X.env := by rfl)
    (hfew : ((backTo cpos (starEach [.Call (.Name "reversed" p) [l] [] rpos] X.env)).all (fun x => !x.1) && (backToKw cpos (keywordEach [] X.env)).all (fun x => x.1.isSome) && decide (([.Call (.Name "reversed" p) [l] [] rpos] : List PySem.Expr).length + ([] : List Keyword).length + (if ([] : List Keyword).isEmpty then 0 else 1) < 30)) = true := by rfl)
    (hline : (apos.endLine == cpos.line) = true := by rfl) (hs : starEach [.Call (.Name "reversed" p) [l] [] rpos] X.env = [(false, eval (.Call (.Name "reversed" p) [l] [] rpos) X.env)] := by rfl) (hs2 : starEach [l] X.env = [(false, eval l X.env)] := by rfl) :
    PE X (.Call (.Attribute (.Constant (.str sep) j spos) "join" apos) [.Call (.Name "reversed" p) [l] [] rpos] [] cpos) (tJoinRev sep tl) := by
  intro pins s σ H Q I h
  refine wpAny_Call_method_late hbase hfew hline rfl (Calls.Constant_str ⟨"str", "str.join", F.plainAttrs_str, F.slot_str_join, F.type_str_join, typeIs_str _ _ _, ?_, ?_⟩)
  · intro a z; cases z
  rw [hs]
  refine Calls.callWith_builtin (by rfl) (Calls.evalArgs_plain (Calls.spliced_cons ?_))
  have I1 := I.tok (s.toks + 1)
  refine wpAny_Call_Name_kw (ld_blt I1 hg hm (show bootBuiltins "reversed" = some (.type "reversed") by decide +kernel) ?_ (by decide) (by decide))
  have PAl : PA X [l] (tCons tl tNil) := pa_cons hl pa_nil (by rw [hs2]; rfl)
  have hq : tCons tl tNil σ H (fun vs H1 => match vs with
      | [x] => ∃ (l : Addr) (ts : List Str), x = .ref l ∧ H1 l = some (.lst (ts.map V.str)) ∧ (ts.map (·.length)).sum + ts.length * sep.length ≤ 16777216 ∧ Q (.str (Txt.join sep ts.reverse)) H1
      | _ => False) := h
  refine PyProof.Rows.callWith_type1 (thn (PAl rpos pins _ σ H _ I1 hq) fun us s2 ⟨vs, H2, I2, r2, q2⟩ => ?_) (by rw [hs2]; rfl) (by rfl)
  cases r2 with
  | nil => exact False.elim q2
  | cons r rr =>
    cases rr with
    | cons _ _ => exact False.elim q2
    | nil =>
      obtain ⟨la, ts, rfl, hla, hz, q⟩ := q2
      cases r
      obtain ⟨its, n, rts, e, hz1⟩ := I2.lst hla
      obtain ⟨ys, rfl, ey⟩ := vals_str rts
      refine call_reversed_list (items := (strValues ys).toArray) ⟨_, e, rfl, n, rfl⟩ (Calls.spliced_nil ?_)
      have hlt : la < s2.heap.objs.size := Heap.lt_size e
      have hsz : (strValues ys).toArray.size = ts.length := by
        rw [List.size_toArray, ← rts.length, List.length_map]
      have I3 : Inv X pins σ H2 { s2 with heap := s2.heap.push (revObj la (((strValues ys).toArray.size : Int) - 1)) } := I2.kept (t' := s2.toks) fun b o q => Heap.get?_push_of_some _ q
      have f := I2.fpOk (H' := H2) (Nat.le_refl s2.heap.objs.size) (I2.hok.fresh (Nat.le_refl _))
      refine join_rev (items := (strValues ys).toArray) (ys := ys) (I.ok.hd hc) ⟨_, Heap.get?_push_size _ rfl, rfl, rfl⟩ ⟨_, Heap.get?_push_of_some _ e, rfl, n, rfl⟩ (Nat.ne_of_lt hlt) (by rw [hsz]; rw [List.length_map] at hz1; exact hz1) rfl ?_ fun s' t' k hm => ?_
      · refine joinOk_of ?_
        rw [List.map_reverse, ey, List.map_reverse, List.sum_reverse, List.length_reverse]
        exact hz
      · rw [List.map_reverse, ey]
        obtain ⟨h', g', d', tk', os'⟩ := s'
        obtain rfl : s2.gens = g' := hm.gens
        obtain rfl : d' = s2.drawn := hm.drawn
        obtain rfl : os' = s2.os := hm.os
        have I4 := I3.turned (h' := h') (t' := k) (it := s2.heap.objs.size) (fun b o hb eb => hm.heap b o (by simpa using hb) eb) f.1 f.2.1 f.2.2.2.1 f.2.2.2.2.1 f.2.2.2.2.2
        exact ⟨.str _, H2, I4, ⟨t', rfl⟩, q⟩
end
end L2
namespace L2
open PySem PySem.Spec PyProof.Rows PySem.W
section
variable {prog : Program} {w : World} {A : Around} {E : Value → Shared → Prop} {K : Frag} {h : Heap} {g : Array GenState} {d : Drawn} {t : Nat} {os : OsState} {a C : Addr} {o : Obj}
end
section
variable {X : Cx}
end
end L2
namespace My
open PySem L2
noncomputable def del (H : Hp) (a : Addr) : Hp := fun b => if b = a then none else H b
theorem del_self (H : Hp) (a : Addr) : del H a a = none := if_pos rfl
theorem del_ne {H : Hp} {a b : Addr} (h : b ≠ a) : del H a b = H b := if_neg h
theorem del_sub (H : Hp) (a : Addr) : Same (del H a) H := fun b o e => by
  by_cases h : b = a
  · subst h; rw [del_self] at e; cases e
  · rw [del_ne h] at e; exact e
theorem del_mono {H H' : Hp} (a : Addr) (s : Same H H') : Same (del H a) (del H' a) := fun b o e => by
  by_cases h : b = a
  · subst h; rw [del_self] at e; cases e
  · rw [del_ne h] at e ⊢; exact s _ _ e
theorem del_upd (H : Hp) (a : Addr) (o : HO) : del (upd H a o) a = del H a := by
  funext b
  by_cases h : b = a
  · subst h; rw [del_self, del_self]
  · rw [del_ne h, del_ne h, upd_ne h]
theorem del_new {H : Hp} {a : Addr} (h : H a = none) : del H a = H := by
  funext b
  by_cases z : b = a
  · subst z; rw [del_self, h]
  · exact del_ne z
theorem del_at {H : Hp} {a b : Addr} {o : HO} (e : H b = some o) (h : b ≠ a) : del H a b = some o := by rw [del_ne h]; exact e
section
variable {α : Type} {R : Hp → Addr → α → Prop}
noncomputable def At (R : Hp → Addr → α → Prop) (H : Hp) (bs : List Addr) (xs : List α) : Prop := bs.length = xs.length ∧ ∀ (i : Nat) (b : Addr) (x : α), bs[i]? = some b → xs[i]? = some x → R H b x
noncomputable def Mo (R : Hp → Addr → α → Prop) : Prop := ∀ {H H' : Hp} {b : Addr} {x : α}, Same H H' → R H b x → R H' b x
theorem At.nil {H : Hp} : At R H [] [] := ⟨rfl, fun i b x e => by simp at e⟩
theorem At.keep {H H' : Hp} {bs : List Addr} {xs : List α} (h : At R H bs xs) (m : Mo R) (s : Same H H') : At R H' bs xs := ⟨h.1, fun i b x e1 e2 => m s (h.2 i b x e1 e2)⟩
theorem At.snoc {H : Hp} {bs : List Addr} {xs : List α} {b : Addr} {x : α} (h : At R H bs xs) (r : R H b x) : At R H (bs ++ [b]) (xs ++ [x]) := by
  refine ⟨by simp [h.1], fun i c y e1 e2 => ?_⟩
  have hl := h.1
  rcases Nat.lt_or_ge i bs.length with z | z
  · rw [List.getElem?_append_left z] at e1
    rw [List.getElem?_append_left (by omega)] at e2
    exact h.2 i c y e1 e2
  · rw [List.getElem?_append_right z] at e1
    rw [List.getElem?_append_right (by omega)] at e2
    rw [hl] at e1
    cases hi : i - xs.length with
    | zero => rw [hi] at e1 e2; cases e1; cases e2; exact r
    | succ k => rw [hi] at e1; simp at e1
theorem At.take {H : Hp} {bs : List Addr} {xs : List α} (h : At R H bs xs) (k : Nat) : At R H (bs.take k) (xs.take k) := by
  refine ⟨by simp [h.1], fun i c y e1 e2 => ?_⟩
  rw [List.getElem?_take] at e1 e2
  split at e1
  · rename_i hk; rw [if_pos hk] at e2; exact h.2 i c y e1 e2
  · cases e1
theorem At.drop {H : Hp} {bs : List Addr} {xs : List α} (h : At R H bs xs) (k : Nat) : At R H (bs.drop k) (xs.drop k) := by
  refine ⟨by simp [h.1], fun i c y e1 e2 => ?_⟩
  rw [List.getElem?_drop] at e1 e2
  exact h.2 _ c y e1 e2
theorem At.set {H : Hp} {bs : List Addr} {xs : List α} {b : Addr} {x : α} (h : At R H bs xs) (k : Nat) (r : R H b x) : At R H (bs.set k b) (xs.set k x) := by
  refine ⟨by simp [h.1], fun i c y e1 e2 => ?_⟩
  rw [List.getElem?_set] at e1 e2
  by_cases hk : k = i
  · subst hk
    have hl := h.1
    by_cases hb : k < bs.length
    · rw [if_pos rfl, if_pos hb] at e1
      rw [if_pos rfl, if_pos (by omega)] at e2
      cases e1; cases e2; exact r
    · rw [if_pos rfl, if_neg hb] at e1; cases e1
  · rw [if_neg hk] at e1 e2
    exact h.2 _ c y e1 e2
theorem At.get {H : Hp} {bs : List Addr} {xs : List α} {i : Nat} {x : α} (h : At R H bs xs) (e : xs[i]? = some x) : ∃ b, bs[i]? = some b ∧ R H b x := by
  have hi : i < bs.length := by rw [h.1]; exact (List.getElem?_eq_some_iff.mp e).1
  exact ⟨bs[i], List.getElem?_eq_getElem hi, h.2 i _ x (List.getElem?_eq_getElem hi) e⟩
theorem At.ref {H : Hp} {bs : List Addr} {xs : List α} {i : Nat} {v : V} (h : At R H bs xs) (e : (bs.map V.ref)[i]? = some v) : ∃ b x, v = .ref b ∧ bs[i]? = some b ∧ xs[i]? = some x ∧ R H b x := by
  rw [List.getElem?_map] at e
  cases q : bs[i]? with
  | none => rw [q] at e; cases e
  | some b =>
    rw [q] at e
    have hi : i < xs.length := by rw [← h.1]; exact (List.getElem?_eq_some_iff.mp q).1
    exact ⟨b, xs[i], (Option.some.inj e).symm, rfl, List.getElem?_eq_getElem hi, h.2 i b _ q (List.getElem?_eq_getElem hi)⟩
theorem ref_at {bs : List Addr} {i : Nat} {b : Addr} (h : bs[i]? = some b) : (bs.map V.ref)[i]? = some (.ref b) := by rw [List.getElem?_map, h]; rfl
noncomputable def TupR (R : Hp → Addr → α → Prop) (H : Hp) (b : Addr) (xs : List α) : Prop := ∃ bs : List Addr, H b = some (.tup (bs.map V.ref)) ∧ At R H bs xs
theorem mo_tup (m : Mo R) : Mo (TupR R) := fun s ⟨bs, e, h⟩ => ⟨bs, s _ _ e, h.keep m s⟩
end
noncomputable def FrR (H : Hp) (b : Addr) (q : Rat) : Prop := H b = some (.tup [.int q.num, .int q.den])
noncomputable def IntsL (H : Hp) (b : Addr) (ns : List Int) : Prop := H b = some (.lst (ns.map V.int))
theorem mo_fr : Mo FrR := fun s h => s _ _ h
theorem mo_ints : Mo IntsL := fun s h => s _ _ h
theorem FrR.del {H : Hp} {a b : Addr} {q : Rat} {ys : List V} (h : FrR H b q) (e : H a = some (.lst ys)) : FrR (del H a) b q := del_at h fun z => by rw [z] at h; unfold FrR at h; rw [e] at h; cases h
structure Run (J : It) (H1 : Hp) (n : Nat) (f : Nat → Hp → V → Hp → Prop) : Prop where
  go : ∀ i H2, i < n → Same H1 H2 → J.go i H2
  yl : ∀ i H2 x H3, i < n → Same H1 H2 → J.yld i H2 x H3 → f i H2 x H3
  st : ∀ H2, Same H1 H2 → J.stop n H2
section
variable {K : PySem.W.Frag}
theorem run_tup {H : Hp} {a : Addr} {xs : List V} (h : H a = some (.tup xs)) : Run (Itt K a) H xs.length (fun i H2 x H3 => H3 = H2 ∧ xs[i]? = some x) :=
  ⟨fun i H2 hi s => ⟨xs, xs[i], SqT.of (s _ _ h), List.getElem?_eq_getElem hi⟩, fun i H2 x H3 _ s y => ⟨y.1, y.2 _ (SqT.of (s _ _ h))⟩, fun H2 s => ⟨xs, SqT.of (s _ _ h), Nat.le_refl _⟩⟩
theorem run_list {H : Hp} {a : Addr} {xs : List V} (h : H a = some (.lst xs)) : Run (Itl K a) H xs.length (fun i H2 x H3 => H3 = H2 ∧ xs[i]? = some x) :=
  ⟨fun i H2 hi s => ⟨xs, xs[i], SqL.of (s _ _ h), List.getElem?_eq_getElem hi⟩, fun i H2 x H3 _ s y => ⟨y.1, y.2 _ (SqL.of (s _ _ h))⟩, fun H2 s => ⟨xs, SqL.of (s _ _ h), Nat.le_refl _⟩⟩
theorem run_range {H : Hp} {lo : Int} {n : Nat} : Run (Itr lo n) H n (fun i H2 x H3 => H3 = H2 ∧ x = .int (lo + i)) := ⟨fun _ _ hi _ => hi, fun _ _ _ _ _ _ y => y, fun _ _ => Nat.le_refl _⟩
theorem comp_run {J : It} {n : Nat} {H1 : Hp} {f : Nat → Hp → V → Hp → Prop} {acc : Addr} {σ0 : St} {g : TG} {te : TE} {G : Hp → Prop} (r : Run J H1 n f) (hn : n ≤ 1000) (hacc : H1 acc = none) (Iv : Nat → List V → St → Hp → Prop) (h0 : Iv 0 [] σ0 H1)
    (hs : ∀ (i : Nat) (ys : List V) (σ : St) (H2 : Hp) (x : V) (H3 : Hp), i < n → Same H1 H2 → H2 acc = some (.lst ys) → Iv i ys σ (del H2 acc) → f i H2 x H3 → ∀ C : St → VK, (∀ (σ4 : St) (v : V) (H5 : Hp), Same H2 H5 → Iv (i + 1) (ys ++ [v]) σ4 (del H5 acc) → C σ4 v H5) →
      g x σ H3 fun σ4 H4 => te σ4 H4 (C σ4))
    (fin : ∀ (ys : List V) (σ : St) (H2 : Hp), Same H1 H2 → H2 acc = some (.lst ys) → ys.length = n → Iv n ys σ (del H2 acc) → G H2) :
    ∃ W : Nat → Nat → List V → St → Hp → Prop, (∃ m, W 0 m [] σ0 (upd H1 acc (.lst []))) ∧ ∀ i m ys σc H2, W i m ys σc H2 →
      (J.stop i H2 ∧ G H2) ∨ (J.go i H2 ∧ ∀ x H3, J.yld i H2 x H3 → g x σc H3 fun σ4 H4 => te σ4 H4 fun v H5 => H5 acc = some (.lst ys) ∧ ys.length < sizeLine ∧ ∃ m', m' < m ∧ W (i + 1) m' (ys ++ [v]) σ4 (upd H5 acc (.lst (ys ++ [v])))) := by
  refine ⟨fun i m ys σ H2 => m = n - i ∧ i ≤ n ∧ Same H1 H2 ∧ H2 acc = some (.lst ys) ∧ ys.length = i ∧ Iv i ys σ (del H2 acc), ⟨n, rfl, Nat.zero_le _, ?_, upd_same, rfl, ?_⟩, ?_⟩
  · intro b o e; rw [upd_ne (ne_of_none e hacc)]; exact e
  · rw [del_upd, del_new hacc]; exact h0
  · rintro i m ys σc H2 ⟨rfl, hi, sm, ha, hl, iv⟩
    rcases Nat.lt_or_ge i n with hlt | hge
    · refine .inr ⟨r.go i H2 hlt sm, fun x H3 yl => ?_⟩
      refine hs i ys σc H2 x H3 hlt sm ha iv (r.yl i H2 x H3 hlt sm yl) (fun σ4 v H5 => H5 acc = some (.lst ys) ∧ ys.length < sizeLine ∧ ∃ m', m' < n - i ∧ (m' = n - (i + 1) ∧ i + 1 ≤ n ∧ Same H1 (upd H5 acc (.lst (ys ++ [v]))) ∧ (upd H5 acc (.lst (ys ++ [v]))) acc = some (.lst (ys ++ [v])) ∧ (ys ++ [v]).length = i + 1 ∧ Iv (i + 1) (ys ++ [v]) σ4 (del (upd H5 acc (.lst (ys ++ [v]))) acc))) ?_
      intro σ4 v H5 s5 iv5
      refine ⟨s5 _ _ ha, by rw [sizeLine_eq]; omega, n - (i + 1), by omega, rfl, hlt, ?_, upd_same, by simp [hl], ?_⟩
      · intro b o e; rw [upd_ne (ne_of_none e hacc)]; exact s5 _ _ (sm _ _ e)
      · rw [del_upd]; exact iv5
    · obtain rfl : i = n := by omega
      exact .inl ⟨r.st H2 sm, fin ys σc H2 sm ha hl iv⟩
end
end My
namespace L2
open PySem PySem.Spec PyProof.Rows
section
variable {X : Cx}
noncomputable def rJoin : V → List V → Hp → VK → Prop := fun x vs H Q => ∃ (sep : Str) (l : Addr) (ts : List Str), x = .str sep ∧ vs = [.ref l] ∧ H l = some (.lst (ts.map V.str)) ∧ (ts.map (·.length)).sum + ts.length * sep.length ≤ 16777216 ∧ Q (.str (Str.join sep ts)) H
theorem mt_join : MtM X "str.join" rJoin := by
  intro pins s σ H x vs v us Q I rx rv h
  obtain ⟨sep, l, ts, rfl, rfl, hl, hz, q⟩ := h
  obtain ⟨t, rfl⟩ := rx
  obtain ⟨u, rfl, ru⟩ := rv.one
  cases ru
  obtain ⟨its, n, rts, e, hz1⟩ := I.lst hl
  obtain ⟨ys, rfl, ey⟩ := vals_str rts
  refine SC.join (texts := ts) ⟨_, e, rfl, n, rfl⟩ ey (joinOk_of hz) fun t' k => ⟨.str _, H, I.tok _, ⟨t', rfl⟩, ?_⟩
  show Q (.str (Builtin.Str.glued sep ts)) H
  rw [StrLaws.glued_eq_join]
  exact q
theorem strs_vals : ∀ l : List (Str × Tok), Vals ((l.map (·.1)).map V.str) (strValues l)
  | [] => .nil
  | (x, t) :: l => .cons ⟨t, rfl⟩ (strs_vals l)
theorem occ_le (x y : Str) : (Builtin.Str.partsBetween x (Builtin.Str.occurrences x y 0 x.length (x.length + 1)) y.length).length ≤ x.length + 2 := by
  have := StrLaws.occ_length_le x y 0 x.length (x.length + 1)
  simp only [Builtin.Str.partsBetween, List.length_map, List.length_zip, List.length_cons, List.length_append, List.length_nil]
  omega
noncomputable def rSplit : V → List V → Hp → VK → Prop := fun x vs H Q => ∃ (z y : Str), x = .str z ∧ vs = [.str y] ∧ (y.length == 0) = false ∧ z.length ≤ 100000 ∧ ∀ l, H l = none → Q (.ref l) (upd H l (.lst ((Txt.split z y).map V.str)))
theorem mt_split : MtM X "str.split" rSplit := by
  intro pins s σ H x vs v us Q I rx rv h
  obtain ⟨z, y, rfl, rfl, hy, hz, q⟩ := h
  obtain ⟨t, rfl⟩ := rx
  obtain ⟨u, rfl, k, rfl⟩ := rv.one
  have hol := occ_le z y
  have zl : z.length ≤ sizeLine := by rw [sizeLine_eq]; omega
  have fin : ∀ (l : List (Str × Tok)) (tk : Nat), l.map (·.1) = Txt.split z y → l.length ≤ 200000 → EP X pins σ Q (.ref s.heap.objs.size) { s with toks := tk, heap := s.heap.push { cls := .type "list", data := .seq (strValues l).toArray } } := fun l tk e hl =>
    ⟨.ref s.heap.objs.size, _, I.laid (t' := tk) (fun b o q => Heap.get?_push_of_some _ q) (Nat.le_refl _) (show ObjOk X.prog X.w _ _ _ (.lst ((Txt.split z y).map V.str)) from ⟨by rw [← e, List.length_map, List.length_map, sizeLine_eq]; omega, strValues l, _, by rw [← e]; exact strs_vals l, Heap.get?_push_size _ rfl⟩), rfl, q _ (I.hok.fresh (Nat.le_refl _))⟩
  by_cases h1 : (decide (z.length < y.length) || decide (Builtin.Str.strKind z < Builtin.Str.strKind y)) = true
  · exact call_meets F.slot_str_split (typeIs_str _ _ _) F.entry_str_split (F.args_str_split_2 _ _) (meets_str_split_cannot_occur z y t k h1) (fin [(z, t)] s.toks (by unfold Txt.split; rw [if_pos h1]; rfl) (by show 1 ≤ 200000; decide))
  · have h1' := eq_false_of_ne_true h1
    by_cases hf : (Builtin.Str.occurrences z y 0 z.length (z.length + 1)).isEmpty = true
    · exact call_meets F.slot_str_split (typeIs_str _ _ _) F.entry_str_split (F.args_str_split_2 _ _) (meets_str_split_not_found z y t k h1' hy hf) (fin [(z, t)] s.toks (by unfold Txt.split; rw [if_neg h1, if_pos hf]; rfl) (by show 1 ≤ 200000; decide))
    · refine call_meets F.slot_str_split (typeIs_str _ _ _) F.entry_str_split (F.args_str_split_2 _ _) (meets_str_split_sep z y t k h1' hy (eq_false_of_ne_true hf) zl (by rw [sizeLine_eq]; omega)) ?_
      have := fin (numbered s.toks (Builtin.Str.partsBetween z (Builtin.Str.occurrences z y 0 z.length (z.length + 1)) y.length)) (s.toks + (Builtin.Str.partsBetween z (Builtin.Str.occurrences z y 0 z.length (z.length + 1)) y.length).length) (by unfold Txt.split; rw [if_neg h1, if_neg hf]; exact numbered_texts _ _) (by have e := congrArg List.length (numbered_texts s.toks (Builtin.Str.partsBetween z (Builtin.Str.occurrences z y 0 z.length (z.length + 1)) y.length)); rw [List.length_map] at e; omega)
      rw [← strsFrom_eq] at this
      exact this
theorem call_int_txt : CallR X (.type "int") (fun xs H Q => ∃ (z : Str) (n : Int), xs = [.str z] ∧ PySem.intText? z = some n ∧ z.length ≤ 640 ∧ Q (.int n) H) := by
  intro pins s σ H xs us Q I r h
  obtain ⟨z, n, rfl, hn, hl, q⟩ := h
  obtain ⟨u, rfl, t, rfl⟩ := vals1 r
  exact PySem.W.KIN.call_text hn hl ⟨.int n, H, I.tok _, ⟨_, rfl⟩, q⟩
noncomputable def ItT (x : Str) : It := ⟨fun i _ => i < x.cps.size, fun i H v H' => H' = H ∧ ∃ c, x.cps[i]? = some c ∧ v = .str ⟨#[c]⟩, fun i _ => x.cps.size ≤ i⟩
theorem turn_str {P : Program} {w : World} {K : PySem.W.Frag} {tg : PySem.Expr} (it : Addr) (x : Str) (t : Tok) : Turn P w K tg (ItT x) [it] it (fun i h => h.IsStrIter it "str_ascii_iterator" x t i) where
  mem := by simp
  obj := fun i h st b hb => by
    obtain rfl : b = it := by simpa using hb
    obtain ⟨o, e, c, d⟩ := st
    exact ⟨o, e, fun v z => by rw [d] at z; cases z⟩
  keep := fun i h h' ⟨o, ho, r⟩ k => ⟨o, k it (by simp) o ho, r⟩
  item := by
    intro X hP hw hK hc i pins s σ H E I hf st hg
    subst hP hw hK
    obtain ⟨f0, f1, f2, f3, f4, f5⟩ := hf it (by simp)
    have hg' : i < x.cps.size := hg
    have hx : x.cps[i]? = some x.cps[i] := by simp [hg']
    refine wpAny_pyNext_ascii_item st hx fun h' st' sb => ?_
    have I1 : Inv X pins σ H { s with heap := h', toks := s.toks + 1 } := I.turned (t' := s.toks + 1) (fun b o hb e => (sb.2 b hb).trans e) f0 f1 f3 f4 f5
    obtain ⟨o, e, c, d⟩ := id st'
    exact ⟨_, rfl, go_of (s := { s with heap := h', toks := s.toks + 1 }) e c d (by decide) ⟨.str ⟨#[x.cps[i]]⟩, H, I1, ⟨_, rfl⟩, ⟨rfl, _, hx, rfl⟩, st', fun b hb => (hf b hb).1⟩⟩
  done := by
    intro X hP hw hK hc i pins s σ H E I hf st hg
    subst hP hw hK
    obtain ⟨f0, f1, f2, f3, f4, f5⟩ := hf it (by simp)
    have hg' : x.cps.size ≤ i := hg
    exact wpAny_pyNext_ascii_end (I.ok.hd hc) st (by simp [hg']) fun h' eb => ⟨rfl, I.turned (t' := s.toks) (fun b o hb e => eb b o hb e) f0 f1 f3 f4 f5⟩
  self := fun _ _ _ _ _ st h => wpAny_pyIter_striter_ascii st h
noncomputable def iStr (tl : TE) : TI := fun σ H R => tl σ H fun v H1 => ∃ z : Str, v = .str z ∧ z.cps.all (· < 128) = true ∧ R (ItT z) H1
theorem pi_str {tg l : PySem.Expr} {tl : TE} (hl : PE X l tl) : PI X tg l (iStr tl) := by
  intro pins s σ H R I h
  refine thn (hl pins s σ H _ I h) fun v s1 ⟨x, H1, I1, r1, z, ez, ha, q⟩ => ?_
  subst ez
  obtain ⟨t, rfl⟩ := r1
  refine wpAny_pyIter_ascii ha ⟨s1.heap.objs.size, [s1.heap.objs.size], _, _, H1, rfl, I1.kept (t' := s1.toks) (fun b o e => Heap.get?_push_of_some _ e), turn_str _ z t, ⟨_, Heap.get?_push_size _ rfl, rfl, rfl⟩, fun b hb => ?_, q⟩
  obtain rfl : b = s1.heap.objs.size := by simpa using hb
  exact I1.fpOk (Nat.le_refl _) (I1.hok.fresh (Nat.le_refl _))
theorem for_str {z : Str} {g : TG} {tb : TS} {D : Ends} {σ : St} {H : Hp} (Pv : Nat → St → Hp → Prop) (h0 : Pv 0 σ H)
    (hs : ∀ i c σ H, z.cps[i]? = some c → Pv i σ H → g (.str ⟨#[c]⟩) σ H fun σ2 H2 => tb { D with nx := Pv (i + 1), ct := Pv (i + 1), bk := D.nx } σ2 H2) (hd : ∀ σ H, Pv z.cps.size σ H → D.nx σ H) :
    ∃ W : Nat → Nat → St → Hp → Prop, (∃ m, W 0 m σ H) ∧ ∀ i m σ H, W i m σ H →
      ((ItT z).stop i H ∧ D.nx σ H) ∨ ((ItT z).go i H ∧ ∃ N : St → Hp → Prop, (∀ σ' H', N σ' H' → ∃ m', m' < m ∧ W (i + 1) m' σ' H') ∧ ∀ x H', (ItT z).yld i H x H' → g x σ H' fun σ2 H2 => tb { D with nx := N, ct := N, bk := D.nx } σ2 H2) := by
  refine ⟨fun i m σ H => m = z.cps.size - i ∧ i ≤ z.cps.size ∧ Pv i σ H, ⟨z.cps.size, rfl, Nat.zero_le _, h0⟩, ?_⟩
  rintro i m σ H ⟨rfl, hi, p⟩
  rcases Nat.lt_or_ge i z.cps.size with hlt | hge
  · refine .inr ⟨hlt, Pv (i + 1), fun σ' H' p' => ⟨z.cps.size - (i + 1), by omega, rfl, hlt, p'⟩, fun v H' yl => ?_⟩
    obtain ⟨rfl, c, hx, rfl⟩ := yl
    exact hs i c σ H' hx p
  · obtain rfl : i = z.cps.size := by omega
    exact .inl ⟨Nat.le_refl _, hd σ H p⟩
end
end L2
namespace My
open PySem L2 PySem.Spec PyProof.Rows
section
variable {X : Cx} {pins : List (Addr × Obj)} {σ : L2.St} {H : Hp} {s : Shared}
end
end My
namespace L2
open PySem PySem.Spec PyProof.Rows
section
variable {X : Cx}
noncomputable def rIndex : V → List V → Hp → VK → Prop := fun x vs H Q => ∃ (l : Addr) (ns : List Int) (k : Int), x = .ref l ∧ vs = [.int k] ∧ H l = some (.lst (ns.map V.int)) ∧ k ∈ ns ∧ ns.length ≤ 1000000 ∧ Q (.int ((ns.idxOf k : Nat) : Int)) H
theorem mt_index : MtM X "list.index" rIndex := by
  intro pins s σ H x vs v us Q I rx rv h
  obtain ⟨l, ns, k, rfl, rfl, hH, hk, hz, q⟩ := h
  cases rx
  obtain ⟨u, rfl, ru⟩ := rv.one
  obtain ⟨t, rfl⟩ := ru
  obtain ⟨z, its, n, r, hl, e⟩ := I.lstM hH
  have hi := intsAre_of r
  have hlen := hi.length
  have hj : ns.idxOf k < ns.length := List.idxOf_lt_length_iff.mpr hk
  refine call_meets PySem.F.slot_list_index ⟨_, e, rfl⟩ PySem.F.entry_list_index (PySem.F.args_list_index_2 _ _)
    (MeetsSeq.list_index l its.toArray n (.int k t) (isInt k) (fun y hy => eq_isInt k t hi y (by simpa using hy)) (ns.idxOf k) (by simpa [hlen] using hj) (by omega) ?_ ?_) ⟨e, ⟨.int ((ns.idxOf k : Nat) : Int), H, I.tok _, ⟨_, rfl⟩, q⟩⟩
  · show isInt k its[ns.idxOf k] = true
    rw [isInt_at k hi _ (by omega) hj]
    simpa using List.getElem_idxOf hj
  · intro j hjs hlt
    show isInt k its[j] = false
    rw [isInt_at k hi j (by simpa using hjs) (by omega)]
    exact ne_of_lt_idxOf hlt _
end
end L2
namespace L2
open PySem PySem.Spec PyProof.Rows
section
variable {X : Cx} {K : PySem.W.Frag}
theorem ixT (h : X.K = K := by rfl) : IxR X (rIxT K) := h ▸ ix_tup
theorem ixL (h : X.K = K := by rfl) : IxR X (rIxL K) := h ▸ ix_list
theorem slT (h : X.K = K := by rfl) : SlR X (rSlT K) := h ▸ sl_tup
theorem callLen (h : X.K = K := by rfl) : CallR X (.builtin "len") (LenR K) := h ▸ call_len_seq
theorem callTup (h : X.K = K := by rfl) : CallR X (.type "tuple") (fun xs H Q => ∃ p ys, xs = [.ref p] ∧ ((SqL K H p ys ∧ ∀ l, H l = none → Q (.ref l) (upd H l (.tup ys))) ∨ (SqT K H p ys ∧ Q (.ref p) H))) := h ▸ call_tuple_of
theorem pgTup {es : List PySem.Expr} {k : Nat} {t : TGs} {n : Nat} {pos : Pos} (hc : X.calm = true) (g : PGs X es t) (h : X.K = K := by rfl)
    (hn : (assignEach es X.env).length = n := by rfl) (hst : (assignEach es X.env).findIdx? (·.1) = none := by rfl) : PG X (.Tuple es k pos) (gTup K n t) := h ▸ pg_tup hc g hn hst
theorem piTup {tg l : PySem.Expr} {tl : TE} (hl : PE X l tl) (h : X.K = K := by rfl) : PI X tg l (iTup K tl) := h ▸ pi_tup hl
theorem piLst {tg l : PySem.Expr} {tl : TE} (hl : PE X l tl) (h : X.K = K := by rfl) : PI X tg l (iList K tl) := h ▸ pi_list hl
end
end L2
namespace L2
open PySem PySem.Spec PyProof.Rows
section
variable {prog : Program} {w : World} {A : Around} {E : Value → Shared → Prop} {s : Shared}
theorem collect_tup {t : Addr} {vs : List Value} {Q : List Value → Shared → Prop} (ht : s.heap.IsTuple t vs.toArray) (hsz : vs.length ≤ sizeLine)
    (h : Q vs { s with heap := (s.heap.push (seqObj "list" #[] 0)).update s.heap.objs.size (Obj.mapSeq (· ++ vs.toArray)) }) : wpAny (model prog w) A (collect (.ref t)) Q E s := by
  obtain ⟨ot, e1, e2, n, e3⟩ := id ht
  unfold collect; refine wpAny_bind (wpAny_runValue (codeAny_builtin entry_proto_collect' ?_)); show wpAny _ _ (do again (.builtin "list.__iadd__" ⟨[← newList [], .ref t], []⟩)) _ _ s
  refine wpAny_bind (wpAny_newList (wpAny_pure ⟨Code.quiet_builtin _ (by decide +kernel), codeAny_builtin entry_list_iadd' ?_⟩)); show wpAny _ _ (Builtin.List.listExtendWith (.ref s.heap.objs.size) (.ref t) (.ref s.heap.objs.size)) _ _ { s with heap := s.heap.push (seqObj "list" #[] 0) }
  unfold Builtin.List.listExtendWith; have e4 : (s.heap.push (seqObj "list" #[] 0)).get? t = some ot := Heap.get?_push_of_some _ e1
  refine wpAny_bind (wpAny_typeOf (T := "tuple") ⟨ot, e4, e2⟩ ?_); have e5 : (Value.type "tuple" == Value.type "tuple") = true := by rfl
  rw [if_pos (by rw [e5]; simp)]; refine wpAny_bind (listItems_at e4 e3 (wpAny_bind (listItems_at (xs := #[]) (n := 0) (Heap.get?_push_size _ rfl) rfl ?_)))
  rw [if_neg (by simp)]; refine wpAny_bind (listUpdate_at (xs := #[]) (n := 0) (Heap.get?_push_size _ rfl) rfl (wpAny_pure ?_) (Nat.zero_le _) (by show (#[] ++ vs.toArray).size ≤ sizeLine + 1; simp only [Array.size_append, List.size_toArray, List.length_nil]; omega))
  show wpAny (model prog w) A (do let o ← load s.heap.objs.size; match o.data with | .seq xs _ => pure xs.toList | _ => unsupported "internal:collect") Q E { s with heap := (s.heap.push (seqObj "list" #[] 0)).update s.heap.objs.size (Obj.mapSeq (· ++ vs.toArray)) }
  refine wpAny_bind (wpAny_load (get?_update_seq (Heap.get?_push_size _ rfl) _) ?_); show wpAny _ _ (pure ((#[] : Array Value) ++ vs.toArray).toList) Q E _
  rw [show ((#[] : Array Value) ++ vs.toArray).toList = vs by simp]; exact wpAny_pure h
theorem sorted_tup {t : Addr} {vs : List Value} {ns : List Int} {Q : Value → Shared → Prop} (ht : s.heap.IsTuple t vs.toArray) (hI : IntsAre vs ns) (h64 : vs.length < 64)
    (h : ∀ (out : Array Value) (ns' : List Int), IntsAre out.toList ns' → ns'.Perm ns → ns'.Pairwise (· ≤ ·) → Q (.ref (s.heap.objs.size + 1)) { s with heap := sortedAll s.heap vs out }) : wpAny (model prog w) A (call (.builtin "sorted") [.ref t]) Q E s := by
  refine Calls.call_function_entry kind_sorted plain_sorted entry_sorted (args_sorted1 _) ?_; unfold Builtin.«sorted»
  refine wpAny_bind (m := checkCount "sorted" 1 1 _) (wpAny_pure (wpAny_bind (collect_tup ht (by rw [sizeLine_eq]; omega) (wpAny_bind (wpAny_newList ?_)))))
  have sz : ((s.heap.push (seqObj "list" #[] 0)).update s.heap.objs.size (Obj.mapSeq (· ++ vs.toArray))).objs.size = s.heap.objs.size + 1 := by rw [Heap.size_update, size_push']
  have hL : (((s.heap.push (seqObj "list" #[] 0)).update s.heap.objs.size (Obj.mapSeq (· ++ vs.toArray))).push (seqObj "list" vs.toArray 0)).get? (s.heap.objs.size + 1) = some (seqObj "list" vs.toArray 0) := by rw [← sz]; exact Heap.get?_push_size _ rfl
  show wpAny _ _ _ _ _ { s with heap := ((s.heap.push (seqObj "list" #[] 0)).update s.heap.objs.size (Obj.mapSeq (· ++ vs.toArray))).push (seqObj "list" vs.toArray 0) }; rw [sz]
  refine wpAny_bind (wpAny_holding (wpAny_call_entry slot_list_sort ⟨_, hL, rfl⟩ entry_list_sort (list_sort_tree hL hI h64 fun out ns' a1 a2 a3 => ⟨_, rfl, wpAny_pure ⟨_, rfl, h out ns' a1 a2 a3⟩⟩) (args_list_sort _)))
end
section
variable {X : Cx}
theorem vals_of {ns : List Int} : ∀ {us : List Value}, IntsAre us ns → Vals (ns.map V.int) us := by
  induction ns with
  | nil => intro us r; cases r; exact .nil
  | cons n ns ih =>
    intro us r
    cases r with
    | cons => exact .cons ⟨_, rfl⟩ (ih (by assumption))
theorem call_sortT : CallR X (.builtin "sorted") (fun xs H Q => ∃ (p : Addr) (ns : List Int), xs = [.ref p] ∧ H p = some (.tup (ns.map V.int)) ∧ ns.length < 64 ∧ ∀ (l : Addr) (ms : List Int), H l = none → ms.Perm ns → ms.Pairwise (· ≤ ·) → Q (.ref l) (upd H l (.lst (ms.map V.int)))) := by
  intro pins s σ H xs us Q I r h
  obtain ⟨p, ns, rfl, hp, h64, q⟩ := h
  obtain ⟨u, rfl, r1⟩ := vals1 r
  cases r1
  obtain ⟨its, rv, pa, _⟩ := I.tuple (SqT.of (K := X.K) hp)
  have hlen : its.length = ns.length := by rw [← rv.length, List.length_map]
  refine sorted_tup pa (intsAre_of rv) (by omega) fun out ms a1 a2 a3 => ?_
  obtain ⟨e, he⟩ := sortedAll_at s.heap its out
  have hz : (ms.map V.int).length ≤ sizeLine := by rw [List.length_map, a2.length_eq, sizeLine_eq]; omega
  have hn : H (s.heap.objs.size + 1) = none := I.hok.fresh (Nat.le_succ _)
  exact ⟨.ref (s.heap.objs.size + 1), _, I.laid (t' := s.toks) (fun _ _ => sortedAll_old) (Nat.le_succ _) (show ObjOk X.prog X.w _ _ _ (.lst (ms.map V.int)) from ⟨hz, out.toList, e, vals_of a1, he⟩), rfl, q _ ms hn a2 a3⟩
end
end L2
namespace L2
open PySem PySem.Spec PyProof.Rows PySem.SeqAt
section
variable {prog : Program} {w : World} {A : Around} {E : Value → Shared → Prop}
noncomputable abbrev srch (items : Array Value) (x : Value) : Nat → Option PySem.Fin × PUnit → Sem (ForInStep (Option PySem.Fin × PUnit)) := fun i _ => match items[i]? with
  | some y => do let b ← eqBool y x; if b = true then (do let r ← retInt (i : Int); pure (ForInStep.done (some r, ()))) else pure (ForInStep.yield (none, ()))
  | _ => pure (ForInStep.yield (none, ()))
theorem index_go (items : Array Value) (x : Value) (e : Value → Bool) (j : Nat) (hj : j < items.size) (hit : e items[j] = true) (hno : ∀ m (hm : m < items.size), m < j → e items[m] = false) {Q : Option PySem.Fin × PUnit → Shared → Prop} :
    ∀ (k i : Nat) (s : Shared), i + k = j → (∀ y, y ∈ items → EqAt A s y x (e y)) → Q (some (.done (.ret (.int j s.toks))), ()) { s with toks := s.toks + 1 } →
      wpAny (model prog w) A (forIn (List.range' i (items.size - i) 1) ((none : Option PySem.Fin), ()) (srch items x)) Q E s := by
  intro k
  induction k with
  | zero =>
    intro i s hi he q
    have e1 : i = j := by omega
    subst e1
    rw [show items.size - i = (items.size - i - 1) + 1 by omega, List.range'_succ, List.forIn_cons]
    refine wpAny_bind ?_
    show wpAny _ _ (match items[i]? with | some y => _ | _ => _) _ _ s
    rw [show items[i]? = some items[i] by simp [hj]]
    refine wpAny_bind (he _ (Array.getElem_mem hj) prog w _ _ ?_)
    rw [hit]
    wp_walk
    exact q
  | succ k ih =>
    intro i s hi he q
    have hl : i < items.size := by omega
    rw [show items.size - i = (items.size - (i + 1)) + 1 by omega, List.range'_succ, List.forIn_cons]
    refine wpAny_bind ?_
    show wpAny _ _ (match items[i]? with | some y => _ | _ => _) _ _ s
    rw [show items[i]? = some items[i] by simp [hl]]
    refine wpAny_bind (he _ (Array.getElem_mem hl) prog w _ _ ?_)
    rw [hno i hl (by omega)]
    exact wpAny_pure (ih (i+1) s (by omega) he q)
set_option maxHeartbeats 1000000 in
theorem tuple_indexAt (t : Addr) (items : Array Value) (n : Nat) (dd : Option Addr) (sl : Array (Option Value)) (x : Value) (e : Value → Bool) (j : Nat) (hj : j < items.size)
    (hit : e items[j] = true) (hno : ∀ m (hm : m < items.size), m < j → e items[m] = false) :
    Meets (Builtin.«tuple.index» ⟨[.ref t, x], []⟩) (fun A R s => s.heap.get? t = some { cls := .type "tuple", dict := dd, data := .seq items n, slots := sl } ∧ (∀ y, y ∈ items → EqAt A.in1 s y x (e y)) ∧ R (.ok (.ret (.int j s.toks))) { s with toks := s.toks + 1 }) := by
  intro prog w A R s h
  obtain ⟨hp, g, d, tk, os⟩ := s; obtain ⟨ht, he, h⟩ := h
  wp_walk using AutoSeq1.wpAny_loadPart' ht
  show wpAny (model prog w) A.in1 (forIn [:min items.size items.size] ((none : Option PySem.Fin), ()) (srch items x)) _ _ _
  rw [Std.Legacy.Range.forIn_eq_forIn_range']
  simp only [Std.Legacy.Range.size, Nat.min_self, Nat.sub_zero, Nat.add_sub_cancel, Nat.div_one]
  refine index_go (A := A.in1) items x e j hj hit hno j 0 _ (by omega) he ?_
  wp_walk
  exact h
end
section
variable {X : Cx}
noncomputable def rIndexT : V → List V → Hp → VK → Prop := fun x vs H Q => ∃ (l : Addr) (ns : List Int) (k : Int), x = .ref l ∧ vs = [.int k] ∧ H l = some (.tup (ns.map V.int)) ∧ k ∈ ns ∧ Q (.int ((ns.idxOf k : Nat) : Int)) H
theorem mt_indexT : MtM X "tuple.index" rIndexT := by
  intro pins s σ H x vs v us Q I rx rv h
  obtain ⟨l, ns, k, rfl, rfl, hH, hk, q⟩ := h
  cases rx
  obtain ⟨u, rfl, ru⟩ := rv.one
  obtain ⟨t, rfl⟩ := ru
  obtain ⟨its, r, ⟨⟨c, dct, dt, sl⟩, e, hc, n, hd⟩, _⟩ := I.tuple (SqT.of (K := X.K) hH)
  obtain rfl : c = .type "tuple" := hc
  obtain rfl : dt = .seq its.toArray n := hd
  have hi := intsAre_of r
  have hlen := hi.length
  have hj : ns.idxOf k < ns.length := List.idxOf_lt_length_iff.mpr hk
  refine call_meets PySem.F.slot_tuple_index ⟨_, e, rfl⟩ PySem.F.entry_tuple_index (PySem.F.args_tuple_index_2 _ _)
    (tuple_indexAt l its.toArray n dct sl (.int k t) (isInt k) (ns.idxOf k) (by simpa [hlen] using hj) ?_ ?_) ⟨e, fun y hy => (eq_isInt k t hi y (by simpa using hy)).at _ _, ⟨.int ((ns.idxOf k : Nat) : Int), H, I.tok _, ⟨_, rfl⟩, q⟩⟩
  · show isInt k its[ns.idxOf k] = true
    rw [isInt_at k hi _ (by omega) hj]
    simpa using List.getElem_idxOf hj
  · intro j hjs hlt
    show isInt k its[j] = false
    rw [isInt_at k hi j (by simpa using hjs) (by omega)]
    exact ne_of_lt_idxOf hlt _
end
end L2
namespace HT
open PySem PySem.Spec PyProof.Rows L2
section
variable {prog : Program} {w : World} {A : Around} {E : Value → Shared → Prop} {s : Shared}
theorem getItem_tuple_all {t sl : Addr} {items : Array Value} {vl vu : Value} {lo hi : Option Int} {Q : Value → Shared → Prop} (ht : IsTup s.heap t items) (hs : s.heap.IsSliceOf sl vl vu .none) (pl : IsPart vl lo) (pu : IsPart vu hi)
    (hw : sIx items.size 0 lo = 0 ∧ sIx items.size items.size hi = items.size) (h : Q (.ref t) s) : wpAny (model prog w) A (getItem (.ref t) (.ref sl)) Q E s := by
  obtain ⟨os, hos, hcs, hds⟩ := id hs
  have hTs : s.TypeIs (.ref sl) "slice" := ⟨os, hos, hcs⟩; unfold getItem; try with_reducible refine wpAny_holding ?_
  first | refine wpAny_bind (wpAny_pure ?_) | skip
  refine wpAny_bind (wpAny_sequenceKey ht.typeIs (by decide) (wpAny_bind (wpAny_callSpecial?_slot (name := Str.ofString "__getitem__") ht.typeIs PyProof.Rows.slot_tuple_getitem (wpAny_call_entry PyProof.Rows.slot_tuple_getitem ht.typeIs entry_tuple_getitem ?_ (args_tuple_getitem _ _)))))
  show wpAny _ _ (Builtin.Tuple.tupleItemsOf (.ref t) >>= _) _ _ s; refine wpAny_bind (tupleItemsOf_ ht (wpAny_bind (wpAny_typeOf hTs ?_)))
  rw [if_pos (by decide)]; refine wpAny_bind (sliceApplied_gen hs pl pu ?_)
  have yes : ((((sIx items.size 0 lo : Nat) : Int) == 0 && (1 : Int) == 1 && (sIx items.size items.size hi - sIx items.size 0 lo) == items.size) = true) := by rw [hw.1, hw.2]; simp
  show wpAny _ _ (if (((sIx items.size 0 lo : Nat) : Int) == 0 && (1 : Int) == 1 && (sIx items.size items.size hi - sIx items.size 0 lo) == items.size) = true then _ else _) _ _ s; rw [if_pos yes]
  unfold Builtin.Tuple.tupleIsExact; refine wpAny_bind ?_
  first | refine wpAny_bind (wpAny_typeOf ht.typeIs (wpAny_pure ?_)) | refine wpAny_typeOf ht.typeIs ?_
  first
    | (rw [if_pos (by decide)]; refine wpAny_bind (wpAny_rule (wpAny_pure ⟨_, rfl, wpAny_pure h⟩)))
    | (rw [if_pos (by rfl)]; exact wpAny_bind (wpAny_rule (wpAny_pure ⟨_, rfl, wpAny_pure h⟩)))
end
end HT
namespace L2
open PySem PySem.Spec PyProof.Rows
section
variable {X : Cx} {K : PySem.W.Frag}
noncomputable def rSlTA (K : PySem.W.Frag) : V → Option Int → Option Int → Hp → VK → Prop := fun x lo hi H Q => ∃ a xs, x = .ref a ∧ SqT K H a xs ∧
  ((HT.sIx xs.length 0 lo = 0 ∧ HT.sIx xs.length xs.length hi = xs.length) → Q (.ref a) H) ∧ (¬ (HT.sIx xs.length 0 lo = 0 ∧ HT.sIx xs.length xs.length hi = xs.length) → ∀ p, H p = none → Q (.ref p) (upd H p (.tup (cutV xs lo hi))))
theorem sl_tupA : SlR X (rSlTA X.K) := by
  intro pins s σ H x v vl vu lo hi sl Q I rx hs pl pu h
  obtain ⟨a, xs, rfl, hx, q1, q2⟩ := h
  by_cases hw : HT.sIx xs.length 0 lo = 0 ∧ HT.sIx xs.length xs.length hi = xs.length
  · cases rx
    obtain ⟨its, r, ht, hz⟩ := I.tuple hx
    have hlen : its.toArray.size = xs.length := by rw [List.size_toArray]; exact r.length.symm
    exact ⟨"tuple", _, PyProof.Rows.slot_tuple_getitem.lookup, ht.typeIs, HT.getItem_tuple_all ht hs pl pu (by rw [hlen]; exact hw) ⟨.ref a, H, I, rfl, q1 hw⟩⟩
  · exact sl_tup pins s σ H _ v vl vu lo hi sl Q I rx hs pl pu ⟨a, xs, rfl, hx, hw, q2 hw⟩
theorem slTA (h : X.K = K := by rfl) : SlR X (rSlTA K) := h ▸ sl_tupA
end
end L2
namespace L2
open PySem PySem.Spec PyProof.Rows
section
variable {X : Cx}
theorem shaped_li (ns : List Int) : SeqAt.shaped (.list (ns.map PyData.int)) = true := by
  simp [SeqAt.shaped, PyData.canLay0, PyData.depth, PySem.W.ke_canLayAll0, PySem.W.ke_depthAll]
theorem op_ne_li (hu : X.A.units + 64 < cLine) : OpR X (compareOp .NotEq) (fun x y H Q => ∃ (p q : Addr) (ns : List Int), x = .ref p ∧ y = .ref q ∧ H p = some (.lst (ns.map V.int)) ∧ H q = some (.lst (ns.map V.int)) ∧ Q (.bl false) H) := by
  intro pins s σ H x y v u Q I rx ry h
  obtain ⟨p, q, ns, rfl, rfl, hp, hq, k⟩ := h
  cases rx
  cases ry
  obtain ⟨_, its, n1, r1, _, e1⟩ := I.lstM hp
  obtain ⟨_, jts, n2, r2, _, e2⟩ := I.lstM hq
  have d1 : Reads s.heap (.ref p) (.list (ns.map PyData.int)) [p] := .list e1 rfl rfl (by simpa using (intsAre_of r1).reads s.heap)
  have d2 : Reads s.heap (.ref q) (.list (ns.map PyData.int)) [q] := .list e2 rfl rfl (by simpa using (intsAre_of r2).reads s.heap)
  refine ne_dataH d1 d2 (shaped_li ns) (shaped_li ns) hu ?_
  rw [SeqAt.eqv_refl _ (SeqAt.canLay_of_shaped (shaped_li ns))]
  exact ⟨.bl false, H, I, rfl, k⟩
end
end L2
namespace L2
open PySem PySem.Spec PyProof.Rows
section
variable {X : Cx}
theorem tupT_is {pins : List (Addr × Obj)} {σ : St} {H : Hp} {s : Shared} {p : Addr} {xs : List V} (I : Inv X pins σ H s) (ty : H p = some (.tup xs)) :
    s.TypeIs (.ref p) "tuple" ∧ ∀ a, Value.ref p = .ref a → ∃ ob, s.heap.get? a = some ob ∧ ob.dict = none := by
  obtain ⟨_, its, r, ⟨o, e, c⟩, o2, e2, c2⟩ := I.hok p _ ty
  exact ⟨⟨o, e, c.1⟩, fun a ea => by cases ea; exact ⟨o2, e2, c2⟩⟩
noncomputable def tBT (r : V → List V → Hp → VK → Prop) (to : TE) (t : TA) : TE := fun σ H Q => to σ H fun x H1 => (∃ p xs, x = .ref p ∧ H1 p = some (.tup xs)) ∧ t σ H1 fun xs H2 => r x xs H2 Q
variable {o e : Expr} {es : List Expr} {to : TE} {t : TA} {name : Str} {apos cpos : Pos} {id : String} {r : V → List V → Hp → VK → Prop}
theorem pe_bmT (pa : PlainAttrs "tuple") (slot : Slot "tuple" name id) (hty : typeOf (.builtin id) = pure (.type "method_descriptor")) (hm : MtM X id r) (ho : PE X o to) (ha : PA X (e :: es) t)
    (hbase : attributeBase o name X.env (eval o X.env) = eval o X.env := by rfl)
    (hfew : ((backTo cpos (starEach (e :: es) X.env)).all (fun x => !x.1) && (backToKw cpos (keywordEach [] X.env)).all (fun x => x.1.isSome)
      && decide ((e :: es).length + ([] : List Keyword).length + (if ([] : List Keyword).isEmpty then 0 else 1) < 30)) = true := by rfl)
    (hline : (apos.endLine == cpos.line) = true := by rfl) (hs : starEach (e :: es) X.env = (false, eval e X.env) :: starEach es X.env := by rfl) (hplain : (backTo cpos (starEach es X.env)).any (·.1) = false := by rfl) :
    PE X (.Call (.Attribute o name apos) (e :: es) [] cpos) (tBT r to t) := by
  intro pins s σ H Q I h
  refine wpAny_Call_method_late hbase hfew hline rfl (thn (ho pins s σ H _ I h) fun v s1 ⟨x, H1, I1, r1, ⟨p, xs, ex, hp⟩, q1⟩ => ?_)
  subst ex
  cases r1
  obtain ⟨h1, h2⟩ := tupT_is I1 hp
  refine ⟨"tuple", id, pa, slot, hty, h1, h2, ?_⟩
  have hA := ha cpos pins s1 σ H1 _ I1 q1
  rw [hs] at hA ⊢
  refine Calls.callWith_builtin (by show (false || (backTo cpos (starEach es X.env)).any (·.1)) = false; rw [hplain] <;> rfl) (Calls.evalArgs_plain ?_)
  exact thn hA fun us s2 ⟨vs, H2, I2, r2, q2⟩ => hm pins s2 σ H2 (.ref p) vs (.ref p) us Q I2 rfl r2 q2
end
end L2
namespace L2
open PySem PySem.Spec PyProof.Rows
inductive RdD (H : Hp) : V → PyData → Prop
  | int (i : Int) : RdD H (.int i) (.int i)
  | bl (b : Bool) : RdD H (.bl b) (.bool b)
  | str (z : Str) : RdD H (.str z) (.str z)
  | tup {p : Addr} {xs : List V} {ds : List PyData} (h : H p = some (.tup xs)) (hl : xs.length = ds.length) (hd : ∀ (i : Nat) (x : V) (d : PyData), xs[i]? = some x → ds[i]? = some d → RdD H x d) : RdD H (.ref p) (.tuple ds)
theorem RdD.keep {H H' : Hp} (s : Same H H') {v : V} {d : PyData} (h : RdD H v d) : RdD H' v d := by
  induction h with
  | int i => exact .int i
  | bl b => exact .bl b
  | str z => exact .str z
  | tup h hl hd ih => exact .tup (s _ _ h) hl ih
section
variable {X : Cx} {pins : List (Addr × Obj)} {σ : L2.St} {H : Hp} {s : Shared}
inductive Shp : Nat → PyData → Prop
  | int {n : Nat} (i : Int) : Shp n (.int i)
  | bl {n : Nat} (b : Bool) : Shp n (.bool b)
  | tup {n : Nat} {ds : List PyData} (h : ∀ d ∈ ds, Shp n d) : Shp (n+1) (.tuple ds)
theorem lay_all : ∀ {ds : List PyData}, (∀ d ∈ ds, d.canLay0 = true) → PyData.canLayAll0 ds = true
  | [], _ => rfl
  | d :: ds, h => by
    simp only [PyData.canLayAll0, Bool.and_eq_true]
    exact ⟨h d (by simp), lay_all fun x hx => h x (by simp [hx])⟩
theorem deep_all {n : Nat} : ∀ {ds : List PyData}, (∀ d ∈ ds, d.depth ≤ n) → PyData.depthAll ds ≤ n
  | [], _ => Nat.zero_le _
  | d :: ds, h => by
    have := deep_all (ds := ds) fun x hx => h x (by simp [hx])
    have := h d (by simp)
    simp only [PyData.depthAll]
    omega
theorem Shp.ok {n : Nat} {d : PyData} (h : Shp n d) : d.canLay0 = true ∧ d.depth ≤ n + 1 := by
  induction h with
  | int i => exact ⟨rfl, by simp [PyData.depth]⟩
  | bl b => exact ⟨rfl, by simp [PyData.depth]⟩
  | @tup n ds h ih =>
    refine ⟨by simp only [PyData.canLay0]; exact lay_all fun d hd => (ih d hd).1, ?_⟩
    have := deep_all fun d hd => (ih d hd).2
    simp only [PyData.depth]
    omega
theorem Shp.shaped {n : Nat} {d : PyData} (h : Shp n d) (hn : n ≤ 60) : SeqAt.shaped d = true := by
  unfold SeqAt.shaped
  rw [Bool.and_eq_true]
  exact ⟨h.ok.1, decide_eq_true (by have := h.ok.2; omega)⟩
end
end L2
namespace L2
open PySem PySem.Spec PyProof.Rows
section
variable {X : Cx}
end
section
variable {prog : Program} {w : World} {A : Around} {E : Value → Shared → Prop} {s : Shared}
end
section
variable {X : Cx}
end
end L2
namespace L2
open PySem PySem.Spec PyProof.Rows
section
variable {X : Cx}
end
end L2
namespace L2
open PySem PySem.Spec PyProof.Rows
section
variable {X : Cx}
end
end L2
namespace L2
open PySem PySem.Spec PyProof.Rows
section
variable {X : Cx}
end
end L2
namespace My
open PySem
theorem app_list (a b : Str) : (a ++ b).cps.toList = a.cps.toList ++ b.cps.toList := by
  show (a.cps ++ b.cps).toList = _
  simp
theorem len_l (x : Str) : x.length = x.cps.toList.length := by simp [Str.length]
theorem at_list {x y : Str} {k : Nat} : StrLaws.At x y x.length k ↔ k + y.length ≤ x.length ∧ (x.cps.toList.drop k).take y.length = y.cps.toList := by
  unfold StrLaws.At Builtin.Str.subAt
  refine and_congr_right fun _ => ?_
  rw [beq_iff_eq, ← Array.toList_inj, Array.toList_extract, List.extract_eq_take_drop, Nat.add_sub_cancel_left]
theorem at_get {x y : Str} {k i : Nat} (h : StrLaws.At x y x.length k) (hi : i < y.cps.toList.length) : x.cps.toList[k + i]? = y.cps.toList[i]? := by
  obtain ⟨_, h2⟩ := at_list.mp h
  rw [← h2, List.getElem?_take_of_lt (by rw [len_l]; exact hi), List.getElem?_drop]
theorem sub_list (x : Str) (i j : Nat) : (Builtin.Str.strSub x i j).cps.toList = (x.cps.toList.drop i).take (j - i) := by
  unfold Builtin.Str.strSub
  rw [Array.toList_extract, List.extract_eq_take_drop]
theorem parts_join {y : Str} {c j : Nat} (hc : y.cps.toList[j]? = some c) (hu : ∀ i : Nat, y.cps.toList[i]? = some c → i = j) {x : Str} : ∀ (ts : List Str) (pre : List Nat) (cuts : List Nat) (f : Nat), ts ≠ [] → (∀ t ∈ ts, c ∉ t.cps.toList) → x.cps.toList = pre ++ (Str.join y ts).cps.toList →
    StrLaws.ChainG x y x.length pre.length cuts f → (∀ k, f ≤ k → ¬ StrLaws.At x y x.length k) → StrLaws.partsFrom x y.length pre.length cuts = ts
  | [], _, _, _, h, _, _, _, _ => absurd rfl h
  | [t], pre, cuts, f, _, hf, hx, hch, _ => by
    have hx' : x.cps.toList = pre ++ t.cps.toList := hx
    have hj : j < y.cps.toList.length := (List.getElem?_eq_some_iff.mp hc).1
    cases cuts with
    | nil =>
      show [Builtin.Str.strSub x pre.length x.length] = [t]
      congr 1
      apply PyProof.Rows.ext_toList
      rw [sub_list, len_l, hx', List.drop_left, List.take_of_length_le (by rw [List.length_append]; omega)]
    | cons c1 r =>
      obtain ⟨h1, hA, _, _⟩ := hch
      have g := at_get hA hj
      rw [hc, hx', List.getElem?_append_right (by omega)] at g
      exact absurd (List.mem_of_getElem? g) (hf t (by simp))
  | t :: t2 :: r, pre, cuts, f, _, hf, hx, hch, hn => by
    have hx' : x.cps.toList = pre ++ (t.cps.toList ++ y.cps.toList ++ (Str.join y (t2 :: r)).cps.toList) := by
      rw [hx]
      show pre ++ (t ++ y ++ Str.join y (t2 :: r)).cps.toList = _
      rw [app_list, app_list]
    have hj : j < y.cps.toList.length := (List.getElem?_eq_some_iff.mp hc).1
    have ly := len_l y
    have A0 : StrLaws.At x y x.length (pre.length + t.cps.toList.length) := by
      refine at_list.mpr ⟨?_, ?_⟩
      · rw [len_l, len_l, hx', List.length_append, List.length_append, List.length_append]
        omega
      · rw [hx', List.append_assoc, ← List.append_assoc pre, List.drop_left' (by rw [List.length_append]), ly, List.take_left]
    cases cuts with
    | nil =>
      have e : f = pre.length := hch
      exact absurd A0 (hn _ (by omega))
    | cons c1 cs =>
      obtain ⟨h1, hA, hg, hch2⟩ := hch
      have le : c1 ≤ pre.length + t.cps.toList.length := Nat.le_of_not_lt fun z => hg _ (by omega) z A0
      have e1 : c1 = pre.length + t.cps.toList.length := by
        refine Nat.le_antisymm le (Nat.le_of_not_lt fun z => ?_)
        have g := at_get hA hj
        rw [hc, hx', List.getElem?_append_right (by omega)] at g
        rcases Nat.lt_or_ge (c1 + j - pre.length) t.cps.toList.length with q | q
        · rw [List.append_assoc, List.getElem?_append_left q] at g
          exact hf t (by simp) (List.mem_of_getElem? g)
        · rw [List.append_assoc, List.getElem?_append_right q, List.getElem?_append_left (by omega)] at g
          have := hu _ g
          omega
      subst e1
      show Builtin.Str.strSub x pre.length (pre.length + t.cps.toList.length) :: StrLaws.partsFrom x y.length (pre.length + t.cps.toList.length + y.length) cs = _
      congr 1
      · apply PyProof.Rows.ext_toList
        rw [sub_list, hx', List.drop_left, Nat.add_sub_cancel_left, List.append_assoc, List.take_left]
      · have := parts_join hc hu (t2 :: r) (pre ++ (t.cps.toList ++ y.cps.toList)) cs f (by simp) (fun u hu => hf u (List.mem_cons_of_mem _ hu)) (by rw [hx', List.append_assoc, List.append_assoc, List.append_assoc])
        rw [List.length_append, List.length_append, ← ly, ← Nat.add_assoc] at this
        exact this hch2 hn
theorem kind_pos (x : Str) : 1 ≤ Builtin.Str.strKind x := by
  unfold Builtin.Str.strKind
  split
  · exact Nat.le_refl _
  · split <;> decide
theorem split_join {y : Str} {c j : Nat} (hc : y.cps.toList[j]? = some c) (hu : ∀ i : Nat, y.cps.toList[i]? = some c → i = j) (hk : Builtin.Str.strKind y = 1) {ts : List Str} (hne : ts ≠ []) (hf : ∀ t ∈ ts, c ∉ t.cps.toList) : Txt.split (Str.join y ts) y = ts := by
  have hj : j < y.cps.toList.length := (List.getElem?_eq_some_iff.mp hc).1
  have ly := len_l y
  generalize hx : Str.join y ts = x
  obtain ⟨f, hch, hn⟩ := StrLaws.occ_tight x y (by omega)
  have key := parts_join hc hu ts [] _ f hne hf (by rw [← hx]; rfl) hch hn
  have nil : Builtin.Str.occurrences x y 0 x.length (x.length + 1) = [] → [x] = ts := fun e => by
    rw [e] at key
    rw [← key]
    show [x] = [Builtin.Str.strSub x 0 x.length]
    congr 1
    apply PyProof.Rows.ext_toList
    rw [sub_list, len_l, List.drop_zero, List.take_of_length_le (by omega)]
  unfold Txt.split
  split
  · rename_i h
    rw [Bool.or_eq_true, decide_eq_true_eq, decide_eq_true_eq] at h
    have kp := kind_pos x
    refine nil ?_
    cases ho : Builtin.Str.occurrences x y 0 x.length (x.length + 1) with
    | nil => rfl
    | cons c1 r =>
      rw [ho] at hch
      have := hch.2.1.1
      omega
  · split
    · rename_i h
      exact nil (List.isEmpty_iff.mp h)
    · rw [StrLaws.partsBetween_eq]
      exact key
end My
namespace Mth
theorem gcd_fmod (a b : Int) : Int.gcd b (a.fmod b) = Int.gcd a b := by
  rw [Int.fmod_def]
  have e : a - b * a.fdiv b = a + b * (-(a.fdiv b)) := by rw [Int.mul_neg, Int.sub_eq_add_neg]
  rw [e, Int.gcd_add_mul_left_right, Int.gcd_comm]
theorem fmod_lt (a b : Int) (h : b ≠ 0) : (a.fmod b).natAbs < b.natAbs := by
  rw [Int.fmod_eq_emod]
  have h1 := Int.emod_nonneg a h
  have h2 := Int.emod_lt a h
  split
  · omega
  · rename_i z
    have : ¬ b ∣ a := fun q => z (Or.inr q)
    have hz : a % b ≠ 0 := fun q => this (Int.dvd_of_emod_eq_zero q)
    omega
noncomputable def part (t b : Int) : Int := if b < 0 then -(Int.gcd t b : Int) else (Int.gcd t b : Int)
noncomputable def frac (t b : Int) : Int × Int := (t.fdiv (part t b), b.fdiv (part t b))
theorem gcd_pos (t b : Int) (h : b ≠ 0) : 0 < Int.gcd t b := Int.gcd_pos_of_ne_zero_right _ h
theorem part_ne (t b : Int) (h : b ≠ 0) : part t b ≠ 0 := by
  have := gcd_pos t b h
  unfold part; split <;> omega
theorem part_dvd_l (t b : Int) : part t b ∣ t := by
  unfold part; split
  · exact Int.neg_dvd.mpr (Int.gcd_dvd_left t b)
  · exact Int.gcd_dvd_left t b
theorem part_dvd_r (t b : Int) : part t b ∣ b := by
  unfold part; split
  · exact Int.neg_dvd.mpr (Int.gcd_dvd_right t b)
  · exact Int.gcd_dvd_right t b
theorem frac_l (t b : Int) : (frac t b).1 * part t b = t := by
  show t.fdiv (part t b) * part t b = t
  rw [Int.fdiv_eq_ediv_of_dvd (part_dvd_l t b), Int.ediv_mul_cancel (part_dvd_l t b)]
theorem frac_r (t b : Int) : (frac t b).2 * part t b = b := by
  show b.fdiv (part t b) * part t b = b
  rw [Int.fdiv_eq_ediv_of_dvd (part_dvd_r t b), Int.ediv_mul_cancel (part_dvd_r t b)]
theorem frac_pos (t b : Int) (h : b ≠ 0) : 0 < (frac t b).2 := by
  have e := frac_r t b
  have g := gcd_pos t b h
  rcases Int.lt_or_lt_of_ne h with h1 | h1
  · have hp : part t b < 0 := by unfold part; rw [if_pos h1]; omega
    rcases Int.lt_or_le 0 (frac t b).2 with q | q
    · exact q
    · have : 0 ≤ (frac t b).2 * part t b := Int.mul_nonneg_of_nonpos_of_nonpos q (Int.le_of_lt hp)
      omega
  · have hp : 0 < part t b := by unfold part; rw [if_neg (by omega)]; omega
    rcases Int.lt_or_le 0 (frac t b).2 with q | q
    · exact q
    · have : (frac t b).2 * part t b ≤ 0 := Int.mul_nonpos_of_nonpos_of_nonneg q (Int.le_of_lt hp)
      omega
theorem frac_cross (t b : Int) : (frac t b).1 * b = t * (frac t b).2 := by
  have e1 := frac_l t b
  have e2 := frac_r t b
  generalize (frac t b).1 = n at *
  generalize (frac t b).2 = d at *
  generalize part t b = p at *
  subst e1
  subst e2
  rw [Int.mul_comm d p, Int.mul_assoc]
theorem frac_gcd (t b : Int) (h : b ≠ 0) : Int.gcd (frac t b).1 (frac t b).2 = 1 := by
  have e1 := frac_l t b
  have e2 := frac_r t b
  have g := gcd_pos t b h
  have hp : (part t b).natAbs = Int.gcd t b := by unfold part; split <;> omega
  have k : Int.gcd ((frac t b).1 * part t b) ((frac t b).2 * part t b) = Int.gcd (frac t b).1 (frac t b).2 * (part t b).natAbs := Int.gcd_mul_right _ _ _
  rw [e1, e2, hp] at k
  have : 1 * Int.gcd t b = Int.gcd (frac t b).1 (frac t b).2 * Int.gcd t b := by rw [Nat.one_mul]; exact k
  exact (Nat.eq_of_mul_eq_mul_right g this).symm
theorem part_le (t b : Int) (h : b ≠ 0) : (part t b).natAbs ≤ b.natAbs := by
  have e : (part t b).natAbs = Int.gcd t b := by unfold part; split <;> omega
  rw [e]
  exact Nat.le_of_dvd (Int.natAbs_pos.mpr h) (by
    have := Int.gcd_dvd_right t b
    exact Int.ofNat_dvd_left.mp this)
theorem frac_le_l (t b : Int) (h : b ≠ 0) : (frac t b).1.natAbs ≤ t.natAbs := by
  have e := congrArg Int.natAbs (frac_l t b)
  rw [Int.natAbs_mul] at e
  have : 1 ≤ (part t b).natAbs := Int.natAbs_pos.mpr (part_ne t b h)
  calc (frac t b).1.natAbs = (frac t b).1.natAbs * 1 := (Nat.mul_one _).symm
    _ ≤ (frac t b).1.natAbs * (part t b).natAbs := Nat.mul_le_mul_left _ this
    _ = t.natAbs := e
theorem frac_le_r (t b : Int) (h : b ≠ 0) : (frac t b).2.natAbs ≤ b.natAbs := by
  have e := congrArg Int.natAbs (frac_r t b)
  rw [Int.natAbs_mul] at e
  have : 1 ≤ (part t b).natAbs := Int.natAbs_pos.mpr (part_ne t b h)
  calc (frac t b).2.natAbs = (frac t b).2.natAbs * 1 := (Nat.mul_one _).symm
    _ ≤ (frac t b).2.natAbs * (part t b).natAbs := Nat.mul_le_mul_left _ this
    _ = b.natAbs := e
end Mth
namespace Mth
theorem frac_rat (t b : Int) (h : b ≠ 0) : frac t b = (((t : Rat) / (b : Rat)).num, (((t : Rat) / (b : Rat)).den : Int)) := by
  have g := frac_gcd t b h
  have p := frac_pos t b h
  have c := frac_cross t b
  generalize (frac t b) = x at *
  obtain ⟨n, d⟩ := x
  simp only at g p c
  have hd : d = (d.toNat : Int) := by omega
  have hn : d.toNat ≠ 0 := by omega
  have hc : n.natAbs.Coprime d.toNat := by
    have : Int.gcd n d = n.natAbs.gcd d.toNat := by rw [Int.gcd]; congr 1; omega
    unfold Nat.Coprime; rw [← this]; exact g
  let r : Rat := ⟨n, d.toNat, hn, hc⟩
  have hr : r * (d : Rat) = n := by
    have h1 : r = (n : Rat) / ((d.toNat : Nat) : Rat) := by
      have := Rat.num_divInt_den r
      rw [← this, Rat.divInt_eq_div]; rfl
    have h2 : ((d.toNat : Nat) : Rat) = (d : Rat) := by
      have : ((d.toNat : Nat) : Rat) = (((d.toNat : Nat) : Int) : Rat) := rfl
      rw [this, ← hd]
    have h3 : (d : Rat) ≠ 0 := by have : d ≠ 0 := by omega
                                  exact_mod_cast this
    rw [h1, h2]; grind
  have hb : (b : Rat) ≠ 0 := by exact_mod_cast h
  have hd0 : (d : Rat) ≠ 0 := by have : d ≠ 0 := by omega
                                 exact_mod_cast this
  have cr : (n : Rat) * b = t * d := by exact_mod_cast c
  have e : (t : Rat) / (b : Rat) = r := by grind
  rw [e]
  show (n, d) = (n, ((d.toNat : Nat) : Int))
  rw [← hd]
noncomputable def fr (q : Rat) : Int × Int := (q.num, q.den)
theorem rat_num (q : Rat) : q * ((q.den : Nat) : Rat) = q.num := by
  have h1 := Rat.num_divInt_den q
  rw [Rat.divInt_eq_div] at h1
  have : ((q.den : Nat) : Rat) ≠ 0 := by exact_mod_cast q.den_nz
  have h2 : (((q.den : Nat) : Int) : Rat) = ((q.den : Nat) : Rat) := rfl
  rw [h2] at h1
  grind
theorem rat_den_ne (q : Rat) : ((q.den : Nat) : Rat) ≠ 0 := by exact_mod_cast q.den_nz
theorem ic (n : Nat) : (((n : Nat) : Int) : Rat) = ((n : Nat) : Rat) := rfl
theorem fr_add (p q : Rat) : frac (p.num * q.den + q.num * p.den) (p.den * q.den) = fr (p + q) := by
  have hp := p.den_nz
  have hq := q.den_nz
  have h : ((p.den : Int) * (q.den : Int)) ≠ 0 := Int.mul_ne_zero (by omega) (by omega)
  rw [frac_rat _ _ h]
  have e : (((p.num * q.den + q.num * p.den : Int)) : Rat) / (((p.den : Int) * (q.den : Int) : Int) : Rat) = p + q := by
    have := rat_num p; have := rat_num q; have := rat_den_ne p; have := rat_den_ne q
    simp only [Rat.intCast_add, Rat.intCast_mul, ic]
    grind
  rw [e]; rfl
theorem fr_sub (p q : Rat) : frac (p.num * q.den - q.num * p.den) (p.den * q.den) = fr (p - q) := by
  have hp := p.den_nz
  have hq := q.den_nz
  have h : ((p.den : Int) * (q.den : Int)) ≠ 0 := Int.mul_ne_zero (by omega) (by omega)
  rw [frac_rat _ _ h]
  have e : (((p.num * q.den - q.num * p.den : Int)) : Rat) / (((p.den : Int) * (q.den : Int) : Int) : Rat) = p - q := by
    have := rat_num p; have := rat_num q; have := rat_den_ne p; have := rat_den_ne q
    simp only [Rat.intCast_sub, Rat.intCast_mul, ic]
    grind
  rw [e]; rfl
noncomputable def Sb (n d : Nat) (q : Rat) : Prop := q.num.natAbs ≤ 2 ^ n ∧ q.den ≤ 2 ^ d
theorem frac_le {t b : Int} (h : b ≠ 0) : (frac t b).1.natAbs ≤ t.natAbs ∧ (frac t b).2.natAbs ≤ b.natAbs := by
  have h1 := frac_l t b
  have h2 := frac_r t b
  have h3 := part_ne t b h
  have a1 : t.natAbs = (frac t b).1.natAbs * (part t b).natAbs := by rw [← Int.natAbs_mul, h1]
  have a2 : b.natAbs = (frac t b).2.natAbs * (part t b).natAbs := by rw [← Int.natAbs_mul, h2]
  have a3 : 1 ≤ (part t b).natAbs := by omega
  rw [a1, a2]
  exact ⟨Nat.le_mul_of_pos_right _ a3, Nat.le_mul_of_pos_right _ a3⟩
theorem sb_of {t b : Int} {n d : Nat} (h : b ≠ 0) (h1 : t.natAbs ≤ 2 ^ n) (h2 : b.natAbs ≤ 2 ^ d) {q : Rat} (e : frac t b = fr q) : Sb n d q := by
  have := frac_le (t := t) h
  rw [e] at this
  simp only [fr, Int.natAbs_natCast] at this
  exact ⟨by omega, by omega⟩
theorem pmul {a b m n : Nat} (h : a ≤ 2 ^ m) (g : b ≤ 2 ^ n) : a * b ≤ 2 ^ (m + n) := by rw [Nat.pow_add]; exact Nat.mul_le_mul h g
theorem dnz (p q : Rat) : ((p.den : Int) * (q.den : Int)) ≠ 0 := by
  have hp := p.den_nz
  have hq := q.den_nz
  exact Int.mul_ne_zero (by omega) (by omega)
theorem Sb.add {n d n' d' N : Nat} {p q : Rat} (h : Sb n d p) (g : Sb n' d' q) (h1 : n + d' ≤ N) (h2 : n' + d ≤ N) : Sb (N + 1) (d + d') (p + q) := by
  refine sb_of (dnz p q) ?_ ?_ (fr_add p q)
  · have a1 : (p.num * q.den).natAbs ≤ 2 ^ N := by
      rw [Int.natAbs_mul, Int.natAbs_natCast]
      exact Nat.le_trans (pmul h.1 g.2) (Nat.pow_le_pow_right (by decide) h1)
    have a2 : (q.num * p.den).natAbs ≤ 2 ^ N := by
      rw [Int.natAbs_mul, Int.natAbs_natCast]
      exact Nat.le_trans (pmul g.1 h.2) (Nat.pow_le_pow_right (by decide) h2)
    have := Int.natAbs_add_le (p.num * q.den) (q.num * p.den)
    rw [Nat.pow_succ]; omega
  · rw [Int.natAbs_mul, Int.natAbs_natCast, Int.natAbs_natCast]; exact pmul h.2 g.2
theorem Sb.sub {n d n' d' N : Nat} {p q : Rat} (h : Sb n d p) (g : Sb n' d' q) (h1 : n + d' ≤ N) (h2 : n' + d ≤ N) : Sb (N + 1) (d + d') (p - q) := by
  refine sb_of (dnz p q) ?_ ?_ (fr_sub p q)
  · have a1 : (p.num * q.den).natAbs ≤ 2 ^ N := by
      rw [Int.natAbs_mul, Int.natAbs_natCast]
      exact Nat.le_trans (pmul h.1 g.2) (Nat.pow_le_pow_right (by decide) h1)
    have a2 : (q.num * p.den).natAbs ≤ 2 ^ N := by
      rw [Int.natAbs_mul, Int.natAbs_natCast]
      exact Nat.le_trans (pmul g.1 h.2) (Nat.pow_le_pow_right (by decide) h2)
    have := Int.natAbs_sub_le (p.num * q.den) (q.num * p.den)
    rw [Nat.pow_succ]; omega
  · rw [Int.natAbs_mul, Int.natAbs_natCast, Int.natAbs_natCast]; exact pmul h.2 g.2
theorem Sb.mono {n d n' d' : Nat} {p : Rat} (h : Sb n d p) (h1 : n ≤ n') (h2 : d ≤ d') : Sb n' d' p :=
  ⟨Nat.le_trans h.1 (Nat.pow_le_pow_right (by decide) h1), Nat.le_trans h.2 (Nat.pow_le_pow_right (by decide) h2)⟩
theorem Sb.one : Sb 0 0 1 := by constructor <;> decide
noncomputable def wh (b : Int) (q : Rat) : Int := q.num * b.fdiv q.den
end Mth
namespace Mth
theorem len_le : ∀ (n : Nat) (l : List Int), l.Nodup → (∀ x ∈ l, 0 ≤ x ∧ x < n) → l.length ≤ n
  | 0, l, _, h => by
    cases l with
    | nil => exact Nat.le_refl _
    | cons a r =>
      have := h a (List.mem_cons_self ..)
      omega
  | n + 1, l, hn, h => by
    by_cases hm : (n : Int) ∈ l
    · have h1 := len_le n (l.erase (n : Int)) (hn.erase _) (fun x hx => by
        have hx1 := List.mem_of_mem_erase hx
        have hx2 : x ≠ (n : Int) := fun z => by
          rw [z] at hx
          exact (List.Nodup.not_mem_erase hn) hx
        have := h x hx1
        omega)
      have h2 := List.length_erase_of_mem hm
      have : 0 < l.length := List.length_pos_of_mem hm
      omega
    · have h1 := len_le n l hn (fun x hx => by
        have hx2 : x ≠ (n : Int) := fun z => hm (z ▸ hx)
        have := h x hx
        omega)
      omega

theorem sub_len : ∀ (l l' : List Int), l.Nodup → (∀ x ∈ l, x ∈ l') → l.length ≤ l'.length
  | [], _, _, _ => Nat.zero_le _
  | a :: r, l', hn, h => by
    have h1 := List.nodup_cons.mp hn
    have h2 := sub_len r (l'.erase a) h1.2 fun x hx => (List.mem_erase_of_ne (fun z : x = a => h1.1 (z ▸ hx))).mpr (h x (List.mem_cons_of_mem _ hx))
    have hm := h a (List.mem_cons_self ..)
    have h3 := List.length_erase_of_mem hm
    have := List.length_pos_of_mem hm
    rw [List.length_cons]
    omega
noncomputable abbrev InR (n : Nat) (e : Int) : Prop := 0 ≤ e ∧ e < n
noncomputable def itn (φ : Int → Int) : Nat → Int → Int
  | 0, s => s
  | k + 1, s => φ (itn φ k s)
structure Perm1 (φ : Int → Int) (n : Nat) : Prop where
  into : ∀ e, InR n e → InR n (φ e)
  inj : ∀ a b, InR n a → InR n b → φ a = φ b → a = b
section
variable {φ : Int → Int} {n : Nat} (P : Perm1 φ n)
include P
theorem itn_in {s : Int} (hs : InR n s) : ∀ k, InR n (itn φ k s)
  | 0 => hs
  | k + 1 => P.into _ (itn_in hs k)
theorem itn_back {s : Int} (hs : InR n s) : ∀ (i j : Nat), i ≤ j → itn φ i s = itn φ j s → itn φ (j - i) s = s
  | 0, j, _, e => by rw [Nat.sub_zero]; exact e.symm
  | i + 1, 0, h, _ => absurd h (by omega)
  | i + 1, j + 1, h, e => by
    rw [Nat.add_sub_add_right]
    exact itn_back hs i j (by omega) (P.inj _ _ (itn_in P hs i) (itn_in P hs j) e)
omit P in
noncomputable def Per (φ : Int → Int) (s : Int) (m : Nat) : Prop := 1 ≤ m ∧ itn φ m s = s ∧ ∀ k, 1 ≤ k → k < m → itn φ k s ≠ s
omit P in
theorem Per.uniq {s : Int} {m m' : Nat} (h : Per φ s m) (h' : Per φ s m') : m = m' := by
  rcases Nat.lt_trichotomy m m' with z | z | z
  · exact absurd h.2.1 (h'.2.2 m h.1 z)
  · exact z
  · exact absurd h'.2.1 (h.2.2 m' h'.1 z)
omit P in
noncomputable def ringL (φ : Int → Int) (s : Int) (m : Nat) : List Int := (List.range m).map fun k => itn φ k s
omit P in
theorem ringL_len {s : Int} {m : Nat} : (ringL φ s m).length = m := by simp [ringL]
omit P in
theorem ringL_get {s : Int} {m k : Nat} (h : k < m) : (ringL φ s m)[k]? = some (itn φ k s) := by
  unfold ringL
  rw [List.getElem?_map, List.getElem?_range h]
  rfl
omit P in
theorem ringL_mem {s x : Int} {m : Nat} : x ∈ ringL φ s m ↔ ∃ k, k < m ∧ itn φ k s = x := by simp [ringL]
omit P in
theorem ringL_snoc {s : Int} {m : Nat} : ringL φ s (m + 1) = ringL φ s m ++ [itn φ m s] := by simp [ringL, List.range_succ]
theorem ring_nodup {s : Int} {m : Nat} (hs : InR n s) (h : ∀ k, 1 ≤ k → k < m → itn φ k s ≠ s) : (ringL φ s m).Nodup := by
  unfold ringL List.Nodup
  rw [List.pairwise_map]
  refine List.Pairwise.imp_of_mem ?_ (List.pairwise_lt_range (n := m))
  intro a b ha hb hab e
  exact h (b - a) (by omega) (by have := List.mem_range.mp hb; omega) (itn_back P hs a b (by omega) e)
theorem per_ex {s : Int} (hs : InR n s) : ∃ m, m ≤ n ∧ Per φ s m := by
  by_cases hz : ∃ m, 1 ≤ m ∧ m ≤ n ∧ itn φ m s = s
  · have key : ∀ N m, m ≤ N → 1 ≤ m → m ≤ n → itn φ m s = s → ∃ m, m ≤ n ∧ Per φ s m := by
      intro N
      induction N with
      | zero => intro m h1 h2; omega
      | succ N ih =>
        intro m h1 h2 h3 h4
        by_cases q : ∃ k, 1 ≤ k ∧ k < m ∧ itn φ k s = s
        · obtain ⟨k, k1, k2, k3⟩ := q
          exact ih k (by omega) k1 (by omega) k3
        · exact ⟨m, h3, h2, h4, fun k k1 k2 k3 => q ⟨k, k1, k2, k3⟩⟩
    obtain ⟨m, h1, h2, h3⟩ := hz
    exact key m m (Nat.le_refl _) h1 h2 h3
  · have h1 := ring_nodup P (m := n + 1) hs fun k k1 k2 k3 => hz ⟨k, k1, by omega, k3⟩
    have h2 := len_le n _ h1 fun x hx => by
      obtain ⟨k, _, e⟩ := ringL_mem.mp hx
      rw [← e]
      exact itn_in P hs k
    rw [ringL_len] at h2
    omega
omit P in
open Classical in
noncomputable def per (φ : Int → Int) (s : Int) : Nat := if h : ∃ m, Per φ s m then h.choose else 1
theorem per_is {s : Int} (hs : InR n s) : Per φ s (per φ s) := by
  obtain ⟨m, _, h⟩ := per_ex P hs
  have e : ∃ m, Per φ s m := ⟨m, h⟩
  unfold per
  rw [dif_pos e]
  exact e.choose_spec
theorem per_le {s : Int} (hs : InR n s) : per φ s ≤ n := by
  obtain ⟨m, h1, h⟩ := per_ex P hs
  rw [(per_is P hs).uniq h]
  exact h1
omit P in
noncomputable def ring (φ : Int → Int) (s : Int) : List Int := ringL φ s (per φ s)
theorem ring_nd {s : Int} (hs : InR n s) : (ring φ s).Nodup := ring_nodup P hs (per_is P hs).2.2
theorem ring_in {s x : Int} (hs : InR n s) (hx : x ∈ ring φ s) : InR n x := by
  obtain ⟨k, _, e⟩ := ringL_mem.mp hx
  rw [← e]
  exact itn_in P hs k
theorem ring_self {s : Int} (hs : InR n s) : s ∈ ring φ s := ringL_mem.mpr ⟨0, (per_is P hs).1, rfl⟩
theorem ring_fwd {s x : Int} (hs : InR n s) (hx : x ∈ ring φ s) : φ x ∈ ring φ s := by
  obtain ⟨k, hk, e⟩ := ringL_mem.mp hx
  have hp := per_is P hs
  by_cases q : k + 1 < per φ s
  · exact ringL_mem.mpr ⟨k + 1, q, by rw [← e]; rfl⟩
  · have : k + 1 = per φ s := by omega
    refine ringL_mem.mpr ⟨0, hp.1, ?_⟩
    rw [← e]
    show s = itn φ (k + 1) s
    rw [this, hp.2.1]
theorem ring_bwd {s x : Int} (hs : InR n s) (hx : InR n x) (h : φ x ∈ ring φ s) : x ∈ ring φ s := by
  obtain ⟨k, hk, e⟩ := ringL_mem.mp h
  have hp := per_is P hs
  cases k with
  | succ k => exact ringL_mem.mpr ⟨k, by omega, P.inj _ _ (itn_in P hs k) hx e⟩
  | zero =>
    have hm : per φ s - 1 + 1 = per φ s := by have := hp.1; omega
    refine ringL_mem.mpr ⟨per φ s - 1, by omega, P.inj _ _ (itn_in P hs _) hx ?_⟩
    rw [← e]
    show itn φ (per φ s - 1 + 1) s = s
    rw [hm]
    exact hp.2.1
theorem ring_apart {s : Int} {S : List Int} (hs : InR n s) (hS : ∀ x, InR n x → φ x ∈ S → x ∈ S) (h : s ∉ S) : ∀ x ∈ ring φ s, x ∉ S := by
  intro x hx
  obtain ⟨k, hk, e⟩ := ringL_mem.mp hx
  subst e
  clear hx hk
  induction k with
  | zero => exact h
  | succ k ih => exact fun z => ih (hS _ (itn_in P hs k) z)
omit P in
open Classical in
noncomputable def landsF (φ : Int → Int) : Nat → List (List Int)
  | 0 => []
  | i + 1 => if (i : Int) ∈ (landsF φ i).flatten then landsF φ i else landsF φ i ++ [ring φ i]
omit P in
theorem landsF_pos {i : Nat} (h : (i : Int) ∈ (landsF φ i).flatten) : landsF φ (i + 1) = landsF φ i := by
  rw [landsF, if_pos h]
omit P in
theorem landsF_neg {i : Nat} (h : (i : Int) ∉ (landsF φ i).flatten) : landsF φ (i + 1) = landsF φ i ++ [ring φ i] := by
  rw [landsF, if_neg h]
omit P in
structure Lands (φ : Int → Int) (n i : Nat) (R : List (List Int)) : Prop where
  of : ∀ r ∈ R, ∃ s, InR n s ∧ s < i ∧ r = ring φ s ∧ ∀ x ∈ r, s ≤ x
  nd : R.flatten.Nodup
  all : ∀ e, 0 ≤ e → e < (i : Int) → e ∈ R.flatten
  rise : R.Pairwise fun r r' => ∀ s s', r = ring φ s → InR n s → r' = ring φ s' → InR n s' → (∀ x ∈ r, s ≤ x) → (∀ x ∈ r', s' ≤ x) → s < s'
theorem Lands.fwd {i : Nat} {R : List (List Int)} (h : Lands φ n i R) {x : Int} (hx : x ∈ R.flatten) : φ x ∈ R.flatten := by
  obtain ⟨r, hr, hx⟩ := List.mem_flatten.mp hx
  obtain ⟨s, hs, _, e, _⟩ := h.of r hr
  subst e
  exact List.mem_flatten.mpr ⟨_, hr, ring_fwd P hs hx⟩
theorem Lands.bwd {i : Nat} {R : List (List Int)} (h : Lands φ n i R) {x : Int} (hi : InR n x) (hx : φ x ∈ R.flatten) : x ∈ R.flatten := by
  obtain ⟨r, hr, hx⟩ := List.mem_flatten.mp hx
  obtain ⟨s, hs, _, e, _⟩ := h.of r hr
  subst e
  exact List.mem_flatten.mpr ⟨_, hr, ring_bwd P hs hi hx⟩
theorem ring_head {s s' : Int} (hs : InR n s) (hs' : InR n s') (e : ring φ s = ring φ s') (h : ∀ x ∈ ring φ s, s ≤ x) (h' : ∀ x ∈ ring φ s', s' ≤ x) : s = s' := by
  have h1 := h' s (e ▸ ring_self P hs)
  have h2 := h s' (e ▸ ring_self P hs')
  omega
theorem landsF_ok : ∀ i, i ≤ n → Lands φ n i (landsF φ i)
  | 0, _ => ⟨fun r h => by simp [landsF] at h, by simp [landsF], fun e h1 h2 => by omega, by simp [landsF]⟩
  | i + 1, hi => by
    have ih := landsF_ok i (by omega)
    have hs : InR n (i : Int) := ⟨by omega, by omega⟩
    unfold landsF
    by_cases q : (i : Int) ∈ (landsF φ i).flatten
    · rw [if_pos q]
      refine ⟨fun r hr => ?_, ih.nd, fun e h1 h2 => ?_, ih.rise⟩
      · obtain ⟨s, a, b, c, d⟩ := ih.of r hr
        exact ⟨s, a, by omega, c, d⟩
      · by_cases z : e = i
        · rw [z]; exact q
        · exact ih.all e h1 (by omega)
    · rw [if_neg q]
      have ap := ring_apart P hs (fun x hx h => ih.bwd P hx h) q
      have low : ∀ x ∈ ring φ (i : Int), (i : Int) ≤ x := fun x hx => by
        rcases Int.lt_or_le x i with z | z
        · exact absurd (ih.all x (ring_in P hs hx).1 z) (ap x hx)
        · exact z
      refine ⟨fun r hr => ?_, ?_, fun e h1 h2 => ?_, ?_⟩
      · rcases List.mem_append.mp hr with hr | hr
        · obtain ⟨s, a, b, c, d⟩ := ih.of r hr
          exact ⟨s, a, by omega, c, d⟩
        · have e : r = ring φ (i : Int) := by simpa using hr
          subst e
          exact ⟨i, hs, by omega, rfl, low⟩
      · rw [List.flatten_append, List.nodup_append]
        refine ⟨ih.nd, by simpa using ring_nd P hs, fun x hx y hy e => ?_⟩
        subst e
        exact ap x (by simpa using hy) hx
      · rw [List.flatten_append, List.mem_append]
        by_cases z : e = i
        · rw [z]; right; simpa using ring_self P hs
        · left; exact ih.all e h1 (by omega)
      · rw [List.pairwise_append]
        refine ⟨ih.rise, List.pairwise_singleton .., fun r hr r' hr' s s' e hs1 e' hs1' l l' => ?_⟩
        have er : r' = ring φ (i : Int) := by simpa using hr'
        obtain ⟨t, ht, hti, et, lt⟩ := ih.of r hr
        have h1 : s = t := ring_head P hs1 ht (e.symm.trans et) (e ▸ l) (et ▸ lt)
        have h2 : s' = (i : Int) := ring_head P hs1' hs (e'.symm.trans er) (e' ▸ l') low
        omega
end
end Mth
namespace Mth
noncomputable def prevAt (row : List Int) (k : Nat) : Int := row.getD (if k = 0 then row.length - 1 else k - 1) 0
noncomputable def rowP (row : List Int) : List (Int × Int) := (List.range row.length).map fun k => (row.getD k 0, prevAt row k)
noncomputable def aheadL (ts : List (List Int)) : List (Int × Int) := (ts.map rowP).flatten
theorem range_getD (row : List Int) : (List.range row.length).map (fun k => row.getD k 0) = row := by
  refine List.ext_getElem (by simp) fun i h1 h2 => ?_
  simp [List.getD, h2]
theorem rowP_fst (row : List Int) : (rowP row).map (·.1) = row := by
  unfold rowP
  rw [List.map_map]
  exact range_getD row
theorem rowP_len (row : List Int) : (rowP row).length = row.length := by simp [rowP]
theorem rowP_snoc (r : List Int) (l : Int) : (rowP (r ++ [l])).map (·.2) = l :: r := by
  unfold rowP
  rw [List.map_map]
  have hl : (r ++ [l]).length = r.length + 1 := by simp
  rw [hl, List.range_succ_eq_map, List.map_cons, List.map_map]
  congr 1
  · show prevAt (r ++ [l]) 0 = l
    unfold prevAt
    rw [if_pos rfl, hl]
    simp [List.getD]
  · refine List.ext_getElem (by simp) fun i h1 h2 => ?_
    simp [prevAt, List.getD, List.getElem?_append_left h2, h2]
theorem rowP_snd (row : List Int) : ((rowP row).map (·.2)).Perm row := by
  rcases List.eq_nil_or_concat row with h | ⟨r, l, h⟩
  · subst h
    exact .nil
  · rw [List.concat_eq_append] at h
    subst h
    rw [rowP_snoc]
    exact (List.perm_append_singleton l r).symm
theorem aheadL_fst : ∀ ts : List (List Int), (aheadL ts).map (·.1) = ts.flatten
  | [] => rfl
  | r :: ts => by
    have ih := aheadL_fst ts
    unfold aheadL at *
    rw [List.map_cons, List.flatten_cons, List.map_append, rowP_fst, ih, List.flatten_cons]
theorem aheadL_snd : ∀ ts : List (List Int), ((aheadL ts).map (·.2)).Perm ts.flatten
  | [] => .nil
  | r :: ts => by
    have ih := aheadL_snd ts
    unfold aheadL at *
    rw [List.map_cons, List.flatten_cons, List.map_append, List.flatten_cons]
    exact (rowP_snd r).append ih
theorem aheadL_snoc (ts : List (List Int)) (r : List Int) : aheadL (ts ++ [r]) = aheadL ts ++ rowP r := by simp [aheadL]
noncomputable def lk (L : List (Int × Int)) (e : Int) : Option Int := (L.find? fun p => decide (p.1 = e)).map (·.2)
theorem lk_mem {L : List (Int × Int)} {e v : Int} (h : lk L e = some v) : (e, v) ∈ L := by
  unfold lk at h
  cases q : L.find? fun p => decide (p.1 = e) with
  | none => rw [q] at h; cases h
  | some p =>
    rw [q] at h
    have h1 := List.mem_of_find?_eq_some q
    have h2 := List.find?_some q
    have h3 : p.1 = e := of_decide_eq_true h2
    have h4 : p.2 = v := Option.some.inj h
    rw [← h3, ← h4]
    exact h1
theorem lk_some {L : List (Int × Int)} {e : Int} (h : e ∈ L.map (·.1)) : ∃ v, lk L e = some v := by
  obtain ⟨p, hp, e1⟩ := List.mem_map.mp h
  unfold lk
  cases q : L.find? fun p => decide (p.1 = e) with
  | none =>
    have := List.find?_eq_none.mp q p hp
    exact absurd (decide_eq_true e1) this
  | some p => exact ⟨p.2, rfl⟩
theorem lk_none {L : List (Int × Int)} {e : Int} (h : e ∉ L.map (·.1)) : lk L e = none := by
  cases q : lk L e with
  | none => rfl
  | some v => exact absurd (List.mem_map.mpr ⟨_, lk_mem q, rfl⟩) h
theorem nodup_inj {α β : Type} {f : α → β} : ∀ {L : List α}, (L.map f).Nodup → ∀ {p q}, p ∈ L → q ∈ L → f p = f q → p = q
  | [], _, p, _, hp, _, _ => absurd hp (by simp)
  | a :: L, h, p, q, hp, hq, e => by
    rw [List.map_cons, List.nodup_cons] at h
    rcases List.mem_cons.mp hp with h1 | h1
    · rcases List.mem_cons.mp hq with h2 | h2
      · rw [h1, h2]
      · exact (h.1 (List.mem_map.mpr ⟨q, h2, by rw [← e, h1]⟩)).elim
    · rcases List.mem_cons.mp hq with h2 | h2
      · exact (h.1 (List.mem_map.mpr ⟨p, h1, by rw [e, h2]⟩)).elim
      · exact nodup_inj h.2 h1 h2 e
theorem lk_of {L : List (Int × Int)} {e v : Int} (hn : (L.map (·.1)).Nodup) (h : (e, v) ∈ L) : lk L e = some v := by
  obtain ⟨u, hu⟩ := lk_some (List.mem_map.mpr ⟨_, h, rfl⟩)
  have := nodup_inj hn (lk_mem hu) h rfl
  rw [hu, (Prod.mk.inj this).2]

structure Turns (n : Nat) (ts : List (List Int)) : Prop where
  nd : ts.flatten.Nodup
  mem : ∀ e, e ∈ ts.flatten ↔ InR n e
  even : n % 2 = 0
noncomputable def oth (e : Int) : Int := if e % 2 = 0 then e + 1 else e - 1
theorem oth_in {n : Nat} (h : n % 2 = 0) {e : Int} (he : InR n e) : InR n (oth e) := by
  unfold oth
  obtain ⟨h1, h2⟩ := he
  split <;> constructor <;> omega
theorem oth_oth (e : Int) : oth (oth e) = e := by
  unfold oth
  split <;> split <;> omega
noncomputable def nxt (ts : List (List Int)) (e : Int) : Int := (lk (aheadL ts) (oth e)).getD 0
section
variable {n : Nat} {ts : List (List Int)} (T : Turns n ts)
include T
theorem Turns.len : ts.flatten.length = n := by
  have h1 := len_le n _ T.nd fun x hx => (T.mem x).mp hx
  have h2 : ((List.range n).map (fun k : Nat => (k : Int))).length ≤ ts.flatten.length := by
    have nd : ((List.range n).map (fun k : Nat => (k : Int))).Nodup := by
      unfold List.Nodup
      rw [List.pairwise_map]
      exact List.Pairwise.imp (fun {a b} h => by omega) (List.pairwise_lt_range (n := n))
    refine sub_len _ _ nd fun x hx => ?_
    obtain ⟨k, hk, e⟩ := List.mem_map.mp hx
    have := List.mem_range.mp hk
    exact (T.mem x).mpr ⟨by omega, by omega⟩
  rw [List.length_map, List.length_range] at h2
  omega
theorem Turns.alen : (aheadL ts).length = n := by
  have := congrArg List.length (aheadL_fst ts)
  rw [List.length_map, T.len] at this
  exact this
theorem Turns.look {e : Int} (he : InR n e) : ∃ v, lk (aheadL ts) e = some v ∧ InR n v := by
  obtain ⟨v, hv⟩ := lk_some (L := aheadL ts) (e := e) (by rw [aheadL_fst]; exact (T.mem e).mpr he)
  refine ⟨v, hv, (T.mem v).mp ?_⟩
  exact (aheadL_snd ts).mem_iff.mp (List.mem_map.mpr ⟨_, lk_mem hv, rfl⟩)
theorem Turns.nxt_is {e : Int} (he : InR n e) : lk (aheadL ts) (oth e) = some (nxt ts e) := by
  obtain ⟨v, hv, _⟩ := T.look (oth_in T.even he)
  unfold nxt
  rw [hv]
  rfl
theorem Turns.perm : Perm1 (nxt ts) n := by
  refine ⟨fun e he => ?_, fun a b ha hb e => ?_⟩
  · obtain ⟨v, hv, hi⟩ := T.look (oth_in T.even he)
    unfold nxt
    rw [hv]
    exact hi
  · have h1 := lk_mem (T.nxt_is ha)
    have h2 := lk_mem (T.nxt_is hb)
    rw [e] at h1
    have nd : ((aheadL ts).map (·.2)).Nodup := (aheadL_snd ts).nodup_iff.mpr T.nd
    have h3 := (Prod.mk.inj (nodup_inj nd h1 h2 rfl)).1
    rw [← oth_oth a, h3, oth_oth]
end
theorem take_snoc {α : Type} {R : List α} {j : Nat} {r : α} (h : R[j]? = some r) : R.take (j + 1) = R.take j ++ [r] := by
  rw [List.take_add_one, h]
  rfl
section
variable {φ : Int → Int} {n : Nat} (P : Perm1 φ n)
include P
theorem ring_hd {s : Int} (hs : InR n s) : (ring φ s).headD 0 = s := by
  have h := (per_is P hs).1
  unfold ring ringL
  obtain ⟨m, e⟩ : ∃ m, per φ s = m + 1 := ⟨per φ s - 1, by omega⟩
  rw [e, List.range_succ_eq_map, List.map_cons]
  rfl
theorem lands_of {r : List Int} (h : r ∈ landsF φ n) : InR n (r.headD 0) ∧ r = ring φ (r.headD 0) ∧ ∀ x ∈ r, r.headD 0 ≤ x := by
  obtain ⟨s, hs, _, e, l⟩ := (landsF_ok P n (Nat.le_refl _)).of r h
  subst e
  rw [ring_hd P hs]
  exact ⟨hs, rfl, l⟩
theorem lands_mem {x : Int} : x ∈ (landsF φ n).flatten ↔ InR n x := by
  constructor
  · intro h
    obtain ⟨r, hr, hx⟩ := List.mem_flatten.mp h
    obtain ⟨h1, h2, _⟩ := lands_of P hr
    rw [h2] at hx
    exact ring_in P h1 hx
  · intro h
    exact (landsF_ok P n (Nat.le_refl _)).all x h.1 h.2
end
end Mth
namespace Mth
noncomputable def Path (φ : Int → Int) : List Int → Int → Prop
  | [], _ => True
  | a :: l, y => φ a = l.headD y ∧ Path φ l y
theorem headD_app (l m : List Int) (y : Int) : (l ++ m).headD y = l.headD (m.headD y) := by cases l <;> rfl
theorem path_app {φ : Int → Int} (m : List Int) (y : Int) : ∀ l : List Int, Path φ (l ++ m) y ↔ Path φ l (m.headD y) ∧ Path φ m y
  | [] => by simp [Path]
  | a :: l => by
    show (φ a = (l ++ m).headD y ∧ Path φ (l ++ m) y) ↔ (φ a = l.headD (m.headD y) ∧ Path φ l (m.headD y)) ∧ Path φ m y
    rw [headD_app, path_app m y l, and_assoc]
theorem path_congr {φ ψ : Int → Int} {y : Int} : ∀ {l : List Int}, (∀ x ∈ l, ψ x = φ x) → Path φ l y → Path ψ l y
  | [], _, _ => trivial
  | a :: l, h, g => ⟨(h a (by simp)).trans g.1, path_congr (fun x hx => h x (by simp [hx])) g.2⟩
theorem path_mem {φ : Int → Int} {y : Int} : ∀ {l : List Int}, Path φ l y → ∀ x ∈ l, φ x ∈ l ∨ φ x = y
  | [], _, x, h => by cases h
  | a :: l, g, x, h => by
    rcases List.mem_cons.mp h with rfl | h
    · rw [g.1]
      cases l with
      | nil => exact .inr rfl
      | cons b l => left; simp
    · rcases path_mem g.2 x h with z | z
      · left; simp [z]
      · exact .inr z
structure RingC (φ : Int → Int) (c : List Int) : Prop where
  ne : c ≠ []
  pa : Path φ c (c.headD 0)
theorem RingC.fwd {φ : Int → Int} {c : List Int} (h : RingC φ c) {x : Int} (hx : x ∈ c) : φ x ∈ c := by
  rcases path_mem h.pa x hx with z | z
  · exact z
  · rw [z]
    cases c with
    | nil => cases hx
    | cons a l => simp
structure Cyc (φ : Int → Int) (n : Nat) (R : List (List Int)) : Prop where
  nd : R.flatten.Nodup
  mem : ∀ x, x ∈ R.flatten ↔ InR n x
  ring : ∀ c ∈ R, RingC φ c
theorem split_flat {R : List (List Int)} {u : Int} (h : u ∈ R.flatten) : ∃ R1 c1 c2 R2, R = R1 ++ (c1 ++ u :: c2) :: R2 := by
  obtain ⟨c, hc, hu⟩ := List.mem_flatten.mp h
  obtain ⟨R1, R2, rfl⟩ := List.append_of_mem hc
  obtain ⟨c1, c2, rfl⟩ := List.append_of_mem hu
  exact ⟨R1, c1, c2, R2, rfl⟩
theorem nd_app {l m : List Int} : (l ++ m).Nodup ↔ l.Nodup ∧ m.Nodup ∧ ∀ x ∈ l, x ∉ m := by
  rw [List.nodup_append]
  constructor
  · rintro ⟨a, b, c⟩
    exact ⟨a, b, fun x hx hm => c x hx x hm rfl⟩
  · rintro ⟨a, b, c⟩
    exact ⟨a, b, fun x hx y hy e => c x hx (e ▸ hy)⟩
theorem in_succ {n : Nat} {x : Int} : InR (n+1) x ↔ InR n x ∨ x = n := by
  constructor
  · rintro ⟨a, b⟩
    rcases Int.lt_or_le x n with h | h
    · exact .inl ⟨a, h⟩
    · right; omega
  · rintro (⟨a, b⟩ | rfl)
    · exact ⟨a, by omega⟩
    · exact ⟨by omega, by omega⟩
theorem Cyc.ins {φ ψ : Int → Int} {n : Nat} {R : List (List Int)} {u : Int} (C : Cyc φ n R) (hu : InR n u) (h1 : ψ u = n) (h2 : ψ n = φ u) (h3 : ∀ x, InR n x → x ≠ u → ψ x = φ x) : ∃ R', Cyc ψ (n+1) R' ∧ R'.length = R.length := by
  obtain ⟨R1, c1, c2, R2, rfl⟩ := split_flat ((C.mem u).mpr hu)
  have eF : (R1 ++ (c1 ++ u :: c2) :: R2).flatten = R1.flatten ++ (c1 ++ u :: c2) ++ R2.flatten := by simp
  have eG : (R1 ++ (c1 ++ u :: (n : Int) :: c2) :: R2).flatten = R1.flatten ++ (c1 ++ u :: (n : Int) :: c2) ++ R2.flatten := by simp
  have nn : (n : Int) ∉ (R1 ++ (c1 ++ u :: c2) :: R2).flatten := fun z => by have := (C.mem _).mp z; omega
  have inR : ∀ x, x ∈ (R1 ++ (c1 ++ u :: c2) :: R2).flatten → InR n x := fun x hx => (C.mem x).mp hx
  have cr := C.ring (c1 ++ u :: c2) (by simp)
  have nd := C.nd
  rw [eF] at nd nn inR
  refine ⟨R1 ++ (c1 ++ u :: (n : Int) :: c2) :: R2, ⟨?_, fun x => ?_, fun c hc => ?_⟩, by simp⟩
  · rw [eG]
    have p : List.Perm (R1.flatten ++ (c1 ++ u :: (n : Int) :: c2) ++ R2.flatten) ((n : Int) :: (R1.flatten ++ (c1 ++ u :: c2) ++ R2.flatten)) := by
      have q : List.Perm (c1 ++ u :: (n : Int) :: c2) ((n : Int) :: (c1 ++ u :: c2)) := by
        have e : c1 ++ u :: (n : Int) :: c2 = (c1 ++ [u]) ++ (n : Int) :: c2 := by simp
        rw [e]
        refine List.perm_middle.trans (List.Perm.cons _ ?_)
        exact List.Perm.of_eq (by simp)
      refine ((q.append_left _).append_right _).trans ?_
      have e2 : R1.flatten ++ (n : Int) :: (c1 ++ u :: c2) ++ R2.flatten = R1.flatten ++ (n : Int) :: ((c1 ++ u :: c2) ++ R2.flatten) := by simp
      rw [e2]
      refine List.perm_middle.trans (List.Perm.cons _ ?_)
      exact List.Perm.of_eq (by simp)
    exact p.nodup_iff.mpr (List.nodup_cons.mpr ⟨nn, nd⟩)
  · rw [in_succ, ← C.mem x, eF, eG]
    simp only [List.mem_append, List.mem_cons]
    constructor
    · rintro ((a | (a | a | a | a)) | a) <;> simp_all
    · rintro (((a | (a | a | a)) | a) | a) <;> simp_all
  · rcases List.mem_append.mp hc with z | z
    · have r := C.ring c (by simp [z])
      refine ⟨r.ne, path_congr (fun x hx => h3 x (inR x ?_) fun e => ?_) r.pa⟩
      · simp only [List.mem_append]; exact .inl (.inl (List.mem_flatten.mpr ⟨c, z, hx⟩))
      · rw [nd_app, nd_app] at nd
        exact nd.1.2.2 x (List.mem_flatten.mpr ⟨c, z, hx⟩) (by rw [e]; simp)
    rcases List.mem_cons.mp z with rfl | z
    · have pa := cr.pa
      have hh : (c1 ++ u :: (n : Int) :: c2).headD 0 = (c1 ++ u :: c2).headD 0 := by cases c1 <;> rfl
      rw [path_app] at pa
      have nd' : (c1 ++ u :: c2).Nodup := (nd_app.mp (nd_app.mp nd).1).2.1
      have c1u : ∀ x ∈ c1, x ≠ u := fun x hx e => (nd_app.mp nd').2.2 x hx (by rw [e]; simp)
      have c2u : ∀ x ∈ c2, x ≠ u := fun x hx e => (List.nodup_cons.mp (nd_app.mp nd').2.1).1 (e ▸ hx)
      refine ⟨by simp, ?_⟩
      rw [hh, path_app]
      refine ⟨path_congr (fun x hx => h3 x (inR x (by simp [hx])) (c1u x hx)) pa.1, h1, h2.trans pa.2.1, path_congr (fun x hx => h3 x (inR x (by simp [hx])) (c2u x hx)) pa.2.2⟩
    · have r := C.ring c (by simp [z])
      refine ⟨r.ne, path_congr (fun x hx => h3 x (inR x ?_) fun e => ?_) r.pa⟩
      · simp only [List.mem_append]; exact .inr (List.mem_flatten.mpr ⟨c, z, hx⟩)
      · rw [nd_app] at nd
        exact nd.2.2 u (by simp) (e ▸ List.mem_flatten.mpr ⟨c, z, hx⟩)
theorem Cyc.fix {φ ψ : Int → Int} {n : Nat} {R : List (List Int)} (C : Cyc φ n R) (h1 : ψ n = n) (h3 : ∀ x, InR n x → ψ x = φ x) : ∃ R', Cyc ψ (n+1) R' ∧ R'.length = R.length + 1 := by
  refine ⟨R ++ [[(n : Int)]], ⟨?_, fun x => ?_, fun c hc => ?_⟩, by simp⟩
  · rw [List.flatten_append, nd_app]
    refine ⟨C.nd, by simp, fun x hx hn => ?_⟩
    have := (C.mem x).mp hx
    simp at hn
    omega
  · rw [in_succ, ← C.mem x, List.flatten_append, List.mem_append]
    simp
  · rcases List.mem_append.mp hc with z | z
    · have r := C.ring c z
      exact ⟨r.ne, path_congr (fun x hx => h3 x ((C.mem x).mp (List.mem_flatten.mpr ⟨c, z, hx⟩))) r.pa⟩
    · rw [List.mem_singleton.mp z]
      exact ⟨by simp, h1, trivial⟩
theorem swap_one {φ ψ : Int → Int} {c1 c2 c3 : List Int} {a b : Int} (nd : (c1 ++ a :: (c2 ++ b :: c3)).Nodup) (r : RingC φ (c1 ++ a :: (c2 ++ b :: c3))) (ha : ψ a = φ b) (hb : ψ b = φ a) (h3 : ∀ x ∈ c1 ++ a :: (c2 ++ b :: c3), x ≠ a → x ≠ b → ψ x = φ x) : RingC ψ (c1 ++ a :: c3) ∧ RingC ψ (c2 ++ [b]) := by
  have pa := r.pa
  rw [path_app] at pa
  obtain ⟨p1, pa, p2⟩ := pa
  rw [path_app] at p2
  obtain ⟨p2, pb, p3⟩ := p2
  obtain ⟨n1, n2, n3⟩ := nd_app.mp nd
  obtain ⟨n4, n5⟩ := List.nodup_cons.mp n2
  obtain ⟨n6, n7, n8⟩ := nd_app.mp n5
  obtain ⟨n9, n10⟩ := List.nodup_cons.mp n7
  have k1 : ∀ x ∈ c1, ψ x = φ x := fun x hx => h3 x (by simp [hx]) (fun e => n3 x hx (by rw [e]; simp)) (fun e => n3 x hx (by rw [e]; simp))
  have k2 : ∀ x ∈ c2, ψ x = φ x := fun x hx => h3 x (by simp [hx]) (fun e => n4 (by rw [← e]; simp [hx])) (fun e => n8 x hx (by rw [e]; simp))
  have k3 : ∀ x ∈ c3, ψ x = φ x := fun x hx => h3 x (by simp [hx]) (fun e => n4 (by rw [← e]; simp [hx])) (fun e => n9 (e ▸ hx))
  have hh : (c1 ++ a :: c3).headD 0 = (c1 ++ a :: (c2 ++ b :: c3)).headD 0 := by cases c1 <;> rfl
  refine ⟨⟨by simp, ?_⟩, ⟨by simp, ?_⟩⟩
  · rw [hh, path_app]
    exact ⟨path_congr k1 p1, ha.trans pb, path_congr k3 p3⟩
  · rw [path_app]
    have e : (c2 ++ b :: c3).headD ((c1 ++ a :: (c2 ++ b :: c3)).headD 0) = (c2 ++ [b]).headD 0 := by cases c2 <;> rfl
    rw [e] at pa
    exact ⟨path_congr k2 p2, hb.trans pa, trivial⟩
theorem Cyc.swap {φ ψ : Int → Int} {n : Nat} {R : List (List Int)} {a b : Int} {c : List Int} (C : Cyc φ n R) (hc : c ∈ R) (am : a ∈ c) (bm : b ∈ c) (ab : a ≠ b) (ha : ψ a = φ b) (hb : ψ b = φ a) (h3 : ∀ x, InR n x → x ≠ a → x ≠ b → ψ x = φ x) : ∃ R', Cyc ψ n R' ∧ R'.length = R.length + 1 := by
  obtain ⟨R1, R2, rfl⟩ := List.append_of_mem hc
  have eF : ∀ c, (R1 ++ c :: R2).flatten = R1.flatten ++ c ++ R2.flatten := fun c => by simp
  have nd := C.nd
  rw [eF] at nd
  obtain ⟨m1, m2, m3⟩ := nd_app.mp nd
  obtain ⟨m4, m5, m6⟩ := nd_app.mp m1
  have inc : ∀ x ∈ c, InR n x := fun x hx => (C.mem x).mp (by rw [eF]; simp [hx])
  have r := C.ring c (by simp)
  -- both parts
  have key : ∃ d e, RingC ψ d ∧ RingC ψ e ∧ List.Perm (d ++ e) c := by
    obtain ⟨c1, c2, rfl⟩ := List.append_of_mem am
    rcases List.mem_append.mp bm with z | z
    · obtain ⟨d1, d2, rfl⟩ := List.append_of_mem z
      have e0 : d1 ++ b :: d2 ++ a :: c2 = d1 ++ b :: (d2 ++ a :: c2) := by simp
      rw [e0] at r m5 inc ⊢
      obtain ⟨x, y⟩ := swap_one m5 r hb ha (fun x hx n1 n2 => h3 x (inc x hx) n2 n1)
      refine ⟨_, _, x, y, ?_⟩
      have : d1 ++ b :: c2 ++ (d2 ++ [a]) = d1 ++ b :: (c2 ++ (d2 ++ [a])) := by simp
      rw [this]
      refine List.Perm.append_left _ (List.Perm.cons _ ?_)
      refine List.perm_append_comm.trans ?_
      simp
    · rcases List.mem_cons.mp z with rfl | z
      · exact absurd rfl ab
      · obtain ⟨d1, d2, rfl⟩ := List.append_of_mem z
        obtain ⟨x, y⟩ := swap_one m5 r ha hb (fun x hx n1 n2 => h3 x (inc x hx) n1 n2)
        refine ⟨_, _, x, y, ?_⟩
        have : c1 ++ a :: d2 ++ (d1 ++ [b]) = c1 ++ a :: (d2 ++ (d1 ++ [b])) := by simp
        rw [this]
        refine List.Perm.append_left _ (List.Perm.cons _ ?_)
        refine List.perm_append_comm.trans ?_
        simp
  obtain ⟨d, e, rd, re, p⟩ := key
  have pf : List.Perm (R1 ++ d :: e :: R2).flatten (R1 ++ c :: R2).flatten := by
    rw [eF, show (R1 ++ d :: e :: R2).flatten = R1.flatten ++ (d ++ e) ++ R2.flatten by simp]
    exact (p.append_left _).append_right _
  refine ⟨R1 ++ d :: e :: R2, ⟨pf.nodup_iff.mpr C.nd, fun x => (pf.mem_iff).trans (C.mem x), fun g hg => ?_⟩, by simp; omega⟩
  have far : ∀ g, g ∈ R1 ∨ g ∈ R2 → RingC ψ g := fun g hg => by
    have rg := C.ring g (by rcases hg with z | z <;> simp [z])
    refine ⟨rg.ne, path_congr (fun x hx => ?_) rg.pa⟩
    have xn : x ∉ c := fun z => by
      rcases hg with w | w
      · exact m6 x (List.mem_flatten.mpr ⟨g, w, hx⟩) z
      · exact m3 x (by simp [z]) (List.mem_flatten.mpr ⟨g, w, hx⟩)
    refine h3 x ((C.mem x).mp ?_) (fun z => xn (z ▸ am)) (fun z => xn (z ▸ bm))
    rcases hg with w | w
    · exact List.mem_flatten.mpr ⟨g, by simp [w], hx⟩
    · exact List.mem_flatten.mpr ⟨g, by simp [w], hx⟩
  rcases List.mem_append.mp hg with z | z
  · exact far g (.inl z)
  rcases List.mem_cons.mp z with rfl | z
  · exact rd
  rcases List.mem_cons.mp z with rfl | z
  · exact re
  · exact far g (.inr z)
theorem RingC.itn {φ : Int → Int} {c : List Int} (h : RingC φ c) {x : Int} (hx : x ∈ c) : ∀ k, itn φ k x ∈ c
  | 0 => hx
  | k+1 => h.fwd (h.itn hx k)
theorem path_reach {φ : Int → Int} {y : Int} : ∀ {l : List Int} {a : Int}, Path φ (a :: l) y → ∀ x ∈ a :: l, ∃ k, itn φ k a = x
  | l, a, g, x, h => by
    rcases List.mem_cons.mp h with rfl | h
    · exact ⟨0, rfl⟩
    · match l, g, h with
      | b :: l, g, h =>
        obtain ⟨k, hk⟩ := path_reach g.2 x h
        have e : φ a = b := g.1
        refine ⟨k + 1, ?_⟩
        rw [← hk, ← e]
        have : ∀ k, Mth.itn φ (k+1) a = Mth.itn φ k (φ a) := fun k => by
          induction k with
          | zero => rfl
          | succ k ih => show φ (Mth.itn φ (k+1) a) = φ (Mth.itn φ k (φ a)); rw [ih]
        exact this k
noncomputable def leastL : List Int → Int
  | [] => 0
  | [a] => a
  | a :: l => min a (leastL l)
theorem leastL_ok : ∀ {l : List Int}, l ≠ [] → leastL l ∈ l ∧ ∀ x ∈ l, leastL l ≤ x
  | [a], _ => by simp [leastL]
  | a :: b :: l, _ => by
    obtain ⟨h1, h2⟩ := leastL_ok (l := b :: l) (by simp)
    have e : leastL (a :: b :: l) = min a (leastL (b :: l)) := rfl
    rw [e]
    constructor
    · rcases Int.le_total a (leastL (b :: l)) with z | z
      · rw [Int.min_eq_left z]; simp
      · rw [Int.min_eq_right z]; exact List.mem_cons_of_mem _ h1
    · intro x hx
      rcases List.mem_cons.mp hx with rfl | hx
      · exact Int.min_le_left _ _
      · exact Int.le_trans (Int.min_le_right _ _) (h2 x hx)
theorem nd_heads {f : List Int → Int} : ∀ {R : List (List Int)}, R.flatten.Nodup → (∀ c ∈ R, f c ∈ c) → (R.map f).Nodup
  | [], _, _ => by simp
  | c :: R, nd, h => by
    rw [List.flatten_cons, nd_app] at nd
    rw [List.map_cons, List.nodup_cons]
    refine ⟨fun z => ?_, nd_heads nd.2.1 fun d hd => h d (by simp [hd])⟩
    obtain ⟨d, hd, e⟩ := List.mem_map.mp z
    exact nd.2.2 (f c) (h c (by simp)) (e ▸ List.mem_flatten.mpr ⟨d, hd, h d (by simp [hd])⟩)
theorem Cyc.count {φ : Int → Int} {n : Nat} {R : List (List Int)} (P : Perm1 φ n) (C : Cyc φ n R) : (landsF φ n).length = R.length := by
  have L := landsF_ok P n (Nat.le_refl _)
  have hl : ∀ c ∈ landsF φ n, c.headD 0 ∈ c := fun c hc => by
    obtain ⟨s, hs, _, e, _⟩ := L.of c hc
    have := ring_self P hs
    rw [← e] at this
    cases c with
    | nil => cases this
    | cons a l => simp
  have n1 := nd_heads L.nd hl
  have n2 : (R.map leastL).Nodup := nd_heads C.nd fun c hc => (leastL_ok (C.ring c hc).ne).1
  -- the least of a ring is the same, however it is written out
  have key : ∀ c ∈ R, ∀ r ∈ landsF φ n, ∀ x, x ∈ c → x ∈ r → leastL c = r.headD 0 := by
    intro c hc r hr x xc xr
    obtain ⟨⟨s, hs⟩, hd, hle⟩ := lands_of P hr
    have cin : ∀ y ∈ c, InR n y := fun y hy => (C.mem y).mp (List.mem_flatten.mpr ⟨c, hc, hy⟩)
    have rc : ∀ y ∈ r, y ∈ c := by
      intro y hy
      have sc : r.headD 0 ∈ c := by
        rw [hd] at xr
        have : ∀ k, itn φ k x ∈ c := (C.ring c hc).itn xc
        obtain ⟨k, _, hk⟩ := ringL_mem.mp xr
        -- the ring of x comes to its head again
        obtain ⟨m, hm, pm⟩ := per_ex P (s := r.headD 0) ⟨s, hs⟩
        have hk' : itn φ k (r.headD 0) = x := hk
        obtain ⟨j, hj⟩ : ∃ j, itn φ (j + k) (r.headD 0) = r.headD 0 := by
          refine ⟨m * (k + 1) - k, ?_⟩
          have le : k ≤ m * (k + 1) := by
            have := pm.1
            have : 1 * (k + 1) ≤ m * (k + 1) := Nat.mul_le_mul_right _ pm.1
            omega
          rw [Nat.sub_add_cancel le]
          have : ∀ t, itn φ (m * t) (r.headD 0) = r.headD 0 := fun t => by
            induction t with
            | zero => rfl
            | succ t ih =>
              rw [Nat.mul_succ, Nat.add_comm]
              have add : ∀ a b z, itn φ (a + b) z = itn φ a (itn φ b z) := fun a b z => by
                induction a with
                | zero => rw [Nat.zero_add]; rfl
                | succ a iha => rw [Nat.succ_add]; show φ _ = φ _; rw [iha]
              rw [add, ih]
              exact pm.2.1
          exact this _
        have add : ∀ a b z, itn φ (a + b) z = itn φ a (itn φ b z) := fun a b z => by
          induction a with
          | zero => rw [Nat.zero_add]; rfl
          | succ a iha => rw [Nat.succ_add]; show φ _ = φ _; rw [iha]
        rw [add, hk'] at hj
        rw [← hj]
        exact this j
      rw [hd] at hy
      obtain ⟨k, _, hk⟩ := ringL_mem.mp hy
      rw [← hk]
      exact (C.ring c hc).itn sc k
    have cr : ∀ y ∈ c, y ∈ r := by
      intro y hy
      match c, (C.ring c hc), xc, hy with
      | a :: l, q, xc, hy =>
        obtain ⟨k, hk⟩ := path_reach q.pa x xc
        obtain ⟨j, hj⟩ := path_reach q.pa y hy
        have ha : InR n a := cin a (by simp)
        have ar : a ∈ r := by
          have : ∀ k, itn φ k a ∈ r → a ∈ r := fun k => by
            induction k with
            | zero => exact id
            | succ k ih =>
              intro h
              refine ih ?_
              rw [hd] at h ⊢
              exact ring_bwd P ⟨s, hs⟩ (itn_in P ha k) h
          exact this k (by rw [hk]; exact xr)
        rw [← hj]
        have : ∀ k, itn φ k a ∈ r := fun k => by
          induction k with
          | zero => exact ar
          | succ k ih => rw [hd] at ih ⊢; exact ring_fwd P ⟨s, hs⟩ ih
        exact this j
    obtain ⟨l1, l2⟩ := leastL_ok (C.ring c hc).ne
    have h1 := hle (leastL c) (cr _ l1)
    have h2 := l2 (r.headD 0) (rc _ (hl r hr))
    omega
  have s1 : ∀ x ∈ (landsF φ n).map (fun c => c.headD 0), x ∈ R.map leastL := fun x hx => by
    obtain ⟨r, hr, rfl⟩ := List.mem_map.mp hx
    have hi : InR n (r.headD 0) := (lands_of P hr).1
    obtain ⟨c, hc, xc⟩ := List.mem_flatten.mp ((C.mem _).mpr hi)
    exact List.mem_map.mpr ⟨c, hc, key c hc r hr _ xc (hl r hr)⟩
  have s2 : ∀ x ∈ R.map leastL, x ∈ (landsF φ n).map (fun c => c.headD 0) := fun x hx => by
    obtain ⟨c, hc, rfl⟩ := List.mem_map.mp hx
    have l1 := (leastL_ok (C.ring c hc).ne).1
    have hi : InR n (leastL c) := (C.mem _).mp (List.mem_flatten.mpr ⟨c, hc, l1⟩)
    obtain ⟨r, hr, xr⟩ := List.mem_flatten.mp ((lands_mem P).mpr hi)
    exact List.mem_map.mpr ⟨r, hr, (key c hc r hr _ l1 xr).symm⟩
  have a := sub_len _ _ n1 s1
  have b := sub_len _ _ n2 s2
  rw [List.length_map, List.length_map] at a b
  omega
end Mth
namespace Mth
noncomputable def cp : Int → List Int → List (Int × Int)
  | _, [] => []
  | y, a :: l => (a, y) :: cp a l
theorem cp_len : ∀ (y : Int) (l : List Int), (cp y l).length = l.length
  | _, [] => rfl
  | _, a :: l => by simp [cp, cp_len a l]
theorem cp_get : ∀ (y : Int) (l : List Int) (k : Nat), k < l.length → (cp y l)[k]? = some (l.getD k 0, if k = 0 then y else l.getD (k - 1) 0)
  | _, a :: l, 0, _ => rfl
  | y, a :: l, k+1, h => by
    show (cp a l)[k]? = _
    rw [cp_get a l k (by simpa using h)]
    cases k with
    | zero => rfl
    | succ k => simp
theorem rowP_cp (row : List Int) : rowP row = cp (row.getLastD 0) row := by
  refine List.ext_getElem? fun k => ?_
  by_cases h : k < row.length
  · rw [cp_get _ _ _ h]
    unfold rowP prevAt
    rw [List.getElem?_map, List.getElem?_range h]
    show some (row.getD k 0, row.getD (if k = 0 then row.length - 1 else k - 1) 0) = _
    congr 2
    by_cases z : k = 0
    · rw [if_pos z, if_pos z]
      rw [List.getLastD_eq_getLast?, List.getLast?_eq_getElem?, List.getD_eq_getElem?_getD]
    · rw [if_neg z, if_neg z]
  · rw [List.getElem?_eq_none (by rw [rowP_len]; omega), List.getElem?_eq_none (by rw [cp_len]; omega)]
theorem cp_app : ∀ (y : Int) (l m : List Int), cp y (l ++ m) = cp y l ++ cp (l.getLastD y) m
  | _, [], m => rfl
  | y, a :: l, m => by
    show (a, y) :: cp a (l ++ m) = (a, y) :: (cp a l ++ cp ((a :: l).getLastD y) m)
    rw [cp_app a l m, show (a :: l).getLastD y = l.getLastD a by cases l <;> rfl]
theorem cp_map (ρ : Int → Int) : ∀ (y : Int) (l : List Int), cp (ρ y) (l.map ρ) = (cp y l).map fun p => (ρ p.1, ρ p.2)
  | _, [] => rfl
  | y, a :: l => by
    show (ρ a, ρ y) :: cp (ρ a) (l.map ρ) = _
    rw [cp_map ρ a l]; rfl
noncomputable def pr (ts : List (List Int)) (x : Int) : Int := (lk (aheadL ts) x).getD 0
theorem nxt_pr (ts : List (List Int)) (e : Int) : nxt ts e = pr ts (oth e) := rfl
theorem pr_of {ts : List (List Int)} (nd : ts.flatten.Nodup) {x y : Int} (h : (x, y) ∈ aheadL ts) : pr ts x = y := by
  unfold pr
  rw [lk_of (by rw [aheadL_fst]; exact nd) h]; rfl
theorem pr_mem {ts : List (List Int)} (nd : ts.flatten.Nodup) {x : Int} (h : x ∈ ts.flatten) : (x, pr ts x) ∈ aheadL ts := by
  rw [← aheadL_fst] at h
  obtain ⟨v, hv⟩ := lk_some h
  have := lk_mem hv
  unfold pr
  rw [hv]; exact this
theorem ahead_app (A B : List (List Int)) : aheadL (A ++ B) = aheadL A ++ aheadL B := by simp [aheadL]
theorem ahead_mid (A B : List (List Int)) (r : List Int) : aheadL (A ++ r :: B) = aheadL A ++ (rowP r ++ aheadL B) := by simp [aheadL]
theorem flat_mid (A B : List (List Int)) (r : List Int) : (A ++ r :: B).flatten = A.flatten ++ (r ++ B.flatten) := by simp
theorem pr_ins {A B : List (List Int)} {t1 t2 : List Int} {s e : Int} (nd : (A ++ (t1 ++ s :: t2) :: B).flatten.Nodup) (he : e ∉ (A ++ (t1 ++ s :: t2) :: B).flatten) :
    (A ++ (t1 ++ e :: s :: t2) :: B).flatten.Nodup ∧ (∀ x, x ∈ (A ++ (t1 ++ e :: s :: t2) :: B).flatten ↔ x ∈ (A ++ (t1 ++ s :: t2) :: B).flatten ∨ x = e) ∧
    pr (A ++ (t1 ++ e :: s :: t2) :: B) s = e ∧ pr (A ++ (t1 ++ e :: s :: t2) :: B) e = pr (A ++ (t1 ++ s :: t2) :: B) s ∧
    ∀ x, x ∈ (A ++ (t1 ++ s :: t2) :: B).flatten → x ≠ s → pr (A ++ (t1 ++ e :: s :: t2) :: B) x = pr (A ++ (t1 ++ s :: t2) :: B) x := by
  have p : List.Perm (A ++ (t1 ++ e :: s :: t2) :: B).flatten (e :: (A ++ (t1 ++ s :: t2) :: B).flatten) := by
    rw [flat_mid, flat_mid, show A.flatten ++ (t1 ++ e :: s :: t2 ++ B.flatten) = (A.flatten ++ t1) ++ e :: (s :: t2 ++ B.flatten) by simp]
    exact List.perm_middle.trans (List.Perm.cons _ (List.Perm.of_eq (by simp)))
  have nd' : (A ++ (t1 ++ e :: s :: t2) :: B).flatten.Nodup := p.nodup_iff.mpr (List.nodup_cons.mpr ⟨he, nd⟩)
  have hl : (t1 ++ e :: s :: t2).getLastD 0 = (t1 ++ s :: t2).getLastD 0 := by
    rw [List.getLastD_eq_getLast?, List.getLastD_eq_getLast?, List.getLast?_append, List.getLast?_append]
    rw [show (e :: s :: t2).getLast? = (s :: t2).getLast? by simp [List.getLast?_cons_cons]]
  generalize hy : (t1 ++ s :: t2).getLastD 0 = y at hl
  have r1 : rowP (t1 ++ s :: t2) = cp y t1 ++ (s, t1.getLastD y) :: cp s t2 := by rw [rowP_cp, hy, cp_app]; rfl
  have r2 : rowP (t1 ++ e :: s :: t2) = cp y t1 ++ (e, t1.getLastD y) :: (s, e) :: cp s t2 := by rw [rowP_cp, hl, cp_app]; rfl
  have ps : pr (A ++ (t1 ++ s :: t2) :: B) s = t1.getLastD y := pr_of nd (by rw [ahead_mid, r1]; simp)
  refine ⟨nd', fun x => p.mem_iff.trans (by simp only [List.mem_cons]; exact or_comm), pr_of nd' (by rw [ahead_mid, r2]; simp), ?_, fun x hx xs => ?_⟩
  · rw [ps]
    exact pr_of nd' (by rw [ahead_mid, r2]; simp)
  · refine pr_of nd' ?_
    have m := pr_mem nd hx
    rw [ahead_mid, r1] at m
    rw [ahead_mid, r2]
    simp only [List.mem_append, List.mem_cons, Prod.mk.injEq] at m ⊢
    rcases m with z | (z | z | z) | z
    · exact .inl z
    · exact .inr (.inl (.inl z))
    · exact absurd z.1 xs
    · exact .inr (.inl (.inr (.inr (.inr z))))
    · exact .inr (.inr z)
theorem pr_ren {A B : List (List Int)} {t : List Int} {a f : Int} (nd : (A ++ t :: B).flatten.Nodup) (ha : a ∈ t) (hf : f ∉ (A ++ t :: B).flatten) :
    (A ++ (t.map fun x => if x = a then f else x) :: B).flatten.Nodup ∧ (∀ x, x ∈ (A ++ (t.map fun x => if x = a then f else x) :: B).flatten ↔ (x ∈ (A ++ t :: B).flatten ∧ x ≠ a) ∨ x = f) ∧
    pr (A ++ (t.map fun x => if x = a then f else x) :: B) f = (if pr (A ++ t :: B) a = a then f else pr (A ++ t :: B) a) ∧
    ∀ x, x ∈ (A ++ t :: B).flatten → x ≠ a → pr (A ++ (t.map fun x => if x = a then f else x) :: B) x = (if pr (A ++ t :: B) x = a then f else pr (A ++ t :: B) x) := by
  generalize hρ : (fun x => if x = a then f else x) = ρ
  have ra : ρ a = f := by rw [← hρ]; simp
  have rx : ∀ x, x ≠ a → ρ x = x := fun x h => by rw [← hρ]; simp [h]
  have rr : ∀ z, (if z = a then f else z) = ρ z := fun z => by rw [← hρ]
  rw [flat_mid] at nd hf
  obtain ⟨n1, n2, n3⟩ := nd_app.mp nd
  obtain ⟨n4, n5, n6⟩ := nd_app.mp n2
  simp only [List.mem_append, not_or] at hf
  have inj : ∀ x y, x ∈ t → y ∈ t → ρ x = ρ y → x = y := fun x y hx hy e => by
    by_cases xa : x = a
    · by_cases ya : y = a
      · rw [xa, ya]
      · rw [xa, ra, rx y ya] at e; exact absurd (e ▸ hy) hf.2.1
    · by_cases ya : y = a
      · rw [ya, ra, rx x xa] at e; exact absurd (e ▸ hx) hf.2.1
      · rwa [rx x xa, rx y ya] at e
  have ndm : (t.map ρ).Nodup := by
    unfold List.Nodup
    rw [List.pairwise_map]
    exact List.Pairwise.imp_of_mem (fun {x y} hx hy h e => h (inj x y hx hy e)) n4
  have mm : ∀ x, x ∈ t.map ρ ↔ (x ∈ t ∧ x ≠ a) ∨ x = f := fun x => by
    rw [List.mem_map]
    constructor
    · rintro ⟨y, hy, rfl⟩
      by_cases ya : y = a
      · right; rw [ya, ra]
      · left; rw [rx y ya]; exact ⟨hy, ya⟩
    · rintro (⟨h1, h2⟩ | rfl)
      · exact ⟨x, h1, rx x h2⟩
      · exact ⟨a, ha, ra⟩
  have aA : a ∉ A.flatten := fun z => n3 a z (by simp [ha])
  have aB : a ∉ B.flatten := fun z => n6 a ha z
  have nd' : (A ++ (t.map ρ) :: B).flatten.Nodup := by
    rw [flat_mid, nd_app, nd_app]
    refine ⟨n1, ⟨ndm, n5, fun x hx => ?_⟩, fun x hx => ?_⟩
    · rcases (mm x).mp hx with z | z
      · exact n6 x z.1
      · rw [z]; exact hf.2.2
    · intro z
      rcases List.mem_append.mp z with z | z
      · rcases (mm x).mp z with w | w
        · exact n3 x hx (by simp [w.1])
        · exact hf.1 (w ▸ hx)
      · exact n3 x hx (by simp [z])
  have row : rowP (t.map ρ) = (rowP t).map fun p => (ρ p.1, ρ p.2) := by
    rw [rowP_cp, rowP_cp, ← cp_map]
    congr 1
    cases t with
    | nil => cases ha
    | cons b l =>
      rw [List.getLastD_eq_getLast?, List.getLastD_eq_getLast?, List.getLast?_map]
      rw [List.getLast?_cons]; rfl
  have old : ∀ {x y}, (x, y) ∈ aheadL (A ++ t :: B) → x ∈ (A ++ t :: B).flatten ∧ y ∈ (A ++ t :: B).flatten := fun {x y} h => by
    constructor
    · rw [← aheadL_fst]; exact List.mem_map.mpr ⟨_, h, rfl⟩
    · exact (aheadL_snd _).mem_iff.mp (List.mem_map.mpr ⟨_, h, rfl⟩)
  have ndO : (A ++ t :: B).flatten.Nodup := by rw [flat_mid]; exact nd
  have snd_in : ∀ {L : List (List Int)} {x y : Int}, (x, y) ∈ aheadL L → y ∈ L.flatten := fun {L x y} h => (aheadL_snd _).mem_iff.mp (List.mem_map.mpr ⟨_, h, rfl⟩)
  have go : ∀ x y, (x, y) ∈ aheadL (A ++ t :: B) → (ρ x, ρ y) ∈ aheadL (A ++ (t.map ρ) :: B) := fun x y h => by
    have hx := (old h).1
    rw [ahead_mid] at h ⊢
    rw [row]
    rcases List.mem_append.mp h with z | z
    · have xA : x ∈ A.flatten := by rw [← aheadL_fst]; exact List.mem_map.mpr ⟨_, z, rfl⟩
      have yA := snd_in z
      rw [rx x (fun e => aA (e ▸ xA)), rx y (fun e => aA (e ▸ yA))]
      exact List.mem_append_left _ z
    rcases List.mem_append.mp z with z | z
    · exact List.mem_append_right _ (List.mem_append_left _ (List.mem_map.mpr ⟨_, z, rfl⟩))
    · have xB : x ∈ B.flatten := by rw [← aheadL_fst]; exact List.mem_map.mpr ⟨_, z, rfl⟩
      have yB := snd_in z
      rw [rx x (fun e => aB (e ▸ xB)), rx y (fun e => aB (e ▸ yB))]
      exact List.mem_append_right _ (List.mem_append_right _ z)
  have am : a ∈ (A ++ t :: B).flatten := by rw [flat_mid]; simp [ha]
  refine ⟨nd', fun x => ?_, ?_, fun x hx xa => ?_⟩
  · rw [flat_mid, flat_mid]
    simp only [List.mem_append, mm]
    constructor
    · rintro (z | (z | z) | z)
      · exact .inl ⟨.inl z, fun e => aA (e ▸ z)⟩
      · exact .inl ⟨.inr (.inl z.1), z.2⟩
      · exact .inr z
      · exact .inl ⟨.inr (.inr z), fun e => aB (e ▸ z)⟩
    · rintro (⟨z | z | z, w⟩ | z)
      · exact .inl z
      · exact .inr (.inl (.inl ⟨z, w⟩))
      · exact .inr (.inr z)
      · exact .inr (.inl (.inr z))
  · rw [rr]
    have := go _ _ (pr_mem ndO am)
    rw [ra] at this
    exact pr_of nd' this
  · rw [rr]
    have := go _ _ (pr_mem ndO hx)
    rw [rx x xa] at this
    exact pr_of nd' this
theorem pr_push1 {ts : List (List Int)} {a : Int} (nd : ts.flatten.Nodup) (ha : a ∉ ts.flatten) : (ts ++ [[a]]).flatten.Nodup ∧ pr (ts ++ [[a]]) a = a ∧ ∀ x, x ∈ ts.flatten → pr (ts ++ [[a]]) x = pr ts x := by
  have nd' : (ts ++ [[a]]).flatten.Nodup := by
    rw [List.flatten_append, nd_app]
    exact ⟨nd, by simp, fun x hx h => ha (by simp at h; exact h ▸ hx)⟩
  refine ⟨nd', pr_of nd' ?_, fun x hx => pr_of nd' ?_⟩
  · rw [ahead_app]; exact List.mem_append_right _ (by simp [aheadL, rowP_cp, cp])
  · rw [ahead_app]; exact List.mem_append_left _ (pr_mem nd hx)
theorem pr_push2 {ts : List (List Int)} {a b : Int} (nd : ts.flatten.Nodup) (ha : a ∉ ts.flatten) (hb : b ∉ ts.flatten) (ab : a ≠ b) : (ts ++ [[a, b]]).flatten.Nodup ∧ pr (ts ++ [[a, b]]) a = b ∧ pr (ts ++ [[a, b]]) b = a ∧ ∀ x, x ∈ ts.flatten → pr (ts ++ [[a, b]]) x = pr ts x := by
  have nd' : (ts ++ [[a, b]]).flatten.Nodup := by
    rw [List.flatten_append, nd_app]
    refine ⟨nd, by simp [ab], fun x hx h => ?_⟩
    simp at h
    rcases h with z | z
    · exact ha (z ▸ hx)
    · exact hb (z ▸ hx)
  refine ⟨nd', pr_of nd' ?_, pr_of nd' ?_, fun x hx => pr_of nd' ?_⟩
  · rw [ahead_app]; exact List.mem_append_right _ (by simp [aheadL, rowP_cp, cp])
  · rw [ahead_app]; exact List.mem_append_right _ (by simp [aheadL, rowP_cp, cp])
  · rw [ahead_app]; exact List.mem_append_left _ (pr_mem nd hx)
end Mth
namespace Mth
structure Gn (ts : List (List Int)) (hs : List Nat) : Prop where
  ev : hs.length % 2 = 0
  n4 : 4 ≤ hs.length
  two : 2 ≤ ts.length
  nd : ts.flatten.Nodup
  mem : ∀ x, x ∈ ts.flatten ↔ InR hs.length x
  home : ∀ (p : Nat) (t : List Int), ts[p]? = some t → ∀ x : Int, x ∈ t → hs[x.toNat]? = some p
  ne : ∀ t ∈ ts, t ≠ []
  few : 2 * ts.length ≤ hs.length
  lo : hs[0]? = some 0 ∧ hs[1]? = some 1
  hang : ∀ S : Nat → Prop, S 0 → (∀ k, 1 ≤ k → ∀ p q, hs[2*k]? = some p → hs[2*k+1]? = some q → (S p ↔ S q)) → ∀ p, p < ts.length → S p
  flat : ∃ R, Cyc (nxt ts) hs.length R ∧ 2 * (R.length + ts.length) = hs.length + 4
theorem Gn.turns {ts : List (List Int)} {hs : List Nat} (g : Gn ts hs) : Turns hs.length ts := ⟨g.nd, g.mem, g.ev⟩
theorem set_mid {α : Type} {ts : List α} {p : Nat} {r : α} (h : ts[p]? = some r) : ∃ A B, ts = A ++ r :: B ∧ A.length = p ∧ ∀ r', ts.set p r' = A ++ r' :: B := by
  obtain ⟨hp, e⟩ := List.getElem?_eq_some_iff.mp h
  refine ⟨ts.take p, ts.drop (p+1), ?_, by rw [List.length_take]; omega, fun r' => ?_⟩
  · rw [← e, List.getElem_cons_drop, List.take_append_drop]
  · exact List.set_eq_take_append_cons_drop .. |>.trans (by rw [if_pos hp])
theorem oth_even {n : Nat} (h : n % 2 = 0) : oth (n : Int) = (n : Int) + 1 := by unfold oth; rw [if_pos (by omega)]
theorem oth_odd {n : Nat} (h : n % 2 = 0) : oth ((n : Int) + 1) = n := by unfold oth; rw [if_neg (by omega)]; omega
theorem oth_inj {x y : Int} (h : oth x = oth y) : x = y := by rw [← oth_oth x, h, oth_oth]
theorem Cyc.ins2 {φ ψ : Int → Int} {n : Nat} {R : List (List Int)} {a : Int} (C : Cyc φ n R) (ha : InR n a) (h1 : ψ a = n) (h2 : ψ n = (n : Int) + 1) (h3 : ψ ((n : Int) + 1) = φ a) (h4 : ∀ x, InR n x → x ≠ a → ψ x = φ x) : ∃ R', Cyc ψ (n+2) R' ∧ R'.length = R.length := by
  have hn : ∀ x, InR n x → x ≠ (n : Int) := fun x h e => by have := h.2; omega
  obtain ⟨R1, C1, l1⟩ := C.ins (ψ := fun x => if x = n then φ a else ψ x) ha (by show (if a = (n : Int) then φ a else ψ a) = n; rw [if_neg (hn a ha)]; exact h1) (by show (if (n : Int) = n then φ a else ψ n) = φ a; rw [if_pos rfl]) (fun x hx xa => by show (if x = (n : Int) then φ a else ψ x) = φ x; rw [if_neg (hn x hx)]; exact h4 x hx xa)
  obtain ⟨R2, C2, l2⟩ := C1.ins (ψ := ψ) (u := n) ⟨by omega, by omega⟩ (by rw [h2]; push_cast; rfl) (by show ψ ((n + 1 : Nat) : Int) = (if (n : Int) = n then φ a else ψ n); rw [if_pos rfl, ← h3]; push_cast; rfl) (fun x hx xn => by show ψ x = (if x = (n : Int) then φ a else ψ x); rw [if_neg xn])
  exact ⟨R2, C2, by omega⟩
theorem Gn.hung {ts : List (List Int)} {hs : List Nat} (g : Gn ts hs) {p : Nat} {t1 t2 : List Int} {s : Int} (hp : ts[p]? = some (t1 ++ s :: t2)) :
    Gn (ts.set p (t1 ++ (hs.length : Int) :: s :: t2) ++ [[(hs.length : Int) + 1]]) (hs ++ [p] ++ [ts.length]) := by
  obtain ⟨A, B, eT, lA, eS⟩ := set_mid hp
  have pl : p < ts.length := (List.getElem?_eq_some_iff.mp hp).1
  have nd0 := g.nd
  have mem0 := g.mem
  generalize hn : hs.length = n at *
  have ev := g.ev
  rw [hn] at ev
  have em : ((n : Nat) : Int) ∉ ts.flatten := fun z => by have := (mem0 _).mp z; omega
  have em1 : ((n : Nat) : Int) + 1 ∉ ts.flatten := fun z => by have := (mem0 _).mp z; omega
  have sm : s ∈ ts.flatten := List.mem_flatten.mpr ⟨_, List.mem_of_getElem? hp, by simp⟩
  have sR := (mem0 s).mp sm
  rw [eT] at nd0 em
  obtain ⟨nd1, mem1, q1, q2, q3⟩ := pr_ins nd0 em
  rw [← eT, ← eS] at *
  have em1' : ((n : Nat) : Int) + 1 ∉ (ts.set p (t1 ++ (n : Int) :: s :: t2)).flatten := fun z => by
    rcases (mem1 _).mp z with w | w
    · exact em1 w
    · omega
  obtain ⟨nd2, q4, q5⟩ := pr_push1 nd1 em1'
  have q6 : ∀ x ∈ ts.flatten, pr (ts.set p (t1 ++ (n : Int) :: s :: t2) ++ [[(n : Int) + 1]]) x = pr (ts.set p (t1 ++ (n : Int) :: s :: t2)) x := fun x hx => q5 x ((mem1 x).mpr (.inl hx))
  have lH : (hs ++ [p] ++ [ts.length]).length = n + 2 := by simp [hn]
  have lT : (ts.set p (t1 ++ (n : Int) :: s :: t2) ++ [[(n : Int) + 1]]).length = ts.length + 1 := by simp
  obtain ⟨R, C, eR⟩ := g.flat
  rw [hn] at C eR
  have aR : InR n (oth s) := oth_in ev sR
  have flat : ∃ R', Cyc (nxt (ts.set p (t1 ++ (n : Int) :: s :: t2) ++ [[(n : Int) + 1]])) (n+2) R' ∧ R'.length = R.length := by
    refine C.ins2 aR ?_ ?_ ?_ fun x hx xa => ?_
    · rw [nxt_pr, oth_oth, q6 s sm, q1]
    · rw [nxt_pr, oth_even ev, q4]
    · rw [nxt_pr, oth_odd ev, q5 _ ((mem1 _).mpr (.inr rfl)), q2, nxt_pr, oth_oth]
    · have hm : oth x ∈ ts.flatten := (mem0 _).mpr (oth_in ev hx)
      rw [nxt_pr, q6 _ hm, q3 _ hm (fun e => xa (by rw [← e, oth_oth])), nxt_pr]
  obtain ⟨R', C', l'⟩ := flat
  have few := g.few
  have n4 := g.n4
  rw [hn] at few n4
  have hget : ∀ {i q}, hs[i]? = some q → (hs ++ [p] ++ [ts.length])[i]? = some q := fun {i q} h => by
    rw [List.append_assoc, List.getElem?_append_left (List.getElem?_eq_some_iff.mp h).1]; exact h
  refine ⟨by rw [lH]; omega, by rw [lH]; omega, by rw [lT]; have := g.two; omega, nd2, fun x => ?_, fun q t hq x hx => ?_, fun t ht => ?_, by rw [lT, lH]; omega, ⟨hget g.lo.1, hget g.lo.2⟩, fun S S0 hS q hq => ?_, R', by rw [lH]; exact C', by rw [lH, lT, l']; omega⟩
  · rw [lH, List.flatten_append, List.mem_append, mem1, mem0]
    simp only [List.flatten_cons, List.flatten_nil, List.append_nil, List.mem_singleton, InR]
    omega
  · rcases Nat.lt_or_ge q ts.length with ql | ql
    · rw [List.getElem?_append_left (by simpa using ql)] at hq
      by_cases e : p = q
      · subst e
        rw [List.getElem?_set_self ql] at hq
        cases hq
        by_cases xn : x = n
        · rw [xn, Int.toNat_natCast, ← hn, List.append_assoc, List.getElem?_append_right (Nat.le_refl _)]; simp
        · refine hget (g.home p _ hp x ?_)
          simp only [List.mem_append, List.mem_cons] at hx ⊢
          rcases hx with z | z | z | z
          · exact .inl z
          · exact absurd z xn
          · exact .inr (.inl z)
          · exact .inr (.inr z)
      · rw [List.getElem?_set_ne e] at hq
        exact hget (g.home q t hq x hx)
    · have : q = ts.length := by
        have := (List.getElem?_eq_some_iff.mp hq).1
        rw [lT] at this; omega
      subst this
      rw [List.getElem?_append_right (by simp)] at hq
      simp at hq
      subst hq
      rw [List.mem_singleton.mp hx, show ((n : Int) + 1).toNat = n + 1 by omega, ← hn]
      rw [List.getElem?_append_right (by simp)]; simp
  · rcases List.mem_append.mp ht with z | z
    · rcases List.mem_or_eq_of_mem_set z with w | w
      · exact g.ne t w
      · rw [w]; simp
    · rw [List.mem_singleton.mp z]; simp
  · have h1 := g.hang S S0 (fun k k1 a b ha hb => hS k k1 a b (hget ha) (hget hb))
    rcases Nat.lt_or_ge q ts.length with ql | ql
    · exact h1 q ql
    · have : q = ts.length := by rw [lT] at hq; omega
      subst this
      have := hS (n / 2) (by omega) p ts.length (by rw [show 2 * (n / 2) = n by omega, ← hn, List.append_assoc, List.getElem?_append_right (Nat.le_refl _)]; simp) (by rw [show 2 * (n / 2) + 1 = n + 1 by omega, ← hn, List.getElem?_append_right (by simp)]; simp)
      exact this.mp (h1 p pl)
end Mth
namespace Mth
structure Gb (ts : List (List Int)) (hs : List Nat) : Prop where
  nd : ts.flatten.Nodup
  mem : ∀ x, x ∈ ts.flatten ↔ InR hs.length x
  home : ∀ (p : Nat) (t : List Int), ts[p]? = some t → ∀ x : Int, x ∈ t → hs[x.toNat]? = some p
  ne : ∀ t ∈ ts, t ≠ []
theorem Gn.gb {ts : List (List Int)} {hs : List Nat} (g : Gn ts hs) : Gb ts hs := ⟨g.nd, g.mem, g.home, g.ne⟩
theorem Gb.ins {ts : List (List Int)} {hs : List Nat} (g : Gb ts hs) {p : Nat} {t1 t2 : List Int} {s : Int} (hp : ts[p]? = some (t1 ++ s :: t2)) :
    Gb (ts.set p (t1 ++ (hs.length : Int) :: s :: t2)) (hs ++ [p]) ∧ pr (ts.set p (t1 ++ (hs.length : Int) :: s :: t2)) s = hs.length ∧ pr (ts.set p (t1 ++ (hs.length : Int) :: s :: t2)) hs.length = pr ts s ∧
      ∀ x, InR hs.length x → x ≠ s → pr (ts.set p (t1 ++ (hs.length : Int) :: s :: t2)) x = pr ts x := by
  obtain ⟨A, B, eT, lA, eS⟩ := set_mid hp
  have pl : p < ts.length := (List.getElem?_eq_some_iff.mp hp).1
  have nd0 := g.nd
  have mem0 := g.mem
  generalize hn : hs.length = n at *
  have em : ((n : Nat) : Int) ∉ ts.flatten := fun z => by have := (mem0 _).mp z; omega
  rw [eT] at nd0 em
  obtain ⟨nd1, mem1, q1, q2, q3⟩ := pr_ins nd0 em
  rw [← eT, ← eS] at *
  have lH : (hs ++ [p]).length = n + 1 := by simp [hn]
  have hget : ∀ {i q}, hs[i]? = some q → (hs ++ [p])[i]? = some q := fun {i q} h => by
    rw [List.getElem?_append_left (List.getElem?_eq_some_iff.mp h).1]; exact h
  refine ⟨⟨nd1, fun x => ?_, fun q t hq x hx => ?_, fun t ht => ?_⟩, q1, q2, fun x hx xs => q3 x ((mem0 x).mpr hx) xs⟩
  · rw [lH, mem1, mem0, in_succ]
  · by_cases e : p = q
    · subst e
      rw [List.getElem?_set_self pl] at hq
      cases hq
      by_cases xn : x = n
      · rw [xn, Int.toNat_natCast, ← hn, List.getElem?_append_right (Nat.le_refl _)]; simp
      · refine hget (g.home p _ hp x ?_)
        simp only [List.mem_append, List.mem_cons] at hx ⊢
        rcases hx with z | z | z | z
        · exact .inl z
        · exact absurd z xn
        · exact .inr (.inl z)
        · exact .inr (.inr z)
    · rw [List.getElem?_set_ne e] at hq
      exact hget (g.home q t hq x hx)
  · rcases List.mem_or_eq_of_mem_set ht with w | w
    · exact g.ne t w
    · rw [w]; simp
theorem Gn.chord {ts : List (List Int)} {hs : List Nat} (g : Gn ts hs) {p1 p2 : Nat} {t1 t2 u1 u2 : List Int} {a b : Int} (aR : InR hs.length a) (kb : ∃ k, itn (nxt ts) k a = b)
    (h1 : ts[p1]? = some (t1 ++ oth a :: t2)) (h2 : (ts.set p1 (t1 ++ (hs.length : Int) :: oth a :: t2))[p2]? = some (u1 ++ oth b :: u2)) :
    Gn ((ts.set p1 (t1 ++ (hs.length : Int) :: oth a :: t2)).set p2 (u1 ++ ((hs.length : Int) + 1) :: oth b :: u2)) (hs ++ [p1] ++ [p2]) := by
  have ev := g.ev
  have n4 := g.n4
  have few := g.few
  have T := g.turns
  obtain ⟨R, C, eR⟩ := g.flat
  have bR : InR hs.length b := by obtain ⟨k, rfl⟩ := kb; exact itn_in T.perm aR k
  obtain ⟨B1, q1, q2, q3⟩ := g.gb.ins h1
  generalize hT1 : ts.set p1 (t1 ++ (hs.length : Int) :: oth a :: t2) = ts1 at *
  have lT1 : ts1.length = ts.length := by rw [← hT1]; simp
  have lh : (hs ++ [p1]).length = hs.length + 1 := by simp
  have e1 : (((hs ++ [p1]).length : Nat) : Int) = (hs.length : Int) + 1 := by rw [lh]; push_cast; rfl
  obtain ⟨B2, r1, r2, r3⟩ := B1.ins h2
  rw [e1] at B2 r1 r2 r3
  rw [lh] at r3
  generalize hT2 : ts1.set p2 (u1 ++ ((hs.length : Int) + 1) :: oth b :: u2) = ts2 at *
  have lT2 : ts2.length = ts.length := by rw [← hT2]; simp [lT1]
  have lH : (hs ++ [p1] ++ [p2]).length = hs.length + 2 := by simp
  have hget : ∀ {i q}, hs[i]? = some q → (hs ++ [p1] ++ [p2])[i]? = some q := fun {i q} h => by
    rw [List.append_assoc, List.getElem?_append_left (List.getElem?_eq_some_iff.mp h).1]; exact h
  have saR := oth_in ev aR
  have sbR := oth_in ev bR
  generalize hn : hs.length = n at *
  have up : ∀ {x : Int}, InR n x → InR (n+1) x := fun {x} h => ⟨h.1, by have := h.2; omega⟩
  -- what comes next now
  have w1 : nxt ts2 ((n : Int) + 1) = nxt ts a := by
    rw [nxt_pr, oth_odd ev, r3 _ ⟨by omega, by omega⟩ (fun e => by have := sbR.2; omega), q2, nxt_pr]
  have w2 : nxt ts2 b = (n : Int) + 1 := by rw [nxt_pr, r1]
  have w3 : ∀ x, InR n x → x ≠ a → x ≠ b → nxt ts2 x = nxt ts x := fun x hx xa xb => by
    have := oth_in ev hx
    rw [nxt_pr, r3 _ (up this) (fun e => xb (oth_inj e)), q3 _ this (fun e => xa (oth_inj e)), nxt_pr]
  have flat : ∃ R', Cyc (nxt ts2) (n+2) R' ∧ R'.length = R.length + 1 := by
    have hnn : ∀ {x : Int}, InR n x → x ≠ (n : Int) := fun {x} h e => by have := h.2; omega
    by_cases ab : a = b
    · subst ab
      have w4 : nxt ts2 n = n := by rw [nxt_pr, oth_even ev, r2, q1]
      obtain ⟨R1, C1, l1⟩ := C.fix (ψ := fun x => if x = (n : Int) then (n : Int) else nxt ts x) (by show (if (n : Int) = n then (n : Int) else _) = n; rw [if_pos rfl]) (fun x hx => by show (if x = (n : Int) then (n : Int) else nxt ts x) = _; rw [if_neg (hnn hx)])
      obtain ⟨R2, C2, l2⟩ := C1.ins (ψ := nxt ts2) (u := a) (up aR) (by rw [w2]; push_cast; rfl) (by show nxt ts2 ((n + 1 : Nat) : Int) = (if a = (n : Int) then (n : Int) else nxt ts a); rw [if_neg (hnn aR), ← w1]; push_cast; rfl) (fun x hx xa => by
        show nxt ts2 x = (if x = (n : Int) then (n : Int) else nxt ts x)
        rcases in_succ.mp hx with z | z
        · rw [if_neg (hnn z), w3 x z xa xa]
        · rw [if_pos z, z, w4])
      exact ⟨R2, C2, by omega⟩
    · have sab : oth b ≠ oth a := fun e => ab (oth_inj e).symm
      have w4 : nxt ts2 n = nxt ts b := by rw [nxt_pr, oth_even ev, r2, q3 _ sbR sab, nxt_pr]
      have w5 : nxt ts2 a = n := by rw [nxt_pr, r3 _ (up saR) (fun e => sab e.symm), q1]
      obtain ⟨c, hc, ac⟩ := List.mem_flatten.mp ((C.mem a).mpr aR)
      have bc : b ∈ c := by obtain ⟨k, rfl⟩ := kb; exact (C.ring c hc).itn ac k
      obtain ⟨R1, C1, l1⟩ := C.swap (ψ := fun x => if x = a then nxt ts b else if x = b then nxt ts a else nxt ts x) hc ac bc ab (by show (if a = a then _ else _) = _; rw [if_pos rfl]) (by show (if b = a then _ else if b = b then _ else _) = _; rw [if_neg (fun e => ab e.symm), if_pos rfl]) (fun x _ xa xb => by show (if x = a then _ else if x = b then _ else nxt ts x) = _; rw [if_neg xa, if_neg xb])
      obtain ⟨R2, C2, l2⟩ := C1.ins (ψ := fun x => if x = a then (n : Int) else if x = (n : Int) then nxt ts b else if x = b then nxt ts a else nxt ts x) aR (by show (if a = a then (n : Int) else _) = n; rw [if_pos rfl]) (by show (if (n : Int) = a then (n : Int) else if (n : Int) = n then nxt ts b else _) = (if a = a then nxt ts b else _); rw [if_neg (fun e => hnn aR e.symm), if_pos rfl, if_pos rfl]) (fun x hx xa => by
        show (if x = a then (n : Int) else if x = (n : Int) then nxt ts b else if x = b then nxt ts a else nxt ts x) = (if x = a then nxt ts b else if x = b then nxt ts a else nxt ts x)
        rw [if_neg xa, if_neg xa, if_neg (hnn hx)])
      obtain ⟨R3, C3, l3⟩ := C2.ins (ψ := nxt ts2) (u := b) (up bR) (by rw [w2]; push_cast; rfl) (by
        show nxt ts2 ((n + 1 : Nat) : Int) = (if b = a then (n : Int) else if b = (n : Int) then nxt ts b else if b = b then nxt ts a else nxt ts b)
        rw [if_neg (fun e => ab e.symm), if_neg (hnn bR), if_pos rfl, ← w1]; push_cast; rfl) (fun x hx xb => by
        show nxt ts2 x = (if x = a then (n : Int) else if x = (n : Int) then nxt ts b else if x = b then nxt ts a else nxt ts x)
        by_cases xa : x = a
        · rw [if_pos xa, xa, w5]
        · rw [if_neg xa]
          rcases in_succ.mp hx with z | z
          · rw [if_neg (hnn z), if_neg xb, w3 x z xa xb]
          · rw [if_pos z, z, w4])
      exact ⟨R3, C3, by omega⟩
  obtain ⟨R', C', l'⟩ := flat
  refine ⟨by rw [lH]; omega, by rw [lH]; omega, by rw [lT2]; exact g.two, B2.nd, B2.mem, B2.home, B2.ne, by rw [lT2, lH]; omega, ⟨hget g.lo.1, hget g.lo.2⟩, fun S S0 hS q hq => ?_, R', by rw [lH]; exact C', by rw [lH, lT2, l']; omega⟩
  exact g.hang S S0 (fun k k1 x y hx hy => hS k k1 x y (hget hx) (hget hy)) q (by omega)
theorem path_pre {φ : Int → Int} {y : Int} : ∀ {l : List Int}, Path φ l y → ∀ x ∈ l, x = l.headD 0 ∨ ∃ z ∈ l, φ z = x
  | a :: l, g, x, h => by
    rcases List.mem_cons.mp h with rfl | h
    · exact .inl rfl
    · right
      cases l with
      | nil => cases h
      | cons b l =>
        rcases path_pre g.2 x h with e | ⟨z, hz, e⟩
        · exact ⟨a, by simp, by rw [g.1, e]; rfl⟩
        · exact ⟨z, by simp [hz], e⟩
theorem path_last {φ : Int → Int} {y : Int} : ∀ {l : List Int}, l ≠ [] → Path φ l y → ∃ z ∈ l, φ z = y
  | [a], _, g => ⟨a, by simp, g.1⟩
  | a :: b :: l, _, g => by
    obtain ⟨z, hz, e⟩ := path_last (l := b :: l) (by simp) g.2
    exact ⟨z, List.mem_cons_of_mem _ hz, e⟩
theorem Cyc.pre {φ : Int → Int} {n : Nat} {R : List (List Int)} (C : Cyc φ n R) {x : Int} (hx : InR n x) : ∃ z, InR n z ∧ φ z = x := by
  obtain ⟨c, hc, xc⟩ := List.mem_flatten.mp ((C.mem x).mpr hx)
  have r := C.ring c hc
  rcases path_pre r.pa x xc with e | ⟨z, hz, e⟩
  · obtain ⟨z, hz, e2⟩ := path_last r.ne r.pa
    exact ⟨z, (C.mem z).mp (List.mem_flatten.mpr ⟨c, hc, hz⟩), e2.trans e.symm⟩
  · exact ⟨z, (C.mem z).mp (List.mem_flatten.mpr ⟨c, hc, hz⟩), e⟩
end Mth
namespace Mth
theorem Gn.part {ts : List (List Int)} {hs : List Nat} (g : Gn ts hs) {p r : Nat} {t : List Int} {pe : Int} (r1 : 1 ≤ r) (er : pe = 2 * (r : Int) + 1) (hp : ts[p]? = some t) (pm : pe ∈ t) :
    Gn (ts.set p (t.map fun x => if x = pe then (hs.length : Int) + 1 else x) ++ [[pe, (hs.length : Int)]]) ((hs ++ [ts.length] ++ [p]).set pe.toNat ts.length) := by
  obtain ⟨A, B, eT, lA, eS⟩ := set_mid hp
  have pl : p < ts.length := (List.getElem?_eq_some_iff.mp hp).1
  have nd0 := g.nd
  have mem0 := g.mem
  have ev := g.ev
  have n4 := g.n4
  have few := g.few
  have P := g.turns.perm
  obtain ⟨R, C, eR⟩ := g.flat
  have pet : pe ∈ ts.flatten := List.mem_flatten.mpr ⟨t, List.mem_of_getElem? hp, pm⟩
  have peR := (mem0 pe).mp pet
  have hpe := g.home p t hp pe pm
  generalize hn : hs.length = n at *
  have pn : pe.toNat < n := by have := peR.2; omega
  have pt : pe.toNat = 2 * r + 1 := by omega
  have em : ((n : Nat) : Int) + 1 ∉ ts.flatten := fun z => by have := (mem0 _).mp z; omega
  rw [eT] at nd0 em
  obtain ⟨nd1, mem1, q1, q2⟩ := pr_ren nd0 pm em
  rw [← eT, ← eS] at *
  generalize hT1 : ts.set p (t.map fun x => if x = pe then (n : Int) + 1 else x) = ts1 at *
  have lT1 : ts1.length = ts.length := by rw [← hT1]; simp
  have pe1 : pe ∉ ts1.flatten := fun z => by
    rcases (mem1 _).mp z with w | w
    · exact w.2 rfl
    · have := peR.2; omega
  have n1 : ((n : Nat) : Int) ∉ ts1.flatten := fun z => by
    rcases (mem1 _).mp z with w | w
    · have := (mem0 _).mp w.1; omega
    · omega
  obtain ⟨nd2, w1, w2, w3⟩ := pr_push2 nd1 pe1 n1 (fun e => by have := peR.2; omega)
  generalize hT2 : ts1 ++ [[pe, (n : Int)]] = ts2 at *
  have lT2 : ts2.length = ts.length + 1 := by rw [← hT2]; simp [lT1]
  have lH : ((hs ++ [ts.length] ++ [p]).set pe.toNat ts.length).length = n + 2 := by simp [hn]
  have qR := oth_in ev peR
  -- what comes next now
  have v1 : nxt ts2 (oth pe) = n := by rw [nxt_pr, oth_oth, w1]
  have v2 : nxt ts2 n = (if nxt ts (oth pe) = pe then (n : Int) + 1 else nxt ts (oth pe)) := by
    rw [nxt_pr, oth_even ev, w3 _ ((mem1 _).mpr (.inr rfl)), q1, nxt_pr, oth_oth]
  have v3 : nxt ts2 ((n : Int) + 1) = pe := by rw [nxt_pr, oth_odd ev, w2]
  have v4 : ∀ x, InR n x → x ≠ oth pe → nxt ts2 x = (if nxt ts x = pe then (n : Int) + 1 else nxt ts x) := fun x hx xq => by
    have ox := oth_in ev hx
    have xp : oth x ≠ pe := fun e => xq (by rw [← e, oth_oth])
    rw [nxt_pr, w3 _ ((mem1 _).mpr (.inl ⟨(mem0 _).mpr ox, xp⟩)), q2 _ ((mem0 _).mpr ox) xp, nxt_pr]
  have hnn : ∀ {x : Int}, InR n x → x ≠ (n : Int) := fun {x} h e => by have := h.2; omega
  have flat : ∃ R', Cyc (nxt ts2) (n+2) R' ∧ R'.length = R.length := by
    obtain ⟨R1, C1, l1⟩ := C.ins (ψ := fun x => if x = oth pe then (n : Int) else if x = (n : Int) then nxt ts (oth pe) else nxt ts x) qR (by show (if oth pe = oth pe then (n : Int) else _) = n; rw [if_pos rfl]) (by show (if (n : Int) = oth pe then (n : Int) else if (n : Int) = n then nxt ts (oth pe) else _) = _; rw [if_neg (fun e => hnn qR e.symm), if_pos rfl]) (fun x hx xq => by show (if x = oth pe then (n : Int) else if x = (n : Int) then nxt ts (oth pe) else nxt ts x) = nxt ts x; rw [if_neg xq, if_neg (hnn hx)])
    obtain ⟨u, uR, hu⟩ := C1.pre (x := pe) ⟨peR.1, by have := peR.2; omega⟩
    have hu' : (if u = oth pe then (n : Int) else if u = (n : Int) then nxt ts (oth pe) else nxt ts u) = pe := hu
    have uq : u ≠ oth pe := fun e => by rw [if_pos e] at hu'; exact hnn peR hu'.symm
    rw [if_neg uq] at hu'
    have uu : u = (n : Int) ∧ nxt ts (oth pe) = pe ∨ InR n u ∧ nxt ts u = pe := by
      rcases in_succ.mp uR with z | z
      · right; rw [if_neg (hnn z)] at hu'; exact ⟨z, hu'⟩
      · left; rw [if_pos z] at hu'; exact ⟨z, hu'⟩
    obtain ⟨R2, C2, l2⟩ := C1.ins (ψ := nxt ts2) (u := u) uR (by
      rcases uu with ⟨e, z⟩ | ⟨z, e⟩
      · rw [e, v2, if_pos z]; push_cast; rfl
      · rw [v4 u z uq, if_pos e]; push_cast; rfl) (by
      show nxt ts2 ((n + 1 : Nat) : Int) = (if u = oth pe then (n : Int) else if u = (n : Int) then nxt ts (oth pe) else nxt ts u)
      rw [if_neg uq, hu', ← v3]; push_cast; rfl) (fun x hx xu => by
      show nxt ts2 x = (if x = oth pe then (n : Int) else if x = (n : Int) then nxt ts (oth pe) else nxt ts x)
      by_cases xq : x = oth pe
      · rw [if_pos xq, xq, v1]
      · rw [if_neg xq]
        rcases in_succ.mp hx with z | z
        · rw [if_neg (hnn z), v4 x z xq, if_neg]
          intro e
          rcases uu with ⟨_, e2⟩ | ⟨zu, e2⟩
          · exact xq (P.inj _ _ z qR (e.trans e2.symm))
          · exact xu (P.inj _ _ z zu (e.trans e2.symm))
        · rw [if_pos z, z, v2, if_neg]
          intro e
          rcases uu with ⟨e2, _⟩ | ⟨zu, e2⟩
          · exact xu (z.trans e2.symm)
          · exact uq (P.inj _ _ zu qR (e2.trans e.symm)))
    exact ⟨R2, C2, by omega⟩
  obtain ⟨R', C', l'⟩ := flat
  have hget : ∀ {i q}, hs[i]? = some q → i ≠ pe.toNat → ((hs ++ [ts.length] ++ [p]).set pe.toNat ts.length)[i]? = some q := fun {i q} h ne => by
    rw [List.getElem?_set_ne (fun e => ne e.symm), List.append_assoc, List.getElem?_append_left (List.getElem?_eq_some_iff.mp h).1]; exact h
  have hN : ((hs ++ [ts.length] ++ [p]).set pe.toNat ts.length)[n]? = some ts.length := by
    rw [List.getElem?_set_ne (by omega), List.append_assoc, ← hn, List.getElem?_append_right (Nat.le_refl _)]; simp
  have hN1 : ((hs ++ [ts.length] ++ [p]).set pe.toNat ts.length)[n+1]? = some p := by
    rw [List.getElem?_set_ne (by omega), ← hn, List.getElem?_append_right (by simp)]; simp
  have hP : ((hs ++ [ts.length] ++ [p]).set pe.toNat ts.length)[pe.toNat]? = some ts.length := by
    rw [List.getElem?_set_self (by simp [hn]; omega)]
  have two := g.two
  refine ⟨by rw [lH]; omega, by rw [lH]; omega, by rw [lT2]; omega, nd2, fun x => ?_, fun i t' hi x hx => ?_, fun t' ht' => ?_, by rw [lT2, lH]; omega, ⟨hget g.lo.1 (by omega), hget g.lo.2 (by omega)⟩, fun S S0 hS i hi => ?_, R', by rw [lH]; exact C', by rw [lH, lT2, l']; omega⟩
  · rw [lH, ← hT2, List.flatten_append, List.mem_append, mem1, mem0]
    simp only [List.flatten_cons, List.flatten_nil, List.append_nil, List.mem_cons, List.not_mem_nil, or_false, InR]
    have := peR.1
    have := peR.2
    omega
  · rw [← hT2] at hi
    rcases Nat.lt_or_ge i ts.length with il | il
    · rw [List.getElem?_append_left (by omega), ← hT1] at hi
      by_cases e : p = i
      · subst e
        rw [List.getElem?_set_self pl] at hi
        cases hi
        obtain ⟨y, hy, rfl⟩ := List.mem_map.mp hx
        by_cases yp : y = pe
        · rw [if_pos yp, show ((n : Int) + 1).toNat = n + 1 by omega]; exact hN1
        · rw [if_neg yp]
          have yR := (mem0 y).mp (List.mem_flatten.mpr ⟨t, List.mem_of_getElem? hp, hy⟩)
          exact hget (g.home p t hp y hy) (fun e => yp (by have := yR.1; have := peR.1; omega))
      · rw [List.getElem?_set_ne e] at hi
        have hx2 := g.home i t' hi x hx
        refine hget hx2 (fun z => ?_)
        rw [z, hpe] at hx2
        exact e (Option.some.inj hx2)
    · have : i = ts.length := by
        have := (List.getElem?_eq_some_iff.mp hi).1
        simp [lT1] at this; omega
      subst this
      rw [List.getElem?_append_right (by omega), lT1] at hi
      simp at hi
      subst hi
      simp only [List.mem_cons, List.not_mem_nil, or_false] at hx
      rcases hx with rfl | rfl
      · exact hP
      · rw [Int.toNat_natCast]; exact hN
  · rw [← hT2, ← hT1] at ht'
    rcases List.mem_append.mp ht' with z | z
    · rcases List.mem_or_eq_of_mem_set z with w | w
      · exact g.ne t' w
      · rw [w]
        intro e
        rw [List.map_eq_nil_iff] at e
        rw [e] at pm
        cases pm
    · rw [List.mem_singleton.mp z]; simp
  · have sP : S ts.length ↔ S p := hS (n / 2) (by omega) _ _ (by rw [show 2 * (n / 2) = n by omega]; exact hN) (by rw [show 2 * (n / 2) + 1 = n + 1 by omega]; exact hN1)
    have old := g.hang S S0 (fun k k1 x y hx hy => by
      by_cases e : 2 * k + 1 = pe.toNat
      · have ey : y = p := by rw [e, hpe] at hy; exact (Option.some.inj hy).symm
        subst ey
        exact (hS k k1 x ts.length (hget hx (by omega)) (by rw [e]; exact hP)).trans sP
      · exact hS k k1 x y (hget hx (by omega)) (hget hy e))
    rcases Nat.lt_or_ge i ts.length with il | il
    · exact old i il
    · have : i = ts.length := by rw [lT2] at hi; omega
      rw [this]
      exact sP.mpr (old p pl)
theorem Gn.first : Gn [[0, 2], [1, 3]] [0, 1, 0, 1] := by
  have nd : ([[0, 2], [1, 3]] : List (List Int)).flatten.Nodup := by decide
  have p0 : pr [[0, 2], [1, 3]] 0 = 2 := by decide
  have p1 : pr [[0, 2], [1, 3]] 1 = 3 := by decide
  have p2 : pr [[0, 2], [1, 3]] 2 = 0 := by decide
  have p3 : pr [[0, 2], [1, 3]] 3 = 1 := by decide
  refine ⟨by decide, by decide, by decide, nd, fun x => ?_, fun p t hp x hx => ?_, by decide, by decide, ⟨rfl, rfl⟩, fun S S0 hS p hp => ?_, [[0, 3], [1, 2]], ⟨by decide, fun x => ?_, fun c hc => ?_⟩, by decide⟩
  · simp only [List.flatten_cons, List.flatten_nil, List.append_nil, List.mem_append, List.mem_cons, List.not_mem_nil, or_false, InR, List.length_cons, List.length_nil]
    omega
  · match p, hp with
    | 0, hp => cases hp; simp at hx; rcases hx with rfl | rfl <;> rfl
    | 1, hp => cases hp; simp at hx; rcases hx with rfl | rfl <;> rfl
  · have := hS 1 (by decide) 0 1 rfl rfl
    match p, hp with
    | 0, _ => exact S0
    | 1, _ => exact this.mp S0
  · simp only [List.flatten_cons, List.flatten_nil, List.append_nil, List.mem_append, List.mem_cons, List.not_mem_nil, or_false, InR, List.length_cons, List.length_nil]
    omega
  · simp only [List.mem_cons, List.not_mem_nil, or_false] at hc
    rcases hc with rfl | rfl
    · exact ⟨by simp, by decide, by decide, trivial⟩
    · exact ⟨by simp, by decide, by decide, trivial⟩
theorem Gn.lands {ts : List (List Int)} {hs : List Nat} (g : Gn ts hs) : 2 * ((landsF (nxt ts) hs.length).length + ts.length) = hs.length + 4 := by
  obtain ⟨R, C, e⟩ := g.flat
  rw [C.count g.turns.perm]; exact e
end Mth
namespace Mth
theorem Cyc.congr {φ ψ : Int → Int} {n : Nat} {R : List (List Int)} (C : Cyc φ n R) (h : ∀ x, InR n x → ψ x = φ x) : Cyc ψ n R :=
  ⟨C.nd, C.mem, fun c hc => ⟨(C.ring c hc).ne, path_congr (fun x hx => h x ((C.mem x).mp (List.mem_flatten.mpr ⟨c, hc, hx⟩))) (C.ring c hc).pa⟩⟩
theorem path_map {φ ψ ρ : Int → Int} {y : Int} : ∀ {l : List Int}, (∀ x ∈ l, ψ (ρ x) = ρ (φ x)) → Path φ l y → Path ψ (l.map ρ) (ρ y)
  | [], _, _ => trivial
  | a :: l, h, g => by
    refine ⟨?_, path_map (fun x hx => h x (by simp [hx])) g.2⟩
    rw [h a (by simp), g.1]
    cases l <;> rfl
theorem flat_map (ρ : Int → Int) : ∀ R : List (List Int), (R.map fun c => c.map ρ).flatten = R.flatten.map ρ
  | [] => rfl
  | c :: R => by rw [List.map_cons, List.flatten_cons, List.flatten_cons, List.map_append, flat_map ρ R]
theorem nd_map {ρ : Int → Int} : ∀ {l : List Int}, l.Nodup → (∀ x ∈ l, ∀ y ∈ l, ρ x = ρ y → x = y) → (l.map ρ).Nodup
  | [], _, _ => by simp
  | a :: l, nd, inj => by
    rw [List.nodup_cons] at nd
    rw [List.map_cons, List.nodup_cons]
    refine ⟨fun z => ?_, nd_map nd.2 fun x hx y hy => inj x (by simp [hx]) y (by simp [hy])⟩
    obtain ⟨b, hb, e⟩ := List.mem_map.mp z
    exact nd.1 (inj b (by simp [hb]) a (by simp) e ▸ hb)
theorem Cyc.ren {φ ψ ρ σ : Int → Int} {n : Nat} {R : List (List Int)} (C : Cyc φ n R) (into : ∀ x, InR n x → InR n (ρ x)) (back : ∀ x, InR n x → InR n (σ x) ∧ ρ (σ x) = x) (inj : ∀ x y, InR n x → InR n y → ρ x = ρ y → x = y) (h : ∀ x, InR n x → ψ (ρ x) = ρ (φ x)) : Cyc ψ n (R.map fun c => c.map ρ) := by
  refine ⟨?_, fun x => ?_, fun c hc => ?_⟩
  · rw [flat_map]
    exact nd_map C.nd fun x hx y hy => inj x y ((C.mem x).mp hx) ((C.mem y).mp hy)
  · rw [flat_map, List.mem_map]
    constructor
    · rintro ⟨y, hy, rfl⟩; exact into y ((C.mem y).mp hy)
    · intro hx
      exact ⟨σ x, (C.mem _).mpr (back x hx).1, (back x hx).2⟩
  · obtain ⟨d, hd, rfl⟩ := List.mem_map.mp hc
    have r := C.ring d hd
    refine ⟨by simp [r.ne], ?_⟩
    have := path_map (ψ := ψ) (ρ := ρ) (fun x hx => h x ((C.mem x).mp (List.mem_flatten.mpr ⟨d, hd, hx⟩))) r.pa
    have e : (d.map ρ).headD 0 = ρ (d.headD 0) := by
      have := r.ne
      cases d with
      | nil => exact absurd rfl this
      | cons a l => rfl
    rw [e]; exact this
theorem pr_map {ts : List (List Int)} {ρ : Int → Int} (nd : ts.flatten.Nodup) (inj : ∀ x ∈ ts.flatten, ∀ y ∈ ts.flatten, ρ x = ρ y → x = y) : (ts.map fun t => t.map ρ).flatten.Nodup ∧ ∀ x ∈ ts.flatten, pr (ts.map fun t => t.map ρ) (ρ x) = ρ (pr ts x) := by
  have nd' : (ts.map fun t => t.map ρ).flatten.Nodup := by rw [flat_map]; exact nd_map nd inj
  refine ⟨nd', fun x hx => pr_of nd' ?_⟩
  have m := pr_mem nd hx
  have row : ∀ t : List Int, rowP (t.map ρ) = (rowP t).map fun p => (ρ p.1, ρ p.2) := fun t => by
    rw [rowP_cp, rowP_cp]
    cases t with
    | nil => rfl
    | cons a l =>
      rw [← cp_map]
      congr 1
      rw [List.getLastD_eq_getLast?, List.getLastD_eq_getLast?, List.getLast?_map, List.getLast?_cons]; rfl
  unfold aheadL at m ⊢
  obtain ⟨r, hr, hm⟩ := List.mem_flatten.mp m
  obtain ⟨t, ht, rfl⟩ := List.mem_map.mp hr
  refine List.mem_flatten.mpr ⟨rowP (t.map ρ), List.mem_map.mpr ⟨t.map ρ, List.mem_map.mpr ⟨t, ht, rfl⟩, rfl⟩, ?_⟩
  rw [row]
  exact List.mem_map.mpr ⟨_, hm, rfl⟩
noncomputable def Rot (r r' : List Int) : Prop := ∃ l m, r = l ++ m ∧ r' = m ++ l
theorem rot_pairs {r r' : List Int} (h : Rot r r') : ∀ p ∈ rowP r, p ∈ rowP r' := by
  obtain ⟨l, m, rfl, rfl⟩ := h
  intro p hp
  rw [rowP_cp] at hp ⊢
  rw [cp_app] at hp ⊢
  cases l with
  | nil => simpa [cp] using hp
  | cons a l =>
    cases m with
    | nil => simpa [cp] using hp
    | cons b m =>
      have e1 : ((a :: l) ++ (b :: m)).getLastD 0 = (b :: m).getLastD 0 := by rw [List.getLastD_eq_getLast?, List.getLastD_eq_getLast?, List.getLast?_append, List.getLast?_cons]; rfl
      have e2 : ((b :: m) ++ (a :: l)).getLastD 0 = (a :: l).getLastD 0 := by rw [List.getLastD_eq_getLast?, List.getLastD_eq_getLast?, List.getLast?_append, List.getLast?_cons]; rfl
      have e3 : ∀ (c : Int) (k : List Int) (y z : Int), (c :: k).getLastD y = (c :: k).getLastD z := fun c k y z => by cases k <;> rfl
      rw [e1] at hp
      rw [e2]
      rw [List.mem_append] at hp ⊢
      rw [e3 b m _ 0, e3 a l _ 0] at *
      rw [e3 a l _ 0] at hp
      exact hp.symm
theorem Rot.perm {r r' : List Int} (h : Rot r r') : List.Perm r r' := by
  obtain ⟨l, m, rfl, rfl⟩ := h
  exact List.perm_append_comm
theorem rots_flat : ∀ {ts us : List (List Int)}, ts.length = us.length → (∀ (i : Nat) (t u : List Int), ts[i]? = some t → us[i]? = some u → Rot t u) → List.Perm ts.flatten us.flatten
  | [], [], _, _ => List.Perm.refl _
  | t :: ts, u :: us, h, g => by
    rw [List.flatten_cons, List.flatten_cons]
    exact (g 0 t u rfl rfl).perm.append (rots_flat (by simpa using h) fun i a b ha hb => g (i+1) a b ha hb)
theorem rots_pr {ts us : List (List Int)} (nd : ts.flatten.Nodup) (hl : ts.length = us.length) (g : ∀ (i : Nat) (t u : List Int), ts[i]? = some t → us[i]? = some u → Rot t u) : us.flatten.Nodup ∧ ∀ x ∈ ts.flatten, pr us x = pr ts x := by
  have p := rots_flat hl g
  have nd' := p.nodup_iff.mp nd
  refine ⟨nd', fun x hx => pr_of nd' ?_⟩
  have m := pr_mem nd hx
  unfold aheadL at m ⊢
  obtain ⟨r, hr, hm⟩ := List.mem_flatten.mp m
  obtain ⟨t, ht, rfl⟩ := List.mem_map.mp hr
  obtain ⟨i, hi, e⟩ := List.getElem_of_mem ht
  have hu : i < us.length := by omega
  exact List.mem_flatten.mpr ⟨rowP us[i], List.mem_map.mpr ⟨_, List.getElem_mem hu, rfl⟩, rot_pairs (g i t us[i] (by rw [List.getElem?_eq_getElem hi, e]) (List.getElem?_eq_getElem hu)) _ hm⟩
end Mth
namespace My
open PySem
noncomputable def top (i : Nat) : Stmt := PySem.Challenge.pw_currentfloor_k06_texts_written_and_read.main.body.getD i (.Pass ⟨0, 0, 0, 0⟩)
noncomputable abbrev sCommon : Stmt := top 10
noncomputable abbrev sFraction : Stmt := top 11
noncomputable abbrev s_figures : Stmt := top 12
noncomputable abbrev sWritten : Stmt := top 13
noncomputable abbrev sOther : Stmt := top 15
noncomputable abbrev sAhead : Stmt := top 16
noncomputable abbrev sRingFrom : Stmt := top 17
noncomputable abbrev sRings : Stmt := top 18
noncomputable abbrev s_is_ease : Stmt := top 20
noncomputable abbrev s_check_numbers : Stmt := top 21
noncomputable abbrev s_check_rope : Stmt := top 22
noncomputable abbrev s_ends_at : Stmt := top 23
noncomputable abbrev s_check_turns : Stmt := top 24
noncomputable abbrev s_led_to : Stmt := top 25
noncomputable abbrev s_check_hanging : Stmt := top 26
noncomputable abbrev s_check_flat : Stmt := top 27
noncomputable abbrev s_begun_least : Stmt := top 28
noncomputable abbrev s_told_turns : Stmt := top 29
noncomputable abbrev s_checked : Stmt := top 30
noncomputable abbrev s_rope_text : Stmt := top 32
noncomputable abbrev s_turn_text : Stmt := top 33
noncomputable abbrev s_net_text : Stmt := top 34
noncomputable abbrev s_is_number : Stmt := top 35
noncomputable abbrev s_number_read : Stmt := top 36
noncomputable abbrev s_ease_read : Stmt := top 37
noncomputable abbrev s_rope_read : Stmt := top 38
noncomputable abbrev s_turn_read : Stmt := top 39
noncomputable abbrev s_net_read : Stmt := top 40
noncomputable abbrev s_law_cell_at : Stmt := top 42
noncomputable abbrev s_law_drawn : Stmt := top 43
noncomputable abbrev sWhole : Stmt := top 44
noncomputable abbrev s_law_common : Stmt := top 45
noncomputable abbrev s_law_lowest : Stmt := top 46
noncomputable abbrev s_law_alike : Stmt := top 47
noncomputable abbrev sNext : Stmt := top 48
noncomputable abbrev s_law_ring : Stmt := top 49
noncomputable abbrev s_law_put_ahead : Stmt := top 50
noncomputable abbrev s_law_one_more : Stmt := top 51
noncomputable abbrev sLEase : Stmt := top 52
noncomputable abbrev s_law_grown : Stmt := top 53
noncomputable abbrev s_law_begun : Stmt := top 54
noncomputable abbrev s_law_turned_about : Stmt := top 55
noncomputable abbrev s_law_ease_text : Stmt := top 56
noncomputable abbrev s_law_text : Stmt := top 57
noncomputable abbrev sLaw : Stmt := top 58
end My
namespace My
open PySem L2 Mth
theorem same_new {H : Hp} {p : Addr} (h : H p = none) (o : HO) : Same H (upd H p o) := fun b u q => by rw [upd_ne (ne_of_none q h)]; exact q
noncomputable def SameB (x : Addr) (H H' : Hp) : Prop := ∀ b o, b ≠ x → H b = some o → H' b = some o
theorem SameB.refl (x : Addr) (H : Hp) : SameB x H H := fun _ _ _ h => h
theorem SameB.put {x : Addr} {H H' : Hp} (h : SameB x H H') (o : HO) : SameB x H (upd H' x o) := fun b u n q => by rw [upd_ne n]; exact h b u n q
theorem SameB.trans {x : Addr} {H H1 H2 : Hp} (a : SameB x H H1) (b : SameB x H1 H2) : SameB x H H2 := fun c o n h => b c o n (a c o n h)
theorem _root_.L2.Same.b {x : Addr} {H H' : Hp} (h : Same H H') : SameB x H H' := fun b o _ q => h b o q
theorem SameB.same {x : Addr} {H0 H H' : Hp} (h : SameB x H H') (s : Same H0 H) (n : H0 x = none) : Same H0 H' := fun b o q => h b o (ne_of_none q n) (s b o q)
theorem SameB.one {x : Addr} {H : Hp} {o : HO} : SameB x H (upd H x o) := (SameB.refl x H).put o
theorem _root_.L2.Same.up {x : Addr} {H0 H : Hp} (s : Same H0 H) (n : H0 x = none) (o : HO) : Same H0 (upd H x o) := SameB.one.same s n
theorem iteNN {c A B : Prop} [Decidable c] (hc : ¬ c) (h : A) : if (!decide c) = true then A else B := by
  rw [decide_eq_false hc]
  exact iteT h
theorem iteDT {c A B : Prop} [Decidable c] (hc : c) (h : A) : if decide c = true then A else B := by
  rw [decide_eq_true hc]
  exact iteT h
theorem iteDF {c A B : Prop} [Decidable c] (hc : ¬ c) (h : B) : if decide c = true then A else B := by
  rw [decide_eq_false hc]
  exact iteF h
theorem iv {a b : Int} (h : a = b) : V.int a = V.int b := by rw [h]
theorem ivn {a b : Int} (h : a ≠ b) : ¬ V.int a = V.int b := fun z => h (V.int.inj z)
theorem szl {n : Nat} (h : n ≤ 100000) : n < sizeLine := by rw [sizeLine_eq]; omega
noncomputable abbrev kvI (L : List (Int × Int)) : List (Key × V) := L.map fun p => (Sum.inl p.1, V.int p.2)
theorem val_kvI (e : Int) : ∀ L : List (Int × Int), valV (kvI L) (Sum.inl e : Key) = (lk L e).map V.int
  | [] => rfl
  | p :: L => by
    show valV ((Sum.inl p.1, V.int p.2) :: kvI L) (Sum.inl e : Key) = _
    by_cases h : p.1 = e
    · rw [valV_pos (p := ((Sum.inl p.1 : Key), V.int p.2)) (by rw [h])]
      unfold lk
      rw [List.find?_cons_of_pos (by simpa using h)]
      rfl
    · rw [valV_neg (p := ((Sum.inl p.1 : Key), V.int p.2)) (fun z => h (Sum.inl.inj z)), val_kvI e L]
      unfold lk
      rw [List.find?_cons_of_neg (by simpa using h)]
theorem put_new {kvs : List (Key × V)} {k : Key} {v : V} (h : valV kvs k = none) : putK kvs k v = kvs ++ [(k, v)] := by
  unfold putK
  rw [valV_any, h]
  rfl
theorem put_kvI {L : List (Int × Int)} {e v : Int} (h : e ∉ L.map (·.1)) : putK (kvI L) (Sum.inl e : Key) (.int v) = kvI (L ++ [(e, v)]) := by
  rw [put_new (by rw [val_kvI, lk_none h]; rfl)]
  simp
noncomputable abbrev kvT (l : List Int) : List (Key × V) := l.map fun e => (Sum.inl e, V.bl true)
theorem val_kvT (e : Int) : ∀ l : List Int, valV (kvT l) (Sum.inl e : Key) = if e ∈ l then some (V.bl true) else none
  | [] => rfl
  | p :: L => by
    show valV ((Sum.inl p, V.bl true) :: kvT L) (Sum.inl e : Key) = _
    by_cases h : p = e
    · rw [valV_pos (p := ((Sum.inl p : Key), V.bl true)) (by rw [h]), if_pos (by simp [h])]
    · rw [valV_neg (p := ((Sum.inl p : Key), V.bl true)) (fun z => h (Sum.inl.inj z)), val_kvT e L]
      have : e ∈ p :: L ↔ e ∈ L := by simp [Ne.symm h]
      by_cases q : e ∈ L
      · rw [if_pos q, if_pos (this.mpr q)]
      · rw [if_neg q, if_neg fun z => q (this.mp z)]
theorem put_kvT {l : List Int} {e : Int} (h : e ∉ l) : putK (kvT l) (Sum.inl e : Key) (.bl true) = kvT (l ++ [e]) := by
  rw [put_new (by rw [val_kvT, if_neg h])]
  simp
theorem get_kvI {H : Hp} {d : Addr} {L : List (Int × Int)} {e v : Int} (h : H d = some (.dK (kvI L))) (q : lk L e = some v) : DGet H d (.int e) (some (.int v)) := by
  have := DGet.k (k := Sum.inl e) h
  rw [val_kvI, q] at this
  exact this
noncomputable def TsA (H : Hp) (a : Addr) (bs : List Addr) (ts : List (List Int)) : Prop :=
  H a = some (.tup (bs.map V.ref)) ∧ bs.length = ts.length ∧ ∀ (i : Nat) (b : Addr) (row : List Int), bs[i]? = some b → ts[i]? = some row → H b = some (.tup (row.map V.int))
theorem TsA.keep {H H' : Hp} {a : Addr} {bs : List Addr} {ts : List (List Int)} (h : TsA H a bs ts) (s : Same H H') : TsA H' a bs ts :=
  ⟨s _ _ h.1, h.2.1, fun i b row e1 e2 => s _ _ (h.2.2 i b row e1 e2)⟩
theorem row_at {bs : List Addr} {ts : List (List Int)} {i : Nat} {x : V} (hl : bs.length = ts.length) (h : (bs.map V.ref)[i]? = some x) : ∃ b row, x = .ref b ∧ bs[i]? = some b ∧ ts[i]? = some row := by
  rw [List.getElem?_map] at h
  cases e : bs[i]? with
  | none => rw [e] at h; cases h
  | some b =>
    rw [e] at h
    have hi : i < bs.length := (List.getElem?_eq_some_iff.mp e).1
    exact ⟨b, ts[i]'(by omega), (Option.some.inj h).symm, rfl, List.getElem?_eq_getElem (by omega)⟩
theorem int_at {row : List Int} {i : Nat} {x : V} (h : (row.map V.int)[i]? = some x) : ∃ e, x = .int e ∧ row[i]? = some e := by
  rw [List.getElem?_map] at h
  cases q : row[i]? with
  | none => rw [q] at h; cases h
  | some e =>
    rw [q] at h
    exact ⟨e, (Option.some.inj h).symm, rfl⟩
theorem at_int {row : List Int} {i : Nat} {e : Int} (h : row[i]? = some e) : (row.map V.int)[i]? = some (.int e) := by rw [List.getElem?_map, h]; rfl
theorem at_prev {row : List Int} {j : Nat} (h : j < row.length) : atI (row.map V.int) ((j : Int) - 1) = some (.int (prevAt row j)) := by
  have g : ∀ i, i < row.length → (row.map V.int)[i]? = some (.int (row.getD i 0)) := fun i hi => by
    rw [List.getElem?_map, List.getElem?_eq_getElem hi, List.getD_eq_getElem?_getD, List.getElem?_eq_getElem hi]
    rfl
  unfold prevAt
  cases j with
  | zero =>
    rw [if_pos rfl]
    have hl : (row.map V.int).length = row.length := List.length_map ..
    have e : ixN (row.map V.int).length (((0 : Nat) : Int) - 1) = some (row.length - 1) := by
      unfold ixN
      rw [hl, if_neg (by decide), if_pos (by omega)]
      congr 1
      omega
    unfold atI
    rw [e]
    exact g _ (by omega)
  | succ j =>
    rw [if_neg (by omega), show (((j + 1 : Nat) : Int) - 1) = ((j : Nat) : Int) by omega]
    exact atI_nat (g j (by omega))
theorem fresh_end {ts : List (List Int)} (nd : ts.flatten.Nodup) {i j : Nat} {row : List Int} {e : Int} (h1 : ts[i]? = some row) (h2 : row[j]? = some e) : e ∉ (ts.take i).flatten ++ row.take j := by
  obtain ⟨hi, q1⟩ := List.getElem?_eq_some_iff.mp h1
  obtain ⟨hj, q2⟩ := List.getElem?_eq_some_iff.mp h2
  have e1 : ts = ts.take i ++ row :: ts.drop (i + 1) := by rw [← q1, List.getElem_cons_drop, List.take_append_drop]
  have e2 : row = row.take j ++ e :: row.drop (j + 1) := by rw [← q2, List.getElem_cons_drop, List.take_append_drop]
  rw [e1, List.flatten_append, List.flatten_cons, List.nodup_append] at nd
  obtain ⟨_, n2, n3⟩ := nd
  intro z
  rcases List.mem_append.mp z with z | z
  · exact n3 e z e (List.mem_append_left _ (by rw [e2]; simp)) rfl
  · rw [List.nodup_append] at n2
    have n4 := n2.1
    rw [e2, List.nodup_append] at n4
    exact n4.2.2 e z e (by simp) rfl
section
variable {P : Program} {w : World} {K : PySem.W.Frag} {mg : Str → Option Value} {base : Heap}

inductive SpOthR (vs : List V) (H : Hp) (Q : VK) : Prop
  | mk (e : Int) (h_0 : vs = [.int e]) (h_1 : Q (.int (oth e)) H) : SpOthR vs H Q
noncomputable def spOth : Sp := fun vs H Q _ => SpOthR vs H Q
theorem scOt : FnScope ["end"] ["end"] (defScope sOther) := ⟨rfl, rfl, rfl, by decide +kernel, rfl, by decide +kernel, by decide +kernel⟩
theorem ok_other {f : Addr} {fd : FuncData} (F : Fun K "other_end" "other_end" sOther f fd) : FnOk P w K mg base CX0 1 f fd ["end"] spOth := by
  refine F.ok scOt (fun vs H Q E h => ?_) (fun cdv A outer s H vs Q E hr h => ?_)
  · obtain ⟨a, rfl, _⟩ := h
    rfl
  obtain ⟨e, rfl, q⟩ := h
  refine ⟨_, pss_one (ps_ret (pe_ifExp (pt_cmpR op_eq (pe_op op_mod (pv 0) pe_int) pe_int (nomark _)) (pe_op op_add (pv 0) pe_int) (pe_op op_sub (pv 0) pe_int))), ?_⟩
  refine ⟨_, rfl, _, _, rfl, rfl, (show (0 : Int) < 2 by decide), rfl, _, rfl, ?_⟩
  unfold oth at q
  by_cases h : e % 2 = 0
  · rw [if_pos h] at q
    exact iteDT (iv h) ⟨_, rfl, _, _, rfl, rfl, q⟩
  · rw [if_neg h] at q
    exact iteDF (ivn h) ⟨_, rfl, _, _, rfl, rfl, q⟩

inductive SpAheadR (vs : List V) (H : Hp) (Q : VK) : Prop
  | mk (a : Addr) (bs : List Addr) (ts : List (List Int)) (n : Nat) (h_0 : vs = [.ref a]) (h_1 : TsA H a bs ts) (h_2 : Turns n ts) (h_3 : n ≤ 1000) (h_4 : ∀ d H', Same H H' → H d = none → H' d = some (.dK (kvI (aheadL ts))) → Q (.ref d) H') : SpAheadR vs H Q
noncomputable def spAhead : Sp := fun vs H Q _ => SpAheadR vs H Q
noncomputable def tAhead (K : PySem.W.Frag) : TS := tSeq (tAsg tDNewK (gName 1)) (tSeq (tFor (iTup K (tVar 0)) (gName 2) (tFor (iEnum (tCons (tVar 2) tNil)) (gTup K 2 (gCons (gName 3) (gCons (gName 4) gNil)))
  (sDPut (tVar 1) (tVar 4) (tOp (rIxT K) (tVar 2) (tOp (rI0 fun i j => .int (i - j)) (tVar 3) (tC (.int 1))))))) (tRet (tVar 1)))
theorem rd_ahead {H : Hp} {Q : VK} {a : Addr} {bs : List Addr} {ts : List (List Int)} {n : Nat} {nx : St → Hp → Prop} (hT : TsA H a bs ts) (T : Turns n ts) (hn : n ≤ 1000) (q : ∀ d H', Same H H' → H d = none → H' d = some (.dK (kvI (aheadL ts))) → Q (.ref d) H') :
    tAhead K { nx := nx, rt := Q } [some (.ref a), none, none, none, none] H := by
  intro d hd
  try dsimp only
  try refine name_goH ?_
  first | refine seq_hide fun UL1 hUL1 => ?_ | refine nx_hide fun UL1 hUL1 => ?_
  refine ⟨_, rfl, a, rfl, ⟨_, SqT.of (same_new hd _ _ _ hT.1)⟩, ?_⟩
  refine for_tup (xs := bs.map V.ref) (fun i σ H2 => ∃ t k e, σ = [some (.ref a), some (.ref d), t, k, e] ∧ Same H H2 ∧ H2 d = some (.dK (kvI (aheadL (ts.take i))))) ⟨none, none, none, rfl, same_new hd _, upd_same⟩ (fun i σ H2 _ ⟨_, _, _, _, s, _⟩ => SqT.of (s _ _ hT.1)) ?_ ?_
  · rintro i x σ H2 hx ⟨t0, k0, e0, rfl, sm, hd2⟩
    obtain ⟨b, row, rfl, hb, hrow⟩ := row_at hT.2.1 hx
    have hB := sm _ _ (hT.2.2 i b row hb hrow)
    try dsimp only
    try refine name_goH ?_
    first | refine seq_hide fun UL2 hUL2 => ?_ | refine nx_hide fun UL2 hUL2 => ?_
    refine ⟨_, rfl, b, _, rfl, hB, ?_⟩
    refine for_enum (xs := row.map V.int) (fun j σ H3 => ∃ k e, σ = [some (.ref a), some (.ref d), some (.ref b), k, e] ∧ Same H H3 ∧ H3 d = some (.dK (kvI (aheadL (ts.take i) ++ (rowP row).take j)))) ⟨k0, e0, rfl, sm, by rw [List.take_zero, List.append_nil]; exact hd2⟩
      (fun j σ H3 _ ⟨_, _, _, s, _⟩ => s _ _ (hT.2.2 i b row hb hrow)) ?_ ?_
    · rintro j x σ H3 p hx3 ⟨k1, e1, rfl, sm3, hd3⟩ hp
      obtain ⟨e, rfl, he⟩ := int_at hx3
      have hj : j < row.length := (List.getElem?_eq_some_iff.mp he).1
      have sm4 : Same H (upd H3 p (.tup [.int j, .int e])) := sm3.trans (same_new hp _)
      have hd4 : (upd H3 p (.tup [.int j, .int e])) d = some (.dK (kvI (aheadL (ts.take i) ++ (rowP row).take j))) := same_new hp _ _ _ hd3
      have keys : (aheadL (ts.take i) ++ (rowP row).take j).map (·.1) = (ts.take i).flatten ++ row.take j := by
        rw [List.map_append, aheadL_fst, List.map_take, rowP_fst]
      have fr : e ∉ (aheadL (ts.take i) ++ (rowP row).take j).map (·.1) := by rw [keys]; exact fresh_end T.nd hrow he
      have ln : (kvI (aheadL (ts.take i) ++ (rowP row).take j)).length < sizeLine := by
        have l1 := congrArg List.length keys
        rw [List.length_map] at l1
        have l2 : ((ts.take i).flatten ++ row.take j).length ≤ n := by
          rw [← T.len]
          have e1 : ts = ts.take i ++ ts.drop i := (List.take_append_drop i ts).symm
          have hd : ts.drop i = row :: ts.drop (i + 1) := by
            obtain ⟨hi, q1⟩ := List.getElem?_eq_some_iff.mp hrow
            rw [← q1, List.getElem_cons_drop]
          have e2 : ts.flatten.length = (ts.take i).flatten.length + (row.length + (ts.drop (i + 1)).flatten.length) := by
            conv => lhs; rw [e1, hd]
            rw [List.flatten_append, List.flatten_cons, List.length_append, List.length_append]
          rw [e2, List.length_append, List.length_take]
          omega
        rw [List.length_map, l1]
        exact szl (by omega)
      refine ⟨p, _, rfl, SqT.of upd_same, rfl, _, _, rfl, _, _, rfl, rfl, ?_⟩
      refine ⟨_, rfl, _, rfl, _, _, rfl, rfl, b, _, _, _, rfl, rfl, SqT.of (sm4 _ _ (hT.2.2 i b row hb hrow)), at_prev hj, _, rfl, _, rfl, d, _, rfl, DPut.k (k := Sum.inl e) hd4 ln, ?_⟩
      refine ⟨_, _, rfl, sm4.up hd _, ?_⟩
      rw [upd_same, put_kvI fr, List.append_assoc]
      have rp : (rowP row)[j]? = some (e, prevAt row j) := by
        unfold rowP
        rw [List.getElem?_map, List.getElem?_range hj]
        show some (row.getD j 0, prevAt row j) = _
        rw [List.getD_eq_getElem?_getD, he]
        rfl
      rw [take_snoc rp]
    · rintro σ H3 ⟨k1, e1, rfl, sm3, hd3⟩
      subst hUL2
      refine ⟨_, _, _, rfl, sm3, ?_⟩
      rw [hd3, take_snoc hrow, aheadL_snoc, List.length_map, show (rowP row).take row.length = rowP row from List.take_of_length_le (by rw [rowP_len]; exact Nat.le_refl _)]
  · rintro σ H2 ⟨t0, k0, e0, rfl, sm, hd2⟩
    subst hUL1
    refine ⟨_, rfl, q d H2 sm hd ?_⟩
    rw [hd2, List.length_map, List.take_of_length_le (by rw [hT.2.1]; exact Nat.le_refl _)]
theorem scAh : FnScope ["turns", "ahead", "turn", "k", "end"] ["turns"] (defScope sAhead) := ⟨rfl, rfl, rfl, by decide +kernel, rfl, by decide +kernel, by decide +kernel⟩
theorem ok_ahead {f : Addr} {fd : FuncData} (F : Fun K "ends_ahead" "ends_ahead" sAhead f fd) (me : mg "enumerate" = none) : FnOk P w K mg base CX0 1 f fd ["turns"] spAhead := by
  refine F.ok scAh (fun vs H Q E h => ?_) (fun cdv A outer s H vs Q E hr h => ?_)
  · obtain ⟨a, bs, ts, n, rfl, _⟩ := h
    rfl
  obtain ⟨a, bs, ts, n, rfl, hT, T, hn, q⟩ := h
  have hu := hu_of hr
  refine ⟨tAhead K, pss_cons (ps_set (i := 1) scAh.nd rfl (Or.inl rfl) pe_dnewK)
    (pss_cons (ps_for PassesOwn.never rfl (pi_tup (pv 0)) (pg_name (i := 2) scAh.nd rfl (Or.inl rfl))
      (pss_one (ps_for PassesOwn.never rfl (pi_enum (by rfl) me (pa_cons (pv 2) pa_nil)) (pg_tup rfl (pgs_cons (pg_name (i := 3) scAh.nd rfl (Or.inl rfl)) (pgs_cons (pg_name (i := 4) scAh.nd rfl (Or.inl rfl)) pgs_nil)))
        (pss_one (ps_dput hu (pv 1) (pv 4) (pe_ix ix_tup (pv 2) (pe_op op_sub (pv 3) pe_int) (fun _ _ => rfl)) rfl)))))
    (pss_one (ps_ret (pv 1)))), rd_ahead hT T hn q⟩

inductive SpRingR (vs : List V) (H : Hp) (Q : VK) : Prop
  | mk (s : Int) (d : Addr) (ts : List (List Int)) (n : Nat) (h_0 : vs = [.int s, .ref d]) (h_1 : H d = some (.dK (kvI (aheadL ts)))) (h_2 : Turns n ts) (h_3 : n ≤ 1000) (h_4 : InR n s) (h_5 : ∀ p H', Same H H' → H p = none → H' p = some (.tup ((ring (nxt ts) s).map V.int)) → Q (.ref p) H') : SpRingR vs H Q
noncomputable def spRing : Sp := fun vs H Q _ => SpRingR vs H Q
theorem scRf : FnScope ["start", "ahead", "ring", "end"] ["start", "ahead"] (defScope sRingFrom) := ⟨rfl, rfl, rfl, by decide +kernel, rfl, by decide +kernel, by decide +kernel⟩
theorem ok_ringFrom {f g : Addr} {fd gd : FuncData} (F : Fun K "ring_from" "ring_from" sRingFrom f fd) (G : FnOk P w K mg base CX0 1 g gd ["end"] spOth) (bG : Binds K gd ["end"] []) (kG : PySem.W.keepIn K (.ref g) = true) (mG : mg "other_end" = some (.ref g)) (mt : mg "tuple" = none) :
    FnOk P w K mg base CX0 2 f fd ["start", "ahead"] spRing := by
  refine F.ok scRf (fun vs H Q E h => ?_) (fun cdv A outer s H vs Q E hr h => ?_)
  · obtain ⟨a, bs, ts, n, rfl, _⟩ := h
    rfl
  obtain ⟨s0, d, ts, n, rfl, hd, T, hn, hs, q⟩ := h
  have hu := hu_of hr
  have PM := T.perm
  have PE := per_is PM hs
  refine ⟨_, pss_cons (ps_set (i := 2) scRf.nd rfl (Or.inl rfl) (pe_lst (pa_cons (pv 0) pa_nil)))
    (pss_cons (ps_set (i := 3) scRf.nd rfl (Or.inl rfl) (pe_dget hu (pv 1) (pe_call G hr (by rfl) mG kG bG .nil pass0 (pa_cons (pv 0) pa_nil)) (fun _ _ => rfl)))
    (pss_cons (ps_while PassesOwn.never (pt_cmpR op_ne (pv 3) (pv 0) (nomark _))
      (pss_cons (ps_expr (pe_bmK K PySem.F.plainAttrs_list PySem.F.slot_list_append PySem.F.type_list_append mt_append (pv 2) (pa_cons (pv 3) pa_nil)))
        (pss_one (ps_set (i := 3) scRf.nd rfl (Or.inl rfl) (pe_dget hu (pv 1) (pe_call G hr (by rfl) mG kG bG .nil pass0 (pa_cons (pv 3) pa_nil)) (fun _ _ => rfl))))))
    (pss_one (ps_ret (pe_callTy call_tuple_of (by rfl) mt bt_tuple (pa_cons (pv 2) pa_nil)))))), ?_⟩
  refine ⟨_, rfl, by show 1 ≤ sizeLine; decide, fun l hl => ?_⟩
  refine ⟨_, rfl, _, rfl, s0, rfl, d, _, rfl, get_kvI (same_new hl _ _ _ hd) (T.nxt_is hs), ?_⟩
  refine while_by (fun σ H2 => ∃ j, 1 ≤ j ∧ j ≤ per (nxt ts) s0 ∧ σ = [some (.int s0), some (.ref d), some (.ref l), some (.int (itn (nxt ts) j s0))] ∧ Same H H2 ∧ H2 l = some (.lst ((ringL (nxt ts) s0 j).map V.int)))
    (fun _ H2 => match H2 l with | some (.lst xs) => per (nxt ts) s0 - xs.length | _ => 0) ⟨1, Nat.le_refl _, PE.1, rfl, same_new hl _, upd_same⟩ ?_ ?_
  · rintro σ H2 ⟨j, j1, j2, rfl, sm, hl2⟩
    refine ⟨_, rfl, _, rfl, rfl, _, rfl, ?_⟩
    by_cases he : itn (nxt ts) j s0 = s0
    · refine iteNS (iv he) ?_
      have hj : j = per (nxt ts) s0 := by
        rcases Nat.lt_or_ge j (per (nxt ts) s0) with z | z
        · exact absurd he (PE.2.2 j j1 z)
        · omega
      subst hj
      refine ⟨_, rfl, l, _, rfl, .inl ⟨SqL.of hl2, fun p hp => ?_⟩⟩
      exact q p _ (sm.trans (same_new hp _)) (sm.free hp) upd_same
    · refine iteNN (ivn he) ?_
      have hj : j < per (nxt ts) s0 := by
        rcases Nat.lt_or_ge j (per (nxt ts) s0) with z | z
        · exact z
        · exact absurd (by rw [show j = per (nxt ts) s0 by omega]; exact PE.2.1) he
      have hpl := per_le PM hs
      have hlen : (ringL (nxt ts) s0 j).length = j := ringL_len
      refine ⟨_, rfl, .inl ⟨rfl, _, SqL.of hl2⟩, _, rfl, l, _, _, rfl, rfl, hl2, by rw [List.length_map, hlen]; exact szl (by omega), ?_⟩
      have sm2 := sm.up hl (.lst ((ringL (nxt ts) s0 j).map V.int ++ [.int (itn (nxt ts) j s0)]))
      refine ⟨_, rfl, _, rfl, _, rfl, d, _, rfl, get_kvI (sm2 _ _ hd) (T.nxt_is (itn_in PM hs j)), ?_⟩
      refine ⟨⟨j + 1, by omega, hj, rfl, sm2, ?_⟩, ?_⟩
      · rw [upd_same, ringL_snoc, List.map_append]
        rfl
      · rw [upd_same, hl2]
        show per (nxt ts) s0 - ((ringL (nxt ts) s0 j).map V.int ++ [V.int (itn (nxt ts) j s0)]).length < per (nxt ts) s0 - ((ringL (nxt ts) s0 j).map V.int).length
        rw [List.length_append, List.length_map, hlen, List.length_singleton]
        omega
  · rintro σ H2 Q1 Q2 hq ⟨v, e, v', e', sc, b, eb, z⟩
    exact ⟨v, e, v', e', sc, b, eb, hq _ _ z⟩
end
end My
namespace My
open PySem L2 Mth
section
variable {P : Program} {w : World} {K : PySem.W.Frag} {mg : Str → Option Value} {base : Heap}
noncomputable def RowsA (H : Hp) (bs : List Addr) (R : List (List Int)) : Prop := bs.length = R.length ∧ ∀ (i : Nat) (b : Addr) (row : List Int), bs[i]? = some b → R[i]? = some row → H b = some (.tup (row.map V.int))
theorem RowsA.snoc {H H' : Hp} {bs : List Addr} {R : List (List Int)} {b : Addr} {row : List Int} (h : RowsA H bs R) (s : ∀ c ys, H c = some (.tup ys) → H' c = some (.tup ys)) (hb : H' b = some (.tup (row.map V.int))) : RowsA H' (bs ++ [b]) (R ++ [row]) := by
  refine ⟨by rw [List.length_append, List.length_append, h.1]; rfl, fun i c r e1 e2 => ?_⟩
  rcases Nat.lt_or_ge i bs.length with z | z
  · rw [List.getElem?_append_left z] at e1
    rw [List.getElem?_append_left (by rw [← h.1]; exact z)] at e2
    exact s _ _ (h.2 i c r e1 e2)
  · have hi : i < bs.length + 1 := by
      have := (List.getElem?_eq_some_iff.mp e1).1
      rw [List.length_append] at this
      exact this
    have hi2 : i = bs.length := by omega
    subst hi2
    rw [List.getElem?_append_right (Nat.le_refl _), Nat.sub_self] at e1
    rw [h.1, List.getElem?_append_right (Nat.le_refl _), Nat.sub_self] at e2
    cases e1
    cases e2
    exact hb
theorem RowsA.keep {H H' : Hp} {bs : List Addr} {R : List (List Int)} (h : RowsA H bs R) (s : ∀ c ys, H c = some (.tup ys) → H' c = some (.tup ys)) : RowsA H' bs R := ⟨h.1, fun i b r e1 e2 => s _ _ (h.2 i b r e1 e2)⟩
theorem SameB.tup {x : Addr} {H H' : Hp} (h : SameB x H H') (hx : ∀ ys, H x ≠ some (.tup ys)) : ∀ c ys, H c = some (.tup ys) → H' c = some (.tup ys) := fun c ys e => h c _ (fun z => hx ys (z ▸ e)) e
theorem lands_len {φ : Int → Int} {n : Nat} (PM : Perm1 φ n) {i : Nat} (hi : i ≤ n) : (landsF φ i).flatten.length ≤ n ∧ (landsF φ i).length ≤ n := by
  have L := landsF_ok PM i hi
  have inn : ∀ x ∈ (landsF φ i).flatten, InR n x := fun x hx => by
    obtain ⟨r, hr, hx⟩ := List.mem_flatten.mp hx
    obtain ⟨s, hs, _, e, _⟩ := L.of r hr
    subst e
    exact ring_in PM hs hx
  have h1 := len_le n _ L.nd inn
  refine ⟨h1, Nat.le_trans ?_ h1⟩
  have : ∀ R : List (List Int), (∀ r ∈ R, 1 ≤ r.length) → R.length ≤ R.flatten.length := by
    intro R
    induction R with
    | nil => intro _; exact Nat.le_refl _
    | cons r R ih =>
      intro h
      have h2 := ih fun r' hr' => h r' (List.mem_cons_of_mem _ hr')
      have h3 := h r (List.mem_cons_self ..)
      rw [List.flatten_cons, List.length_append, List.length_cons]
      omega
  refine this _ fun r hr => ?_
  obtain ⟨s, hs, _, e, _⟩ := L.of r hr
  subst e
  exact List.length_pos_of_mem (ring_self PM hs)

inductive SpRingsR (vs : List V) (H : Hp) (Q : VK) : Prop
  | mk (a : Addr) (bs : List Addr) (ts : List (List Int)) (n : Nat) (h_0 : vs = [.ref a]) (h_1 : TsA H a bs ts) (h_2 : Turns n ts) (h_3 : n ≤ 1000) (h_4 : ∀ p cs H', Same H H' → H p = none → H' p = some (.tup (cs.map V.ref)) → RowsA H' cs (landsF (nxt ts) n) → Q (.ref p) H') : SpRingsR vs H Q
noncomputable def spRings : Sp := fun vs H Q _ => SpRingsR vs H Q
theorem scRs : FnScope ["turns", "ahead", "seen", "lands", "start", "ring", "end"] ["turns"] (defScope sRings) := ⟨rfl, rfl, rfl, by decide +kernel, rfl, by decide +kernel, by decide +kernel⟩
theorem ok_rings {f g h : Addr} {fd gd hd' : FuncData} (F : Fun K "rings" "rings" sRings f fd) (G : FnOk P w K mg base CX0 1 g gd ["turns"] spAhead) (bG : Binds K gd ["turns"] []) (kG : PySem.W.keepIn K (.ref g) = true) (mG : mg "ends_ahead" = some (.ref g))
    (G2 : FnOk P w K mg base CX0 2 h hd' ["start", "ahead"] spRing) (bG2 : Binds K hd' ["start", "ahead"] []) (kG2 : PySem.W.keepIn K (.ref h) = true) (mG2 : mg "ring_from" = some (.ref h))
    (ml : mg "len" = none) (mr : mg "range" = none) (mt : mg "tuple" = none) : FnOk P w K mg base CX0 3 f fd ["turns"] spRings := by
  refine F.ok scRs (fun vs H Q E h => ?_) (fun cdv A outer s H vs Q E hr h => ?_)
  · obtain ⟨a, bs, ts, n, rfl, _⟩ := h
    rfl
  obtain ⟨a, bs, ts, n, rfl, hT, T, hn, q⟩ := h
  have hu := hu_of hr
  have PM := T.perm
  refine ⟨_, pss_cons (ps_set (i := 1) scRs.nd rfl (Or.inl rfl) (pe_call G (hr.mono (by decide)) (by rfl) mG kG bG .nil pass0 (pa_cons (pv 0) pa_nil)))
    (pss_cons (ps_set (i := 2) scRs.nd rfl (Or.inl rfl) pe_dnewK)
    (pss_cons (ps_set (i := 3) scRs.nd rfl (Or.inl rfl) (pe_lst pa_nil))
    (pss_cons (ps_for PassesOwn.never rfl (pi_range1 (by rfl) mr (pa_cons (pe_callB call_lenD (by rfl) ml bt_len (pa_cons (pv 1) pa_nil)) pa_nil)) (pg_name (i := 4) scRs.nd rfl (Or.inl rfl))
      (pss_one (ps_if (pt_cmp (pc_dnotin hu (pv 4) (pv 2)))
        (pss_cons (ps_set (i := 5) scRs.nd rfl (Or.inl rfl) (pe_call G2 hr (by rfl) mG2 kG2 bG2 .nil pass0 (pa_cons (pv 4) (pa_cons (pv 1) pa_nil))))
        (pss_cons (ps_for PassesOwn.never rfl (pi_tup (pv 5)) (pg_name (i := 6) scRs.nd rfl (Or.inl rfl)) (pss_one (ps_dput hu (pv 2) (pv 6) pe_bl rfl)))
        (pss_one (ps_expr (pe_bmK K PySem.F.plainAttrs_list PySem.F.slot_list_append PySem.F.type_list_append mt_append (pv 3) (pa_cons (pv 5) pa_nil)))))) pss_nil)))
    (pss_one (ps_ret (pe_callTy call_tuple_of (by rfl) mt bt_tuple (pa_cons (pv 3) pa_nil))))))), ?_⟩
  refine ⟨_, rfl, a, bs, ts, n, rfl, hT, T, hn, fun d H1 s1 nd hd => ?_⟩
  intro sn hsn
  refine ⟨by show 0 ≤ sizeLine; decide, fun ld hld => ?_⟩
  have s2 : Same H1 (upd H1 sn (.dK [])) := same_new hsn _
  have s3 : Same (upd H1 sn (.dK [])) (upd (upd H1 sn (.dK [])) ld (.lst [])) := same_new hld _
  have dsn : d ≠ sn := ne_of_none hd hsn
  have lsn : ld ≠ sn := fun z => by rw [z, upd_same] at hld; cases hld
  have dld : d ≠ ld := ne_of_none (s2 _ _ hd) hld
  have fsn : H sn = none := s1.free hsn
  have fld : H ld = none := (s1.trans s2).free hld
  have hlenA : (kvI (aheadL ts)).length = n := by rw [List.length_map, T.alen]
  try dsimp only
  try refine name_goH ?_
  first | refine seq_hide fun UL1 hUL1 => ?_ | refine nx_hide fun UL1 hUL1 => ?_
  refine ⟨_, rfl, d, _, rfl, s3 _ _ (s2 _ _ hd), ((kvI (aheadL ts)).length : Int), rfl, by omega, by omega, ?_⟩
  rw [show (((kvI (aheadL ts)).length : Int)).toNat = n by omega]
  refine for_range (n := n) (fun i σ H2 => ∃ st rg en cs, σ = [some (.ref a), some (.ref d), some (.ref sn), some (.ref ld), st, rg, en] ∧ Same H H2 ∧ H2 d = some (.dK (kvI (aheadL ts))) ∧ H2 sn = some (.dK (kvT (landsF (nxt ts) i).flatten)) ∧
    H2 ld = some (.lst (cs.map V.ref)) ∧ RowsA H2 cs (landsF (nxt ts) i)) ⟨none, none, none, [], rfl, s1.trans (s2.trans s3), s3 _ _ (s2 _ _ hd), ?_, upd_same, ⟨rfl, fun i b row e1 e2 => by simp at e1⟩⟩ ?_ ?_
  · rw [upd_ne (Ne.symm lsn), upd_same]
    rfl
  · rintro i σ H2 hi ⟨st, rg, en, cs, rfl, sm, hd2, hsn2, hld2, hR⟩
    have hin : InR n (i : Int) := ⟨by omega, by omega⟩
    have L := landsF_ok PM i (by omega)
    refine ⟨_, rfl, _, rfl, sn, _, rfl, DGet.k (k := Sum.inl ((0 : Int) + (i : Nat))) hsn2, _, rfl, ?_⟩
    rw [val_kvT, show (0 : Int) + (i : Nat) = (i : Int) by omega]
    by_cases hm : (i : Int) ∈ (landsF (nxt ts) i).flatten
    · rw [if_pos hm]
      have e0 := landsF_pos hm
      refine iteF ⟨_, _, _, cs, rfl, sm, hd2, ?_, hld2, ?_⟩
      · rw [hsn2, e0]
      · rw [e0]
        exact hR
    · rw [if_neg hm]
      refine iteT ?_
      have e1 := landsF_neg hm
      refine ⟨_, rfl, _, rfl, (i : Int), d, ts, n, rfl, hd2, T, hn, hin, fun r H3 s4 nr hr3 => ?_⟩
      have sm3 := sm.trans s4
      have rsn : r ≠ sn := fun z => by rw [z, hsn2] at nr; cases nr
      have ll := lands_len PM (i := i + 1) (by omega)
      rw [e1, List.flatten_append, List.length_append, List.length_append] at ll
      simp only [List.flatten_cons, List.flatten_nil, List.append_nil, List.length_singleton] at ll
      try dsimp only
      try refine name_goH ?_
      first | refine seq_hide fun UL2 hUL2 => ?_ | refine nx_hide fun UL2 hUL2 => ?_
      refine ⟨_, rfl, r, rfl, ⟨_, SqT.of hr3⟩, ?_⟩
      refine for_tup (xs := (ring (nxt ts) i).map V.int) (fun k σ H4 => ∃ en, σ = [some (.ref a), some (.ref d), some (.ref sn), some (.ref ld), some (.int (i : Int)), some (.ref r), en] ∧ SameB sn H3 H4 ∧ H4 sn = some (.dK (kvT ((landsF (nxt ts) i).flatten ++ (ring (nxt ts) i).take k))))
        ⟨en, rfl, SameB.refl _ _, by rw [List.take_zero, List.append_nil]; exact s4 _ _ hsn2⟩ (fun k σ H4 _ ⟨_, _, sb, _⟩ => SqT.of (sb _ _ rsn hr3)) ?_ ?_
      · rintro k x σ H4 hx ⟨en4, rfl, sb, hs4⟩
        obtain ⟨e, rfl, he⟩ := int_at hx
        have fr : e ∉ (landsF (nxt ts) i).flatten ++ (ring (nxt ts) i).take k := by
          have nd2 := (landsF_ok PM (i + 1) (by omega)).nd
          rw [e1] at nd2
          have hii : (landsF (nxt ts) i ++ [ring (nxt ts) i])[(landsF (nxt ts) i).length]? = some (ring (nxt ts) i) := by
            rw [List.getElem?_append_right (Nat.le_refl _), Nat.sub_self]
            rfl
          have := fresh_end nd2 hii he
          rw [List.take_append_of_le_length (Nat.le_refl _), List.take_length] at this
          exact this
        refine ⟨_, rfl, _, rfl, sn, _, rfl, DPut.k (k := Sum.inl e) hs4 ?_, ?_⟩
        · rw [List.length_map, List.length_append, List.length_take]
          exact szl (by omega)
        · refine ⟨_, rfl, sb.put _, ?_⟩
          rw [upd_same, put_kvT fr, List.append_assoc, take_snoc he]
      · rintro σ H4 ⟨en4, rfl, sb, hs4⟩
        subst hUL2
        rw [List.length_map, List.take_length] at hs4
        have hld4 : H4 ld = some (.lst (cs.map V.ref)) := sb _ _ lsn (s4 _ _ hld2)
        refine ⟨_, rfl, .inl ⟨rfl, _, SqL.of hld4⟩, _, rfl, ld, _, _, rfl, rfl, hld4, by rw [List.length_map, hR.1]; exact szl (by omega), ?_⟩
        have tups : ∀ c ys, H3 c = some (.tup ys) → (upd H4 ld (.lst (cs.map V.ref ++ [.ref r]))) c = some (.tup ys) := fun c ys e => by
          have n1 : c ≠ sn := fun z => by rw [z, s4 _ _ hsn2] at e; cases e
          have n2 : c ≠ ld := fun z => by rw [z, s4 _ _ hld2] at e; cases e
          rw [upd_ne n2]
          exact sb _ _ n1 e
        refine ⟨_, _, _, cs ++ [r], rfl, ?_, ?_, ?_, ?_, ?_⟩
        · exact (sb.same sm3 fsn).up fld _
        · rw [upd_ne dld]
          exact sb _ _ dsn (s4 _ _ hd2)
        · rw [upd_ne (Ne.symm lsn), hs4, e1, List.flatten_append]
          simp
        · rw [upd_same, List.map_append]
          rfl
        · rw [e1]
          exact (hR.keep fun c ys e => s4 _ _ e).snoc tups (tups _ _ hr3)
  · rintro σ H2 ⟨st, rg, en, cs, rfl, sm, hd2, hsn2, hld2, hR⟩
    subst hUL1
    refine ⟨_, rfl, ld, _, rfl, .inl ⟨SqL.of hld2, fun p hp => ?_⟩⟩
    exact q p cs _ (sm.trans (same_new hp _)) (sm.free hp) upd_same (hR.keep fun c ys e => same_new hp _ _ _ e)


end
end My
namespace My
open PySem L2 Mth
noncomputable abbrev Rope : Type := Nat × Nat × Rat
noncomputable def RopeR (H : Hp) (b : Addr) (r : Rope) : Prop := ∃ e, H b = some (.tup [.int (r.1 : Int), .int (r.2.1 : Int), .ref e]) ∧ FrR H e r.2.2
theorem mo_rope : Mo RopeR := fun s ⟨e, h1, h2⟩ => ⟨e, s _ _ h1, s _ _ h2⟩
theorem t3_0 (x y z : V) : atI [x, y, z] 0 = some x := atI_nat (j := 0) rfl
theorem t3_1 (x y z : V) : atI [x, y, z] 1 = some y := atI_nat (j := 1) rfl
theorem t3_2 (x y z : V) : atI [x, y, z] 2 = some z := atI_nat (j := 2) rfl
theorem at0 {x y : V} : atI [x, y] 0 = some x := atI_nat (j := 0) rfl
theorem at1 {x y : V} : atI [x, y] 1 = some y := atI_nat (j := 1) rfl
structure EaseK (q : Rat) : Prop where
  pos : 0 < q.num
  top : q.num < 10 ^ 40
  bot : (q.den : Int) < 10 ^ 40
section
variable {P : Program} {w : World} {K : PySem.W.Frag} {mg : Str → Option Value} {base : Heap} {f g h f1 f2 f3 f4 : Addr} {fd gd hd d1 d2 d3 d4 : FuncData}
inductive SpGcdR (vs : List V) (H : Hp) (Q : VK) : Prop
  | mk (a b : Int) (h_0 : vs = [.int a, .int b]) (h_1 : Q (.int (Int.gcd a b : Int)) H) : SpGcdR vs H Q
noncomputable def spGcd : Sp := fun vs H Q _ => SpGcdR vs H Q
inductive SpIsER (vs : List V) (H : Hp) (Q : VK) : Prop
  | mk (p : Addr) (q : Rat) (h_0 : vs = [.ref p]) (h_1 : FrR H p q) (h_2 : EaseK q) (h_3 : Q (.bl true) H) : SpIsER vs H Q
noncomputable def spIsE : Sp := fun vs H Q _ => SpIsER vs H Q
theorem scIE : FnScope ["ease", "beyond", "number"] ["ease"] (defScope s_is_ease) := ⟨rfl, rfl, rfl, by decide +kernel, rfl, by decide +kernel, by decide +kernel⟩
theorem ok_isEase (F : Fun K "is_ease" "is_ease" s_is_ease f fd) (G : FnOk P w K mg base CX0 1 g gd ["one", "other"] spGcd) (bG : Binds K gd ["one", "other"] []) (kG : PySem.W.keepIn K (.ref g) = true) (mG : mg "common_part" = some (.ref g)) (ml : mg "len" = none) :
    FnOk P w K mg base CX0 2 f fd ["ease"] spIsE := by
  refine F.ok scIE (fun vs H Q E h => ?_) (fun cdv A outer s H vs Q E hr h => ?_)
  · obtain ⟨p, q, rfl, _⟩ := h
    rfl
  obtain ⟨p, q, rfl, hp, ⟨e1, e2, e3⟩, k⟩ := h
  refine ⟨_, pss_cons (ps_set (i := 1) scIE.nd rfl (Or.inl rfl) (pe_op op_pow pe_int pe_int))
    (pss_cons (ps_if (pt_cmpR op_ne (pe_callB (callLen (K := K)) (by rfl) ml bt_len (pa_cons (pv 0) pa_nil)) pe_int (nomark _)) pss_never pss_nil)
    (pss_cons (ps_for PassesOwn.never rfl (piTup (K := K) (pv 0)) (pg_name (i := 2) scIE.nd rfl (Or.inl rfl))
      (pss_one (ps_if (PW.pt (pw_or (pt_cmpR op_lt (pv 2) pe_int (nomark _)) (pw_or1 (pt_cmpR op_ge (pv 2) (pv 1) (nomark _))))) pss_never pss_nil)))
    (pss_one (ps_ret (pe_cmpR op_eq (pe_call G hr (by rfl) mG kG bG .nil pass0 (pa_cons (pe_ix (ixT (K := K)) (pv 0) pe_int (fun _ _ => rfl)) (pa_cons (pe_ix (ixT (K := K)) (pv 0) pe_int (fun _ _ => rfl)) pa_nil))) pe_int (nomark _)))))), ?_⟩
  have hp' : H p = some (.tup [.int q.num, .int q.den]) := hp
  have dn := q.den_nz
  refine ⟨_, _, rfl, rfl, ⟨by decide, by decide, by decide⟩, ?_⟩
  refine ⟨_, rfl, p, _, rfl, .inr (SqT.of hp'), rfl, _, rfl, iteF ?_⟩
  refine ⟨_, rfl, p, rfl, ⟨_, SqT.of hp'⟩, ?_⟩
  refine for_tup (xs := [.int q.num, .int q.den]) (fun i σ H2 => H2 = H ∧ ∃ u, σ = [some (.ref p), some (.int (10 ^ ((40 : Int).toNat))), u]) ⟨rfl, none, rfl⟩ (fun i σ H2 _ ⟨e, _⟩ => by rw [e]; exact SqT.of hp') ?_ ?_
  · rintro i x σ H2 hx ⟨rfl, u, rfl⟩
    have key : ∃ z : Int, x = .int z ∧ 0 < z ∧ z < 10 ^ 40 := by
      match i, hx with
      | 0, hx => exact ⟨_, (Option.some.inj hx).symm, e1, e2⟩
      | 1, hx => exact ⟨_, (Option.some.inj hx).symm, by omega, e3⟩
    obtain ⟨z, rfl, z0, z1⟩ := key
    refine ⟨_, rfl, _, _, rfl, rfl, _, rfl, iteDF (show ¬ (z < 1) by omega) ?_⟩
    refine ⟨_, rfl, _, rfl, _, _, rfl, rfl, _, rfl, iteDF (show ¬ ((10 : Int) ^ ((40 : Int).toNat) ≤ z) by rw [show ((40 : Int).toNat) = 40 from rfl]; omega) ?_⟩
    exact ⟨rfl, _, rfl⟩
  · rintro σ H2 ⟨rfl, u, rfl⟩
    refine ⟨_, rfl, p, _, _, _, rfl, rfl, SqT.of hp', at0, _, rfl, p, _, _, _, rfl, rfl, SqT.of hp', at1, _, _, rfl, rfl, ?_⟩
    have e : (Int.gcd q.num (q.den : Int) : Int) = 1 := by
      have := q.reduced
      unfold Int.gcd
      rw [Int.natAbs_natCast]
      exact_mod_cast this
    rw [e]
    exact k
inductive SpChkNR (vs : List V) (H : Hp) (Q : VK) : Prop
  | mk (n : Int) (a : Addr) (xs : List V) (h_0 : vs = [.int n, .ref a]) (h_1 : 2 ≤ n) (h_2 : n ≤ 15) (h_3 : H a = some (.tup xs)) (h_4 : 1 ≤ xs.length) (h_5 : xs.length ≤ 14) (h_6 : Q .non H) : SpChkNR vs H Q
noncomputable def spChkN : Sp := fun vs H Q _ => SpChkNR vs H Q
theorem scCN : FnScope ["places", "ropes"] ["places", "ropes"] (defScope s_check_numbers) := ⟨rfl, rfl, rfl, by decide +kernel, rfl, by decide +kernel, by decide +kernel⟩
theorem ok_chkN (F : Fun K "check_numbers" "check_numbers" s_check_numbers f fd) (ml : mg "len" = none) : FnOk P w K mg base CX0 1 f fd ["places", "ropes"] spChkN := by
  refine F.ok scCN (fun vs H Q E h => ?_) (fun cdv A outer s H vs Q E hr h => ?_)
  · obtain ⟨n, a, xs, rfl, _⟩ := h
    rfl
  obtain ⟨n, a, xs, rfl, n2, n15, ha, l1, l14, q⟩ := h
  refine ⟨_, pss_cons (ps_if (PW.pt (pw_or (pt_cmpR op_lt (pv 0) pe_int (nomark _)) (pw_or1 (pt_cmpR op_gt (pv 0) pe_int (nomark _))))) pss_never pss_nil)
    (pss_one (ps_if (PW.pt (pw_or (pt_cmpR op_lt (pe_callB (callLen (K := K)) (by rfl) ml bt_len (pa_cons (pv 1) pa_nil)) pe_int (nomark _)) (pw_or1 (pt_cmpR op_gt (pe_callB (callLen (K := K)) (by rfl) ml bt_len (pa_cons (pv 1) pa_nil)) pe_int (nomark _))))) pss_never pss_nil)), ?_⟩
  refine ⟨_, rfl, _, _, rfl, rfl, _, rfl, iteDF (show ¬ (n < 2) by omega) ?_⟩
  refine ⟨_, rfl, _, _, rfl, rfl, _, rfl, iteDF (show ¬ (15 < n) by omega) ?_⟩
  refine ⟨_, rfl, a, _, rfl, .inr (SqT.of ha), _, _, rfl, rfl, _, rfl, iteDF (show ¬ ((xs.length : Int) < 1) by omega) ?_⟩
  exact ⟨_, rfl, a, _, rfl, .inr (SqT.of ha), _, _, rfl, rfl, _, rfl, iteDF (show ¬ (14 < (xs.length : Int)) by omega) q⟩
theorem sIxT2 {n : Nat} (h : 2 ≤ n) : HT.sIx n n (some 2) = 2 := by simp [HT.sIx]; omega
inductive SpChkRR (vs : List V) (H : Hp) (Q : VK) : Prop
  | mk (n : Nat) (k : Int) (a : Addr) (r : Rope) (h_0 : vs = [.int n, .int k, .ref a]) (h_1 : RopeR H a r) (h_2 : r.1 < n) (h_3 : r.2.1 < n) (h_4 : EaseK r.2.2) (h_5 : ∀ H', Same H H' → Q .non H') : SpChkRR vs H Q
noncomputable def spChkR : Sp := fun vs H Q _ => SpChkRR vs H Q
theorem scCR : FnScope ["places", "number", "rope", "place"] ["places", "number", "rope"] (defScope s_check_rope) := ⟨rfl, rfl, rfl, by decide +kernel, rfl, by decide +kernel, by decide +kernel⟩
theorem ok_chkR (F : Fun K "check_rope" "check_rope" s_check_rope f fd) (G : FnOk P w K mg base CX0 2 g gd ["ease"] spIsE) (bG : Binds K gd ["ease"] []) (kG : PySem.W.keepIn K (.ref g) = true) (mG : mg "is_ease" = some (.ref g)) : FnOk P w K mg base CX0 3 f fd ["places", "number", "rope"] spChkR := by
  refine F.ok scCR (fun vs H Q E h => ?_) (fun cdv A outer s H vs Q E hr h => ?_)
  · obtain ⟨n, k, a, r, rfl, _⟩ := h
    rfl
  obtain ⟨n, k, a, r, rfl, ⟨e, ha, he⟩, r1, r2, ek, q⟩ := h
  refine ⟨_, pss_cons (ps_for PassesOwn.never rfl (piTup (K := K) (pe_slice (slT (K := K)) (pv 2) po_none (po_some pe_int))) (pg_name (i := 3) scCR.nd rfl (Or.inl rfl))
      (pss_one (ps_if (PW.pt (pw_or (pt_cmpR op_lt (pv 3) pe_int (nomark _)) (pw_or1 (pt_cmpR op_ge (pv 3) (pv 0) (nomark _))))) pss_never pss_nil)))
    (pss_one (ps_if (pt_not (pt_val (pe_call G hr (by rfl) mG kG bG .nil pass0 (pa_cons (pe_ix (ixT (K := K)) (pv 2) pe_int (fun _ _ => rfl)) pa_nil)))) pss_never pss_nil)), ?_⟩
  refine ⟨_, rfl, 2, rfl, a, _, rfl, SqT.of ha, fun z => ?_, fun p hp => ?_⟩
  · have := z.2
    rw [sIxT2 (by show 2 ≤ 3; decide)] at this
    cases this
  rw [show cutV [V.int (r.1 : Int), .int (r.2.1 : Int), .ref e] none (some 2) = [.int (r.1 : Int), .int (r.2.1 : Int)] from rfl]
  have s1 := same_new hp (.tup [.int (r.1 : Int), .int (r.2.1 : Int)])
  have e1 : (upd H p (.tup [.int (r.1 : Int), .int (r.2.1 : Int)])) p = some (.tup [.int (r.1 : Int), .int (r.2.1 : Int)]) := upd_same
  generalize upd H p (.tup [.int (r.1 : Int), .int (r.2.1 : Int)]) = H1 at s1 e1
  refine ⟨p, rfl, ⟨_, SqT.of e1⟩, ?_⟩
  refine for_tup (xs := [.int (r.1 : Int), .int (r.2.1 : Int)]) (fun i σ H2 => H2 = H1 ∧ ∃ u, σ = [some (.int n), some (.int k), some (.ref a), u]) ⟨rfl, none, rfl⟩ (fun i σ H2 _ ⟨e, _⟩ => by rw [e]; exact SqT.of e1) ?_ ?_
  · rintro i x σ H2 hx ⟨rfl, u, rfl⟩
    have key : ∃ z : Nat, x = .int (z : Int) ∧ z < n := by
      match i, hx with
      | 0, hx => exact ⟨_, (Option.some.inj hx).symm, r1⟩
      | 1, hx => exact ⟨_, (Option.some.inj hx).symm, r2⟩
    obtain ⟨z, rfl, z1⟩ := key
    refine ⟨_, rfl, _, _, rfl, rfl, _, rfl, iteDF (show ¬ ((z : Int) < 0) by omega) ?_⟩
    exact ⟨_, rfl, _, rfl, _, _, rfl, rfl, _, rfl, iteDF (show ¬ ((n : Int) ≤ (z : Int)) by omega) ⟨rfl, _, rfl⟩⟩
  · rintro σ H2 ⟨rfl, u, rfl⟩
    exact ⟨_, rfl, a, _, _, _, rfl, rfl, SqT.of (s1 _ _ ha), t3_2 _ _ _, e, r.2.2, rfl, s1 _ _ he, ek, _, rfl, iteF (q _ s1)⟩
end
end My
namespace My
open PySem L2 Mth
noncomputable def begL (t : List Int) : List Int := t.drop (t.idxOf (leastL t)) ++ t.take (t.idxOf (leastL t))
theorem leastL_is {t : List Int} {m : Int} (hm : m ∈ t) (h : ∀ a ∈ t, m ≤ a) : leastL t = m := by
  obtain ⟨h1, h2⟩ := leastL_ok (l := t) (List.ne_nil_of_mem hm)
  have := h _ h1
  have := h2 _ hm
  omega
theorem cut_take (xs : List V) {j : Nat} (h : j ≤ xs.length) : cutV xs none (some (j : Int)) = xs.take j := by
  unfold cutV
  have e1 : HT.sIx xs.length 0 none = 0 := rfl
  have e2 : HT.sIx xs.length xs.length (some (j : Int)) = j := by simp [HT.sIx]; rw [if_neg (by omega)]; omega
  rw [e1, e2]; simp
theorem cut_drop (xs : List V) {j : Nat} (h : j ≤ xs.length) : cutV xs (some (j : Int)) none = xs.drop j := by
  unfold cutV
  have e1 : HT.sIx xs.length 0 (some (j : Int)) = j := by simp [HT.sIx]; rw [if_neg (by omega)]; omega
  have e2 : HT.sIx xs.length xs.length none = xs.length := rfl
  rw [e1, e2, List.take_of_length_le]; simp
theorem szle {n : Nat} (h : n ≤ 100000) : n ≤ sizeLine := Nat.le_of_lt (szl h)
theorem sIx_nat {n j d : Nat} (h : j ≤ n) : HT.sIx n d (some (j : Int)) = j := by simp [HT.sIx]; rw [if_neg (by omega)]; omega
section
variable {P : Program} {w : World} {K : PySem.W.Frag} {mg : Str → Option Value} {base : Heap} {f g h f1 f2 f3 f4 : Addr} {fd gd hd d1 d2 d3 d4 : FuncData}
inductive SpBegR (vs : List V) (H : Hp) (Q : VK) : Prop
  | mk (a : Addr) (t : List Int) (h_0 : vs = [.ref a]) (h_1 : H a = some (.tup (t.map V.int))) (h_2 : t ≠ []) (h_3 : t.length ≤ 1000) (h_4 : ∀ p H', Same H H' → H' p = some (.tup ((begL t).map V.int)) → Q (.ref p) H') : SpBegR vs H Q
noncomputable def spBeg : Sp := fun vs H Q _ => SpBegR vs H Q
theorem scBe : FnScope ["turn", "cut"] ["turn"] (defScope s_begun_least) := ⟨rfl, rfl, rfl, by decide +kernel, rfl, by decide +kernel, by decide +kernel⟩
theorem ok_beg (F : Fun K "begun_least" "begun_least" s_begun_least f fd) (mn : mg "min" = none) : FnOk P w K mg base CX0 1 f fd ["turn"] spBeg := by
  refine F.ok scBe (fun vs H Q E h => ?_) (fun cdv A outer s H vs Q E hr h => ?_)
  · obtain ⟨a, t, rfl, _⟩ := h
    rfl
  obtain ⟨a, t, rfl, ha, ht, hl, q⟩ := h
  refine ⟨_, pss_cons (ps_set (i := 1) scBe.nd rfl (Or.inl rfl) (pe_bmT PySem.F.plainAttrs_tuple PySem.F.slot_tuple_index PySem.F.type_tuple_index mt_indexT (pv 0) (pa_cons (pe_callB (call_minT rfl) (by rfl) mn bt_min (pa_cons (pv 0) pa_nil)) pa_nil)))
    (pss_one (ps_ret (pe_op op_catT (pe_slice (slTA (K := K)) (pv 0) (po_some (pv 1)) po_none) (pe_slice (slTA (K := K)) (pv 0) po_none (po_some (pv 1)))))), ?_⟩
  have tl : 0 < t.length := List.length_pos_iff.mpr ht
  refine ⟨_, rfl, ⟨a, _, rfl, ha⟩, _, rfl, a, t, rfl, ha, tl, fun m mm mle => ?_⟩
  refine ⟨a, t, m, rfl, rfl, ha, mm, ?_⟩
  have em := leastL_is mm mle
  have hc : t.idxOf m < t.length := List.idxOf_lt_length_iff.mpr mm
  have eb : begL t = t.drop (t.idxOf m) ++ t.take (t.idxOf m) := by unfold begL; rw [em]
  generalize t.idxOf m = c at hc eb
  refine ⟨_, rfl, _, rfl, _, rfl, a, _, rfl, SqT.of ha, fun z => ?_, fun z p hp => ?_⟩
  · -- the whole turn
    have c0 : c = 0 := by rw [sIx_nat (by rw [List.length_map]; omega)] at z; exact z.1
    subst c0
    refine ⟨_, rfl, _, rfl, _, rfl, a, _, rfl, SqT.of ha, fun z2 => ?_, fun z2 p2 hp2 => ?_⟩
    · have := z2.2
      rw [sIx_nat (Nat.zero_le _), List.length_map] at this
      omega
    · refine ⟨a, p2, _, [], rfl, rfl, SqT.of (same_new hp2 _ _ _ ha), ?_, ?_, ?_, fun _ => ?_, fun z3 => absurd rfl z3⟩
      · rw [show cutV (t.map V.int) none (some ((0 : Nat) : Int)) = [] by rw [cut_take _ (Nat.zero_le _)]; rfl]; exact SqT.of upd_same
      · intro z4
        have := congrArg List.length z4
        simp at this
        exact ht this
      · rw [List.length_map]; exact szle (by simp; omega)
      · refine q a _ (same_new hp2 _) ?_
        rw [eb]
        simpa using same_new hp2 _ _ _ ha
  · have ec : cutV (t.map V.int) (some (c : Int)) none = (t.drop c).map V.int := by rw [cut_drop _ (by rw [List.length_map]; omega), List.map_drop]
    rw [ec]
    have s1 := same_new hp (.tup ((t.drop c).map V.int))
    have g1 : (upd H p (.tup ((t.drop c).map V.int))) p = some (.tup ((t.drop c).map V.int)) := upd_same
    generalize upd H p (.tup ((t.drop c).map V.int)) = H1 at s1 g1
    have cn : c ≠ 0 := fun e => z (by subst e; rw [sIx_nat (Nat.zero_le _)]; exact ⟨rfl, rfl⟩)
    refine ⟨_, rfl, _, rfl, _, rfl, a, _, rfl, SqT.of (s1 _ _ ha), fun z2 => ?_, fun z2 p2 hp2 => ?_⟩
    · have := z2.2
      rw [sIx_nat (by rw [List.length_map]; omega), List.length_map] at this
      omega
    · have ec2 : cutV (t.map V.int) none (some (c : Int)) = (t.take c).map V.int := by rw [cut_take _ (by rw [List.length_map]; omega), List.map_take]
      rw [ec2]
      have s2 := same_new hp2 (.tup ((t.take c).map V.int))
      have g2 : (upd H1 p2 (.tup ((t.take c).map V.int))) p2 = some (.tup ((t.take c).map V.int)) := upd_same
      generalize upd H1 p2 (.tup ((t.take c).map V.int)) = H2 at s2 g2
      refine ⟨p, p2, _, _, rfl, rfl, SqT.of (s2 _ _ g1), SqT.of g2, ?_, ?_, fun z3 => ?_, fun _ p3 hp3 => ?_⟩
      · intro z4
        have := congrArg List.length z4
        simp at this
        omega
      · simp; exact szle (by omega)
      · have := congrArg List.length z3
        rw [List.length_map, List.length_take] at this
        have e0 : ([] : List V).length = 0 := rfl
        omega
      · refine q p3 _ (s1.trans (s2.trans (same_new hp3 _))) ?_
        rw [upd_same, eb, List.map_append]
end
end My
namespace My
open PySem L2 Mth
noncomputable def IntsT (H : Hp) (b : Addr) (ns : List Int) : Prop := H b = some (.tup (ns.map V.int))
theorem mo_intsT : Mo IntsT := fun s h => s _ _ h
theorem IntsT.del {H : Hp} {a b : Addr} {t : List Int} {ys : List V} (h : IntsT H b t) (e : H a = some (.lst ys)) : IntsT (del H a) b t := del_at h fun z => by rw [z] at h; unfold IntsT at h; rw [e] at h; cases h
theorem begL_rot {t : List Int} : ∃ a b, t = a ++ b ∧ begL t = b ++ a := ⟨_, _, (List.take_append_drop (t.idxOf (leastL t)) t).symm, rfl⟩
noncomputable def addT (l : List Int) (e : Int) : List Int := if e ∈ l then l else l ++ [e]
theorem put_addT (l : List Int) (e : Int) : putK (kvT l) (Sum.inl e : Key) (.bl true) = kvT (addT l e) := by
  unfold addT
  by_cases h : e ∈ l
  · rw [if_pos h]
    have a : valV (kvT l) (Sum.inl e : Key) = some (.bl true) := by rw [val_kvT, if_pos h]
    unfold putK
    rw [valV_any, a, if_pos (show (some (V.bl true)).isSome = true from rfl)]
    unfold kvT
    rw [List.map_map]
    refine List.map_congr_left fun x _ => ?_
    show (if (Sum.inl x : Key) = Sum.inl e then ((Sum.inl x : Key), V.bl true) else (Sum.inl x, V.bl true)) = _
    split <;> rfl
  · rw [if_neg h, put_kvT h]
theorem mem_addT {l : List Int} {e x : Int} : x ∈ addT l e ↔ x ∈ l ∨ x = e := by
  unfold addT
  split
  · rename_i h
    constructor
    · exact .inl
    · rintro (z | rfl)
      · exact z
      · exact h
  · simp
theorem nd_addT {l : List Int} {e : Int} (h : l.Nodup) : (addT l e).Nodup := by
  unfold addT
  split
  · exact h
  · rename_i z
    rw [List.nodup_append]
    exact ⟨h, by simp, fun a ha b hb => by rw [List.mem_singleton] at hb; subst hb; exact fun q => z (q ▸ ha)⟩
theorem len_addT (l : List Int) (e : Int) : l.length ≤ (addT l e).length ∧ ((addT l e).length = l.length → addT l e = l) := by
  unfold addT
  split
  · exact ⟨Nat.le_refl _, fun _ => rfl⟩
  · refine ⟨by simp, fun h => ?_⟩
    simp at h
structure LedK (n : Nat) (s : Int) (rs : List Rope) (l : List Int) : Prop where
  nd : l.Nodup
  inn : ∀ x ∈ l, InR n x
  st : s ∈ l
  least : ∀ S : Int → Prop, S s → (∀ r ∈ rs, (S r.1 ↔ S r.2.1)) → ∀ x ∈ l, S x
theorem LedK.len {n : Nat} {s : Int} {rs : List Rope} {l : List Int} (k : LedK n s rs l) : l.length ≤ n := len_le n _ k.nd k.inn
theorem LedK.add {n : Nat} {s : Int} {rs : List Rope} {l : List Int} (k : LedK n s rs l) {r : Rope} (hr : r ∈ rs) (h : (r.1 : Int) ∈ l ∨ (r.2.1 : Int) ∈ l) {e : Int} (he : e = r.1 ∨ e = r.2.1) (hi : InR n e) : LedK n s rs (addT l e) := by
  refine ⟨nd_addT k.nd, fun x hx => ?_, mem_addT.mpr (.inl k.st), fun S h0 hc x hx => ?_⟩
  · rcases mem_addT.mp hx with z | rfl
    · exact k.inn x z
    · exact hi
  · rcases mem_addT.mp hx with z | rfl
    · exact k.least S h0 hc x z
    · have := hc r hr
      rcases h with h | h <;> have h2 := k.least S h0 hc _ h <;> rcases he with rfl | rfl
      · exact h2
      · exact this.mp h2
      · exact this.mpr h2
      · exact h2
section
variable {P : Program} {w : World} {K : PySem.W.Frag} {mg : Str → Option Value} {base : Heap} {f g h f1 f2 f3 f4 : Addr} {fd gd hd d1 d2 d3 d4 : FuncData}
inductive SpToldR (vs : List V) (H : Hp) (Q : VK) : Prop
  | mk (a : Addr) (ts : List (List Int)) (h_0 : vs = [.ref a]) (h_1 : TupR IntsT H a ts) (h_2 : ts.length ≤ 1000) (h_3 : (∀ t ∈ ts, t ≠ [] ∧ t.length ≤ 1000)) (h_4 : ∀ p H', Same H H' → TupR IntsT H' p (ts.map begL) → Q (.ref p) H') : SpToldR vs H Q
noncomputable def spTold : Sp := fun vs H Q _ => SpToldR vs H Q
theorem scTo : FnScope ["turns"] ["turns"] (defScope s_told_turns) := ⟨rfl, rfl, rfl, by decide +kernel, rfl, by decide +kernel, by decide +kernel⟩
theorem ndTurn : (["turn"] : List Str).Nodup := by decide +kernel
theorem ok_told (F : Fun K "told_turns" "told_turns" s_told_turns f fd) (G : FnOk P w K mg base CX0 1 g gd ["turn"] spBeg) (bG : Binds K gd ["turn"] []) (kG : PySem.W.keepIn K (.ref g) = true) (mG : mg "begun_least" = some (.ref g)) (mt : mg "tuple" = none) : FnOk P w K mg base CX0 2 f fd ["turns"] spTold := by
  refine F.ok scTo (fun vs H Q E h => ?_) (fun cdv A outer s H vs Q E hr h => ?_)
  · obtain ⟨a, ts, rfl, _⟩ := h
    rfl
  obtain ⟨a, ts, rfl, ⟨bs, ha, hB⟩, hl, ht, q⟩ := h
  refine ⟨_, pss_one (ps_ret (pe_callTy (callTup (K := K)) (by rfl) mt bt_tuple (pa_cons (pe_comp (Nc := ["turn"]) (cap := []) (g := gName 0) (te := tCall spBeg [] E0 (tCons (tVar 0) tNil)) rfl (piTup (K := K) (pv 0))
      (comp_mk rfl rfl (by decide +kernel) (by decide +kernel) (List.forall_mem_nil _) rfl (List.forall_mem_nil _)) (fun C fp pins s' H' => pg_name (i := 0) ndTurn rfl (Or.inl rfl))
      (fun C fp pins s' H' => pe_call G hr (by rfl) mG kG bG .nil pass0 (pa_cons (pv 0) pa_nil))) pa_nil))), ?_⟩
  have lb : bs.length = ts.length := hB.1
  refine ⟨_, rfl, a, rfl, ⟨_, SqT.of ha⟩, fun acc hacc => ?_⟩
  refine comp_run (run_tup ha) (by rw [List.length_map]; omega) hacc (fun i ys σ hp => ∃ ds : List Addr, ys = ds.map V.ref ∧ At IntsT hp ds ((ts.map begL).take i) ∧ ∃ u, σ = [u]) ⟨[], rfl, At.nil, none, rfl⟩ ?_ ?_
  · rintro i ys σ H3 x H4 hi sm hacc2 ⟨ds, rfl, hD, u, rfl⟩ ⟨rfl, hx⟩ Cc hC
    obtain ⟨c, t, rfl, _, hy, hc⟩ := hB.ref hx
    obtain ⟨t1, t2⟩ := ht t (List.mem_of_getElem? hy)
    refine ⟨_, rfl, c, t, rfl, sm _ _ hc, t1, t2, fun p H5 s5 hp => ?_⟩
    refine hC _ _ _ s5 ⟨ds ++ [p], by simp, ?_, _, rfl⟩
    have ec : (ts.map begL)[i]? = some (begL t) := by rw [List.getElem?_map, hy]; rfl
    rw [take_snoc ec]
    exact (hD.keep mo_intsT (del_mono acc s5)).snoc (IntsT.del (t := begL t) hp (s5 _ _ hacc2))
  · rintro ys σ H4 s4 ha4 hl4 ⟨gs, rfl, hG, u, rfl⟩
    rw [List.length_map, lb, List.take_of_length_le (by rw [List.length_map]; exact Nat.le_refl _)] at hG
    refine ⟨acc, _, rfl, .inl ⟨SqL.of ha4, fun p hp => ?_⟩⟩
    have sp := same_new hp (.tup (gs.map V.ref))
    exact q p _ (s4.trans sp) ⟨gs, upd_same, (hG.keep mo_intsT (del_sub H4 acc)).keep mo_intsT sp⟩
inductive SpFlatR (vs : List V) (H : Hp) (Q : VK) : Prop
  | mk (n : Int) (a b : Addr) (xs : List V) (m : Nat) (ts : List (List Int)) (h_0 : vs = [.int n, .ref a, .ref b]) (h_1 : H a = some (.tup xs)) (h_2 : TupR IntsT H b ts) (h_3 : Turns m ts) (h_4 : m ≤ 1000) (h_5 : n - xs.length - 1 + (landsF (nxt ts) m).length = 2) (h_6 : ∀ H', Same H H' → Q .non H') : SpFlatR vs H Q
noncomputable def spFlat : Sp := fun vs H Q _ => SpFlatR vs H Q
theorem scFl : FnScope ["places", "ropes", "turns", "lands"] ["places", "ropes", "turns"] (defScope s_check_flat) := ⟨rfl, rfl, rfl, by decide +kernel, rfl, by decide +kernel, by decide +kernel⟩
theorem ok_flat (F : Fun K "check_flat" "check_flat" s_check_flat f fd) (G : FnOk P w K mg base CX0 3 g gd ["turns"] spRings) (bG : Binds K gd ["turns"] []) (kG : PySem.W.keepIn K (.ref g) = true) (mG : mg "rings" = some (.ref g)) (ml : mg "len" = none) : FnOk P w K mg base CX0 4 f fd ["places", "ropes", "turns"] spFlat := by
  refine F.ok scFl (fun vs H Q E h => ?_) (fun cdv A outer s H vs Q E hr h => ?_)
  · obtain ⟨n, a, b, xs, m, ts, rfl, _⟩ := h
    rfl
  obtain ⟨n, a, b, xs, m, ts, rfl, ha, ⟨bs, hb, hB⟩, T, hm, hf, q⟩ := h
  refine ⟨_, pss_cons (ps_set (i := 3) scFl.nd rfl (Or.inl rfl) (pe_callB (callLen (K := K)) (by rfl) ml bt_len (pa_cons (pe_call G hr (by rfl) mG kG bG .nil pass0 (pa_cons (pv 2) pa_nil)) pa_nil)))
    (pss_one (ps_if (pt_cmpR op_ne (pe_op op_add (pe_op op_sub (pe_op op_sub (pv 0) (pe_callB (callLen (K := K)) (by rfl) ml bt_len (pa_cons (pv 1) pa_nil))) pe_int) (pv 3)) pe_int (nomark _)) pss_never pss_nil)), ?_⟩
  refine ⟨_, rfl, b, bs, ts, m, rfl, ⟨hb, hB⟩, T, hm, fun p cs H1 s1 _ hp hR => ?_⟩
  refine ⟨p, _, rfl, .inr (SqT.of hp), ?_⟩
  refine ⟨_, rfl, _, rfl, a, _, rfl, .inr (SqT.of (s1 _ _ ha)), _, _, rfl, rfl, _, _, rfl, rfl, _, rfl, _, _, rfl, rfl, rfl, _, rfl, iteNS ?_ (q _ s1)⟩
  rw [List.length_map, hR.1]
  exact iv hf
inductive SpLedR (vs : List V) (H : Hp) (Q : VK) : Prop
  | mk (s : Int) (a : Addr) (n : Nat) (rs : List Rope) (h_0 : vs = [.int s, .ref a]) (h_1 : InR n s) (h_2 : n ≤ 100) (h_3 : TupR RopeR H a rs) (h_4 : (∀ r ∈ rs, r.1 < n ∧ r.2.1 < n)) (h_5 : ∀ d l H', Same H H' → H' d = some (.dK (kvT l)) → LedK n s rs l → (∀ r ∈ rs, ((r.1 : Int) ∈ l ↔ (r.2.1 : Int) ∈ l)) → Q (.ref d) H') : SpLedR vs H Q
noncomputable def spLed : Sp := fun vs H Q _ => SpLedR vs H Q
theorem scLd : FnScope ["start", "ropes", "met", "before", "rope"] ["start", "ropes"] (defScope s_led_to) := ⟨rfl, rfl, rfl, by decide +kernel, rfl, by decide +kernel, by decide +kernel⟩
theorem ok_led (F : Fun K "led_to" "led_to" s_led_to f fd) (ml : mg "len" = none) : FnOk P w K mg base CX0 1 f fd ["start", "ropes"] spLed := by
  refine F.ok scLd (fun vs H Q E h => ?_) (fun cdv A outer s H vs Q E hr h => ?_)
  · obtain ⟨s, a, n, rs, rfl, _⟩ := h
    rfl
  obtain ⟨s0, a, n, rs, rfl, hs, hn, ⟨bs, ha, hB⟩, hrs, q⟩ := h
  have hu := hu_of hr
  refine ⟨_, pss_cons (ps_set (i := 2) scLd.nd rfl (Or.inl rfl) (pe_disp (pps_cons (pv 0) pe_bl pps_nil) rfl rfl (by simp) (by decide)))
    (pss_cons (ps_set (i := 3) scLd.nd rfl (Or.inl rfl) pe_int)
    (pss_cons (ps_while PassesOwn.never (pt_cmpR op_lt (pv 3) (pe_callB call_lenD (by rfl) ml bt_len (pa_cons (pv 2) pa_nil)) (nomark _))
      (pss_cons (ps_set (i := 3) scLd.nd rfl (Or.inl rfl) (pe_callB call_lenD (by rfl) ml bt_len (pa_cons (pv 2) pa_nil)))
      (pss_one (ps_for PassesOwn.never rfl (piTup (K := K) (pv 1)) (pg_name (i := 4) scLd.nd rfl (Or.inl rfl))
        (pss_one (ps_if (PW.pt (pw_or (pt_cmp (pc_din hu (pe_ix (ixT (K := K)) (pv 4) pe_int (fun _ _ => rfl)) (pv 2))) (pw_or1 (pt_cmp (pc_din hu (pe_ix (ixT (K := K)) (pv 4) pe_int (fun _ _ => rfl)) (pv 2))))))
          (pss_cons (ps_dput hu (pv 2) (pe_ix (ixT (K := K)) (pv 4) pe_int (fun _ _ => rfl)) pe_bl rfl) (pss_one (ps_dput hu (pv 2) (pe_ix (ixT (K := K)) (pv 4) pe_int (fun _ _ => rfl)) pe_bl rfl))) pss_nil))))))
    (pss_one (ps_ret (pv 2))))), ?_⟩
  intro d hd
  refine ⟨_, rfl, upd_same, [(Sum.inl s0, .bl true)], rfl, by show 1 ≤ 15; decide, ?_⟩
  have s1 : Same H (upd (upd H d (.dK [])) d (.dK (mergeK [] [(Sum.inl s0, .bl true)]))) := (same_new hd _).up hd _
  have e1 : (upd (upd H d (.dK [])) d (.dK (mergeK [] [((Sum.inl s0 : Key), V.bl true)]))) d = some (.dK (kvT [s0])) := upd_same
  generalize upd (upd H d (.dK [])) d (.dK (mergeK [] [((Sum.inl s0 : Key), V.bl true)])) = H1 at s1 e1
  refine while_by (fun σ H2 => ∃ (l : List Int) (b : Nat) (u : Option V), σ = [some (.int s0), some (.ref a), some (.ref d), some (.int (b : Int)), u] ∧ Same H H2 ∧ H2 d = some (.dK (kvT l)) ∧ LedK n s0 rs l ∧ b ≤ l.length ∧ (b = l.length → ∀ r ∈ rs, ((r.1 : Int) ∈ l ↔ (r.2.1 : Int) ∈ l)))
    (fun σ _ => match σ with | [_, _, _, some (.int b), _] => n + 1 - b.toNat | _ => 0) ⟨[s0], 0, none, rfl, s1, e1, ⟨by simp, fun x hx => by rw [List.mem_singleton] at hx; subst hx; exact hs, by simp, fun S h0 _ x hx => by rw [List.mem_singleton] at hx; subst hx; exact h0⟩, Nat.zero_le _, fun z => by simp at z⟩ ?_ ?_
  · rintro σ H2 ⟨l, b, u, rfl, sm, hd2, k, hb, hcl⟩
    refine ⟨_, rfl, _, rfl, d, _, rfl, hd2, _, _, rfl, rfl, _, rfl, ?_⟩
    rw [List.length_map]
    by_cases hlt : b < l.length
    · refine iteDT (by omega) ?_
      refine ⟨_, rfl, d, _, rfl, hd2, ?_⟩
      rw [List.length_map]
      try dsimp only
      try refine name_goH ?_
      first | refine seq_hide fun UL2 hUL2 => ?_ | refine nx_hide fun UL2 hUL2 => ?_
      refine ⟨_, rfl, a, rfl, ⟨_, SqT.of (sm _ _ ha)⟩, ?_⟩
      refine for_tup (xs := bs.map V.ref) (fun i σ H3 => ∃ (l' : List Int) (u : Option V), σ = [some (.int s0), some (.ref a), some (.ref d), some (.int ((l.length : Nat) : Int)), u] ∧ Same H H3 ∧ H3 d = some (.dK (kvT l')) ∧ LedK n s0 rs l' ∧ l.length ≤ l'.length ∧ (l.length = l'.length → l' = l ∧ ∀ r ∈ rs.take i, ((r.1 : Int) ∈ l ↔ (r.2.1 : Int) ∈ l)))
        ⟨l, u, rfl, sm, hd2, k, Nat.le_refl _, fun _ => ⟨rfl, by simp⟩⟩ (fun i σ H3 _ ⟨_, _, _, s3, _⟩ => SqT.of (s3 _ _ ha)) ?_ ?_
      · rintro i x σ H3 hx ⟨l', u', rfl, s3, hd3, k3, le3, cl3⟩
        obtain ⟨c, r, rfl, _, hy, e, hc, he⟩ := hB.ref hx
        have hrm : r ∈ rs := List.mem_of_getElem? hy
        obtain ⟨r1, r2⟩ := hrs r hrm
        have hc3 := s3 _ _ hc
        have in1 : InR n (r.1 : Int) := ⟨by omega, by omega⟩
        have in2 : InR n (r.2.1 : Int) := ⟨by omega, by omega⟩
        have go : ∀ (hin : (r.1 : Int) ∈ l' ∨ (r.2.1 : Int) ∈ l'), ∃ l2, LedK n s0 rs (addT l' r.1) ∧ (addT (addT l' r.1) r.2.1) = l2 ∧ LedK n s0 rs l2 ∧ l.length ≤ l2.length ∧ (l.length = l2.length → l2 = l ∧ ∀ r ∈ rs.take (i+1), ((r.1 : Int) ∈ l ↔ (r.2.1 : Int) ∈ l)) := by
          intro hin
          have ka := k3.add hrm hin (.inl rfl) in1
          have kb := ka.add hrm (.inl (mem_addT.mpr (.inr rfl))) (.inr rfl) in2
          refine ⟨_, ka, rfl, kb, ?_, fun hl => ?_⟩
          · have := (len_addT l' r.1).1
            have := (len_addT (addT l' r.1) r.2.1).1
            omega
          · have a1 := len_addT l' r.1
            have a2 := len_addT (addT l' r.1) r.2.1
            have b1 := a1.2 (by omega)
            have b2 := a2.2 (by omega)
            obtain ⟨rfl, c2⟩ := cl3 (by omega)
            refine ⟨by rw [b2, b1], fun r' hr' => ?_⟩
            rw [take_snoc hy] at hr'
            rcases List.mem_append.mp hr' with z | z
            · exact c2 r' z
            · rw [List.mem_singleton] at z
              subst z
              have m1 : (r'.1 : Int) ∈ l' := by rw [← b1]; exact mem_addT.mpr (.inr rfl)
              have m2 : (r'.2.1 : Int) ∈ l' := by rw [b1] at b2; rw [← b2]; exact mem_addT.mpr (.inr rfl)
              exact ⟨fun _ => m2, fun _ => m1⟩
        refine ⟨_, rfl, c, _, _, _, rfl, rfl, SqT.of hc3, t3_0 _ _ _, _, rfl, d, _, rfl, DGet.k (k := Sum.inl (r.1 : Int)) hd3, _, rfl, ?_⟩
        have cd : c ≠ d := fun z => by rw [z, hd3] at hc3; cases hc3
        have sz3 : (kvT l').length < sizeLine := by rw [List.length_map]; have := k3.len; exact szl (by omega)
        have fin : ∀ (hin : (r.1 : Int) ∈ l' ∨ (r.2.1 : Int) ∈ l') (o : HO), ∃ (l'' : List Int) (u : Option V), [some (.int s0), some (.ref a), some (.ref d), some (.int ((l.length : Nat) : Int)), some (V.ref c)] = [some (.int s0), some (.ref a), some (.ref d), some (.int ((l.length : Nat) : Int)), u] ∧ Same H (upd (upd H3 d o) d (.dK (putK (kvT (addT l' r.1)) (Sum.inl (r.2.1 : Int) : Key) (.bl true)))) ∧ (upd (upd H3 d o) d (.dK (putK (kvT (addT l' r.1)) (Sum.inl (r.2.1 : Int) : Key) (.bl true)))) d = some (.dK (kvT l'')) ∧ LedK n s0 rs l'' ∧ l.length ≤ l''.length ∧ (l.length = l''.length → l'' = l ∧ ∀ r ∈ rs.take (i+1), ((r.1 : Int) ∈ l ↔ (r.2.1 : Int) ∈ l)) := by
          intro hin o
          obtain ⟨l2, ka, e2, kb, c1, c2⟩ := go hin
          refine ⟨l2, _, rfl, (s3.up hd _).up hd _, ?_, kb, c1, c2⟩
          rw [upd_same, put_addT, e2]
        have puts : ∀ (hin : (r.1 : Int) ∈ l' ∨ (r.2.1 : Int) ∈ l'), LedK n s0 rs (addT l' r.1) := fun hin => (go hin).elim fun _ z => z.1
        rw [val_kvT]
        by_cases h1 : (r.1 : Int) ∈ l'
        · rw [if_pos h1]
          refine iteT (iteT ?_)
          refine ⟨_, rfl, _, rfl, c, _, _, _, rfl, rfl, SqT.of hc3, t3_0 _ _ _, d, _, rfl, DPut.k (k := Sum.inl (r.1 : Int)) hd3 sz3, ?_⟩
          rw [put_addT]
          refine ⟨_, rfl, _, rfl, c, _, _, _, rfl, rfl, SqT.of (by rw [upd_ne cd]; exact hc3), t3_1 _ _ _, d, _, rfl, DPut.k (k := Sum.inl (r.2.1 : Int)) upd_same (by rw [List.length_map]; have := (puts (.inl h1)).len; exact szl (by omega)), ?_⟩
          exact fin (.inl h1) _
        · rw [if_neg h1]
          refine iteF ?_
          refine ⟨_, rfl, c, _, _, _, rfl, rfl, SqT.of hc3, t3_1 _ _ _, _, rfl, d, _, rfl, DGet.k (k := Sum.inl (r.2.1 : Int)) hd3, _, rfl, ?_⟩
          rw [val_kvT]
          by_cases h2 : (r.2.1 : Int) ∈ l'
          · rw [if_pos h2]
            refine iteT ?_
            refine ⟨_, rfl, _, rfl, c, _, _, _, rfl, rfl, SqT.of hc3, t3_0 _ _ _, d, _, rfl, DPut.k (k := Sum.inl (r.1 : Int)) hd3 sz3, ?_⟩
            rw [put_addT]
            refine ⟨_, rfl, _, rfl, c, _, _, _, rfl, rfl, SqT.of (by rw [upd_ne cd]; exact hc3), t3_1 _ _ _, d, _, rfl, DPut.k (k := Sum.inl (r.2.1 : Int)) upd_same (by rw [List.length_map]; have := (puts (.inr h2)).len; exact szl (by omega)), ?_⟩
            exact fin (.inr h2) _
          · rw [if_neg h2]
            refine iteF ?_
            refine ⟨l', _, rfl, s3, hd3, k3, le3, fun z => ?_⟩
            obtain ⟨rfl, c2⟩ := cl3 z
            refine ⟨rfl, fun r' hr' => ?_⟩
            rw [take_snoc hy] at hr'
            rcases List.mem_append.mp hr' with z | z
            · exact c2 r' z
            · rw [List.mem_singleton] at z
              subst z
              exact ⟨fun z => absurd z h1, fun z => absurd z h2⟩
      · rintro σ H3 ⟨l', u', rfl, s3, hd3, k3, le3, cl3⟩
        subst hUL2
        rw [List.length_map, hB.1, List.take_length] at cl3
        refine ⟨⟨l', l.length, _, rfl, s3, hd3, k3, le3, fun z => ?_⟩, ?_⟩
        · obtain ⟨rfl, c2⟩ := cl3 z
          exact c2
        · have := k.len
          show n + 1 - ((l.length : Nat) : Int).toNat < n + 1 - ((b : Nat) : Int).toNat
          omega
    · refine iteDF (by omega) ?_
      exact ⟨_, rfl, q d l H2 sm hd2 k (hcl (by omega))⟩
  · rintro σ H2 Q1 Q2 hq ⟨v, e, v', e', d', kv, z1, z2, y, y2, z3, z4, b, z5, z⟩
    exact ⟨v, e, v', e', d', kv, z1, z2, y, y2, z3, z4, b, z5, hq _ _ z⟩
inductive SpHangR (vs : List V) (H : Hp) (Q : VK) : Prop
  | mk (n : Nat) (a : Addr) (rs : List Rope) (h_0 : vs = [.int (n : Int), .ref a]) (h_1 : 0 < n) (h_2 : n ≤ 100) (h_3 : TupR RopeR H a rs) (h_4 : (∀ r ∈ rs, r.1 < n ∧ r.2.1 < n)) (h_5 : (∀ S : Nat → Prop, S 0 → (∀ r ∈ rs, (S r.1 ↔ S r.2.1)) → ∀ p, p < n → S p)) (h_6 : ∀ H', Same H H' → Q .non H') : SpHangR vs H Q
noncomputable def spHang : Sp := fun vs H Q _ => SpHangR vs H Q
theorem scHa : FnScope ["places", "ropes", "met", "place"] ["places", "ropes"] (defScope s_check_hanging) := ⟨rfl, rfl, rfl, by decide +kernel, rfl, by decide +kernel, by decide +kernel⟩
theorem ok_hang (F : Fun K "check_hanging" "check_hanging" s_check_hanging f fd) (G : FnOk P w K mg base CX0 1 g gd ["start", "ropes"] spLed) (bG : Binds K gd ["start", "ropes"] []) (kG : PySem.W.keepIn K (.ref g) = true) (mG : mg "led_to" = some (.ref g)) (mr : mg "range" = none) : FnOk P w K mg base CX0 2 f fd ["places", "ropes"] spHang := by
  refine F.ok scHa (fun vs H Q E h => ?_) (fun cdv A outer s H vs Q E hr h => ?_)
  · obtain ⟨n, a, rs, rfl, _⟩ := h
    rfl
  obtain ⟨n, a, rs, rfl, n0, hn, hT, hrs, hS, q⟩ := h
  have hu := hu_of hr
  refine ⟨_, pss_cons (ps_set (i := 2) scHa.nd rfl (Or.inl rfl) (pe_call G hr (by rfl) mG kG bG .nil pass0 (pa_cons pe_int (pa_cons (pv 1) pa_nil))))
    (pss_one (ps_for PassesOwn.never rfl (pi_range1 (by rfl) mr (pa_cons (pv 0) pa_nil)) (pg_name (i := 3) scHa.nd rfl (Or.inl rfl))
      (pss_one (ps_if (pt_cmp (pc_dnotin hu (pv 3) (pv 2))) pss_never pss_nil)))), ?_⟩
  refine ⟨_, rfl, 0, a, n, rs, rfl, ⟨by omega, by omega⟩, hn, hT, hrs, fun d l H1 s1 hd k cl => ?_⟩
  refine ⟨_, rfl, (n : Int), rfl, by omega, by omega, ?_⟩
  rw [show ((n : Int)).toNat = n by omega]
  refine for_range (n := n) (fun i σ H2 => H2 = H1 ∧ ∃ u, σ = [some (.int n), some (.ref a), some (.ref d), u]) ⟨rfl, none, rfl⟩ ?_ ?_
  · rintro i σ H2 hi ⟨rfl, u, rfl⟩
    refine ⟨_, rfl, _, rfl, d, _, rfl, DGet.k (k := Sum.inl ((0 : Int) + (i : Nat))) hd, _, rfl, ?_⟩
    rw [val_kvT, show (0 : Int) + (i : Nat) = (i : Int) by omega, if_pos (hS (fun p => (p : Int) ∈ l) k.st cl i hi)]
    exact iteF ⟨rfl, _, rfl⟩
  · rintro σ H2 ⟨rfl, u, rfl⟩
    exact q _ s1
end
end My
namespace My
open PySem L2 Mth
theorem nd_at {l : List Addr} (h : l.Nodup) {i j : Nat} {b : Addr} (h1 : l[i]? = some b) (h2 : l[j]? = some b) : i = j := by
  obtain ⟨i1, e1⟩ := List.getElem?_eq_some_iff.mp h1
  obtain ⟨j1, e2⟩ := List.getElem?_eq_some_iff.mp h2
  have hp := List.pairwise_iff_getElem.mp h
  rcases Nat.lt_trichotomy i j with z | z | z
  · exact absurd (e1.trans e2.symm) (hp i j i1 j1 z)
  · exact z
  · exact absurd (e2.trans e1.symm) (hp j i j1 i1 z)
structure TurnsM (H : Hp) (T : Addr) (bs : List Addr) (ts : List (List Int)) : Prop where
  h1 : H T = some (.lst (bs.map V.ref))
  rows : At IntsL H bs ts
  nd : (T :: bs).Nodup
theorem TurnsM.keep {H H' : Hp} {T : Addr} {bs : List Addr} {ts : List (List Int)} (M : TurnsM H T bs ts) (s : Same H H') : TurnsM H' T bs ts := ⟨s _ _ M.h1, M.rows.keep mo_ints s, M.nd⟩
theorem TurnsM.put {H : Hp} {T b : Addr} {bs : List Addr} {ts : List (List Int)} {i : Nat} {t : List Int} (M : TurnsM H T bs ts) (hb : bs[i]? = some b) : TurnsM (upd H b (.lst (t.map V.int))) T bs (ts.set i t) := by
  have bm : b ∈ bs := List.mem_of_getElem? hb
  obtain ⟨n1, n2⟩ := List.nodup_cons.mp M.nd
  have e1 : T ≠ b := fun z => n1 (by rw [z]; exact bm)
  refine ⟨by rw [upd_ne e1]; exact M.h1, ⟨by rw [List.length_set]; exact M.rows.1, fun k c x q1 q2 => ?_⟩, M.nd⟩
  by_cases hk : i = k
  · subst hk
    rw [hb] at q1
    cases q1
    have hl : i < ts.length := by rw [← M.rows.1]; exact (List.getElem?_eq_some_iff.mp hb).1
    rw [List.getElem?_set_self hl] at q2
    cases q2
    exact upd_same
  · rw [List.getElem?_set_ne hk] at q2
    have ne : c ≠ b := fun z => hk (nd_at n2 hb (by rw [q1, z]))
    show upd H b _ c = _
    rw [upd_ne ne]
    exact M.rows.2 k c x q1 q2
noncomputable def endsL (hs : List Nat) (i : Nat) : List Int := ((List.range hs.length).filter fun e => decide (hs[e]? = some i)).map (fun e : Nat => (e : Int))
theorem endsL_snoc (hs : List Nat) (p i : Nat) : endsL (hs ++ [p]) i = if p = i then endsL hs i ++ [(hs.length : Int)] else endsL hs i := by
  unfold endsL
  rw [List.length_append, List.length_singleton, List.range_succ, List.filter_append, List.map_append]
  have e1 : (List.range hs.length).filter (fun e => decide ((hs ++ [p])[e]? = some i)) = (List.range hs.length).filter fun e => decide (hs[e]? = some i) :=
    List.filter_congr fun x hx => by rw [List.getElem?_append_left (List.mem_range.mp hx)]
  have e2 : (hs ++ [p])[hs.length]? = some p := by simp
  rw [e1]
  by_cases h : p = i
  · rw [if_pos h, List.filter_cons_of_pos (by rw [e2, h]; simp)]; rfl
  · rw [if_neg h, List.filter_cons_of_neg (by rw [e2]; simpa using h)]; simp
theorem mem_endsL {hs : List Nat} {i : Nat} {x : Int} : x ∈ endsL hs i ↔ 0 ≤ x ∧ hs[x.toNat]? = some i := by
  unfold endsL
  rw [List.mem_map]
  constructor
  · rintro ⟨e, he, rfl⟩
    rw [List.mem_filter] at he
    exact ⟨by omega, by simpa using he.2⟩
  · rintro ⟨h0, h1⟩
    refine ⟨x.toNat, List.mem_filter.mpr ⟨List.mem_range.mpr (List.getElem?_eq_some_iff.mp h1).1, by simpa using h1⟩, by omega⟩
theorem endsL_lt (hs : List Nat) (i : Nat) : (endsL hs i).Pairwise (· < ·) := by
  unfold endsL
  rw [List.pairwise_map]
  refine List.Pairwise.imp (fun h => by omega) (List.Pairwise.filter _ (List.pairwise_lt_range))
theorem endsL_len (hs : List Nat) (i : Nat) : (endsL hs i).length ≤ hs.length := by
  unfold endsL
  rw [List.length_map]
  exact Nat.le_trans (List.length_filter_le _ _) (by simp)
theorem ends_step (hs : List Nat) {p n : Nat} (hp : p < n) : (List.range n).map (endsL (hs ++ [p])) = ((List.range n).map (endsL hs)).set p (endsL hs p ++ [(hs.length : Int)]) := by
  refine List.ext_getElem? fun k => ?_
  by_cases hk : p = k
  · subst hk
    rw [List.getElem?_set_self (by simpa using hp), List.getElem?_map, List.getElem?_range hp]
    show some _ = _
    rw [endsL_snoc, if_pos rfl]
  · rw [List.getElem?_set_ne hk, List.getElem?_map, List.getElem?_map]
    rcases Nat.lt_or_ge k n with h | h
    · rw [List.getElem?_range h]
      show some _ = some _
      rw [endsL_snoc, if_neg hk]
    · rw [List.getElem?_eq_none (by simpa using h)]
      rfl
theorem sorted_eq : ∀ {l m : List Int}, l.Pairwise (· ≤ ·) → m.Pairwise (· < ·) → l.Perm m → l = m
  | [], m, _, _, p => (List.nil_perm.mp p).symm
  | a :: l, [], _, _, p => by have := p.length_eq; simp at this
  | a :: l, b :: m, h1, h2, p => by
    obtain ⟨a1, a2⟩ := List.pairwise_cons.mp h1
    obtain ⟨b1, b2⟩ := List.pairwise_cons.mp h2
    have e : a = b := by
      rcases List.mem_cons.mp (p.mem_iff.mp (List.mem_cons_self ..) : a ∈ b :: m) with z | z
      · exact z
      · have hb := b1 a z
        rcases List.mem_cons.mp (p.mem_iff.mpr (List.mem_cons_self ..) : b ∈ a :: l) with y | y
        · exact y.symm
        · have := a1 b y; omega
    subst e
    rw [sorted_eq a2 b2 ((List.perm_cons a).mp p)]
noncomputable def hm0 (rs : List Rope) : List Nat := rs.flatMap fun r => [r.1, r.2.1]
noncomputable def hm (rs : List Rope) : List Nat := hm0 rs ++ [0, 1]
theorem hm0_len : ∀ rs : List Rope, (hm0 rs).length = 2 * rs.length
  | [] => rfl
  | r :: rs => by show (r.1 :: r.2.1 :: hm0 rs).length = _; simp [hm0_len rs]; omega
theorem hm_len (rs : List Rope) : (hm rs).length = 2 * rs.length + 2 := by unfold hm; rw [List.length_append, hm0_len]; rfl
theorem hm0_snoc (rs : List Rope) (r : Rope) : hm0 (rs ++ [r]) = hm0 rs ++ [r.1] ++ [r.2.1] := by unfold hm0; simp
structure NetW (n : Nat) (rs : List Rope) (ts : List (List Int)) : Prop where
  m1 : 1 ≤ rs.length
  m14 : rs.length ≤ 14
  n2 : 2 ≤ n
  n15 : n ≤ 15
  len : ts.length = n
  tn : Turns (2 * rs.length + 2) ts
  ne : ∀ t ∈ ts, t ≠ []
  ease : ∀ r ∈ rs, EaseK r.2.2 ∧ r.1 < n ∧ r.2.1 < n
  home : ∀ (p : Nat) (t : List Int), ts[p]? = some t → ∀ x : Int, x ∈ t → (hm rs)[x.toNat]? = some p
  hang : ∀ S : Nat → Prop, S 0 → (∀ r ∈ rs, (S r.1 ↔ S r.2.1)) → ∀ p, p < n → S p
  flat : (n : Int) - rs.length - 1 + (landsF (nxt ts) (2 * rs.length + 2)).length = 2
theorem flat_sub {ts : List (List Int)} {t : List Int} (h : t ∈ ts) : t.length ≤ ts.flatten.length := by
  obtain ⟨A, B, rfl⟩ := List.append_of_mem h
  simp; omega
theorem NetW.tlen {n : Nat} {rs : List Rope} {ts : List (List Int)} (k : NetW n rs ts) {t : List Int} (h : t ∈ ts) : t.length ≤ 30 := by
  have := flat_sub h
  rw [k.tn.len] at this
  have := k.m14
  omega
theorem nd_sub {ts : List (List Int)} {t : List Int} (nd : ts.flatten.Nodup) (h : t ∈ ts) : t.Nodup := by
  obtain ⟨A, B, rfl⟩ := List.append_of_mem h
  rw [List.flatten_append, List.flatten_cons, List.nodup_append, List.nodup_append] at nd
  exact nd.2.1.1
theorem NetW.perm {n : Nat} {rs : List Rope} {ts : List (List Int)} (k : NetW n rs ts) {p : Nat} {t : List Int} (h : ts[p]? = some t) : t.Perm (endsL (hm rs) p) := by
  have tm := List.mem_of_getElem? h
  refine (List.perm_ext_iff_of_nodup (nd_sub k.tn.nd tm) ((endsL_lt _ _).imp fun h => by omega)).mpr fun x => ?_
  rw [mem_endsL]
  constructor
  · intro hx
    exact ⟨((k.tn.mem x).mp (List.mem_flatten.mpr ⟨t, tm, hx⟩)).1, k.home p t h x hx⟩
  · rintro ⟨h0, h1⟩
    have hl := (List.getElem?_eq_some_iff.mp h1).1
    rw [hm_len] at hl
    obtain ⟨t', ht', hx⟩ := List.mem_flatten.mp ((k.tn.mem x).mpr ⟨h0, by omega⟩)
    obtain ⟨j, hj, e⟩ := List.getElem_of_mem ht'
    have hj2 : ts[j]? = some t' := by rw [List.getElem?_eq_getElem hj, e]
    have := k.home j t' hj2 x hx
    rw [h1] at this
    obtain rfl : p = j := Option.some.inj this
    rw [h] at hj2
    cases hj2
    exact hx
section
variable {P : Program} {w : World} {K : PySem.W.Frag} {mg : Str → Option Value} {base : Heap} {f g h f1 f2 f3 f4 f5 f6 : Addr} {fd gd hd d1 d2 d3 d4 d5 d6 : FuncData}
inductive SpEndsR (vs : List V) (H : Hp) (Q : VK) : Prop
  | mk (n : Nat) (a : Addr) (rs : List Rope) (h_0 : vs = [.int (n : Int), .ref a]) (h_1 : 2 ≤ n) (h_2 : n ≤ 100) (h_3 : rs.length ≤ 100) (h_4 : TupR RopeR H a rs) (h_5 : (∀ r ∈ rs, r.1 < n ∧ r.2.1 < n)) (h_6 : ∀ p bs H', Same H H' → TurnsM H' p bs ((List.range n).map (endsL (hm rs))) → Q (.ref p) H') : SpEndsR vs H Q
noncomputable def spEnds : Sp := fun vs H Q _ => SpEndsR vs H Q
theorem scEn : FnScope ["places", "ropes", "ends", "k", "rope", "outer"] ["places", "ropes"] (defScope s_ends_at) := ⟨rfl, rfl, rfl, by decide +kernel, rfl, by decide +kernel, by decide +kernel⟩
theorem ndPl : (["place"] : List Str).Nodup := by decide +kernel
theorem ok_ends (F : Fun K "ends_at" "ends_at" s_ends_at f fd) (ml : mg "len" = none) (mr : mg "range" = none) (me : mg "enumerate" = none) : FnOk P w K mg base CX0 1 f fd ["places", "ropes"] spEnds := by
  refine F.ok scEn (fun vs H Q E h => ?_) (fun cdv A outer s H vs Q E hr h => ?_)
  · obtain ⟨n, a, rs, rfl, _⟩ := h
    rfl
  obtain ⟨n, a, rs, rfl, n2, n100, hm100, ⟨bs, ha, hB⟩, hrs, q⟩ := h
  refine ⟨_, pss_cons (ps_setComp (i := 2) scEn.nd rfl (Or.inl rfl) (Nc := ["place"]) (cap := []) (g := gName 0) (te := tLst tNil) rfl (pi_range1 (by rfl) mr (pa_cons (pv 0) pa_nil))
      (comp_mk rfl rfl (by decide +kernel) (by decide +kernel) (List.forall_mem_nil _) rfl (List.forall_mem_nil _)) (fun C fp pins s' H' => pg_name (i := 0) ndPl rfl (Or.inl rfl)) (fun C fp pins s' H' => pe_lst pa_nil))
    (pss_cons (ps_for PassesOwn.never rfl (pi_enum (by rfl) me (pa_cons (pv 1) pa_nil)) (pgTup (n := 2) (K := K) rfl (pgs_cons (pg_name (i := 3) scEn.nd rfl (Or.inl rfl)) (pgs_cons (pg_name (i := 4) scEn.nd rfl (Or.inl rfl)) pgs_nil)))
      (pss_cons (ps_expr (pe_bmK K PySem.F.plainAttrs_list PySem.F.slot_list_append PySem.F.type_list_append mt_append (pe_ix (ixL (K := K)) (pv 2) (pe_ix (ixT (K := K)) (pv 4) pe_int (fun _ _ => rfl)) (fun _ _ => rfl)) (pa_cons (pe_op op_mul pe_int (pv 3)) pa_nil)))
        (pss_one (ps_expr (pe_bmK K PySem.F.plainAttrs_list PySem.F.slot_list_append PySem.F.type_list_append mt_append (pe_ix (ixL (K := K)) (pv 2) (pe_ix (ixT (K := K)) (pv 4) pe_int (fun _ _ => rfl)) (fun _ _ => rfl)) (pa_cons (pe_op op_add (pe_op op_mul pe_int (pv 3)) pe_int) pa_nil))))))
    (pss_cons (ps_set (i := 5) scEn.nd rfl (Or.inl rfl) (pe_callB (callLen (K := K)) (by rfl) ml bt_len (pa_cons (pv 1) pa_nil)))
    (pss_cons (ps_expr (pe_bmK K PySem.F.plainAttrs_list PySem.F.slot_list_append PySem.F.type_list_append mt_append (pe_ix (ixL (K := K)) (pv 2) pe_int (fun _ _ => rfl)) (pa_cons (pe_op op_mul pe_int (pv 5)) pa_nil)))
    (pss_cons (ps_expr (pe_bmK K PySem.F.plainAttrs_list PySem.F.slot_list_append PySem.F.type_list_append mt_append (pe_ix (ixL (K := K)) (pv 2) pe_int (fun _ _ => rfl)) (pa_cons (pe_op op_add (pe_op op_mul pe_int (pv 5)) pe_int) pa_nil)))
    (pss_one (ps_ret (pv 2))))))), ?_⟩
  refine ⟨_, rfl, (n : Int), rfl, by omega, by omega, fun acc hacc => ?_⟩
  rw [show ((n : Nat) : Int).toNat = n by omega]
  refine comp_run run_range (by omega) hacc (fun i ys σ hp => ∃ ds : List Addr, ys = ds.map V.ref ∧ At IntsL hp ds (List.replicate i []) ∧ ds.Nodup ∧ (∀ d ∈ ds, H d = none) ∧ ∃ u, σ = [u]) ⟨[], rfl, At.nil, by simp, by simp, none, rfl⟩ ?_ ?_
  · rintro i ys σ H2 x H3 hi sm hacc2 ⟨ds, rfl, hD, nd, fr, u, rfl⟩ ⟨rfl, rfl⟩ Cc hC
    refine ⟨by show 0 ≤ sizeLine; decide, fun l hl => ?_⟩
    have s1 := same_new hl (.lst [])
    have lacc : l ≠ acc := fun z => by rw [z, hacc2] at hl; cases hl
    refine hC _ _ _ s1 ⟨ds ++ [l], by simp, ?_, ?_, ?_, _, rfl⟩
    · rw [List.replicate_succ']
      exact (hD.keep mo_ints (del_mono acc s1)).snoc (show IntsL _ l [] from by unfold IntsL; rw [del_ne lacc]; exact upd_same)
    · rw [List.nodup_append]
      refine ⟨nd, by simp, fun x hx y hy z => ?_⟩
      rw [List.mem_singleton] at hy
      subst hy
      subst z
      obtain ⟨k, hk, ek⟩ := List.getElem_of_mem hx
      have hl2 : k < (List.replicate i ([] : List Int)).length := by rw [← hD.1]; exact hk
      have h1 := hD.2 k x _ (by rw [List.getElem?_eq_getElem hk, ek]) (List.getElem?_eq_getElem hl2)
      rw [del_sub _ _ _ _ h1] at hl; cases hl
    · intro d hd'
      rcases List.mem_append.mp hd' with h' | h'
      · exact fr d h'
      · rw [List.mem_singleton] at h'; rw [h']; exact sm.free hl
  rintro ys σ1 H2 s2 hacc2 hl2 ⟨ds, rfl, hD, nd, fr, u, rfl⟩
  have e0 : (List.range n).map (endsL (hm0 [])) = List.replicate n [] := by
    refine List.ext_getElem (by simp) fun i h1 h2 => ?_
    simp [endsL, hm0]
  have M0 : TurnsM H2 acc ds ((List.range n).map (endsL (hm0 []))) := by
    rw [e0]
    refine ⟨hacc2, hD.keep mo_ints (del_sub H2 acc), List.nodup_cons.mpr ⟨fun z => ?_, nd⟩⟩
    obtain ⟨k, hk, ek⟩ := List.getElem_of_mem z
    have hl2 : k < (List.replicate n ([] : List Int)).length := by rw [← hD.1]; exact hk
    have h1 := hD.2 k acc _ (by rw [List.getElem?_eq_getElem hk, ek]) (List.getElem?_eq_getElem hl2)
    unfold IntsL at h1
    rw [del_self] at h1; cases h1
  have far : ∀ {H3 : Hp} {b : Addr} {o : HO}, Same H H3 → b ∈ ds → Same H (upd H3 b o) := fun s hb => s.up (fr _ hb) _
  have mul2 : ∀ x : Int, CMul 2 x := fun x => .inl ⟨by decide, by decide⟩
  -- one end more
  have one : ∀ {H3 : Hp} {hs : List Nat} {p : Nat} (z : Int), z = hs.length → p < n → hs.length ≤ 1000 → TurnsM H3 acc ds ((List.range n).map (endsL hs)) → ∃ b, atI (ds.map V.ref) (p : Int) = some (.ref b) ∧ b ∈ ds ∧ H3 b = some (.lst ((endsL hs p).map V.int)) ∧ ((endsL hs p).map V.int).length < sizeLine ∧
      TurnsM (upd H3 b (.lst ((endsL hs p).map V.int ++ [.int z]))) acc ds ((List.range n).map (endsL (hs ++ [p]))) := by
    intro H3 hs p z ez hp hl M
    subst ez
    obtain ⟨b, hb, hB⟩ := M.rows.get (show ((List.range n).map (endsL hs))[p]? = some (endsL hs p) by rw [List.getElem?_map, List.getElem?_range hp]; rfl)
    refine ⟨b, atI_nat (ref_at hb), List.mem_of_getElem? hb, hB, ?_, ?_⟩
    · rw [List.length_map]; have := endsL_len hs p; exact szl (by omega)
    · rw [ends_step hs hp]
      have := M.put (t := endsL hs p ++ [(hs.length : Int)]) hb
      rw [List.map_append] at this
      exact this
  try dsimp only
  try refine name_goH ?_
  first | refine seq_hide fun UL1 hUL1 => ?_ | refine nx_hide fun UL1 hUL1 => ?_
  refine ⟨_, rfl, a, _, rfl, s2 _ _ ha, ?_⟩
  refine for_enum (xs := bs.map V.ref) (fun i σ H3 => ∃ u v, σ = [some (.int n), some (.ref a), some (.ref acc), u, v, none] ∧ Same H H3 ∧ TurnsM H3 acc ds ((List.range n).map (endsL (hm0 (rs.take i))))) ⟨none, none, rfl, s2, M0⟩ (fun i σ H3 _ ⟨_, _, _, s3, _⟩ => s3 _ _ ha) ?_ ?_
  · rintro i x σ H3 p hx ⟨u1, u2, rfl, s3, M⟩ hp
    obtain ⟨c, r, rfl, _, hy, e, hc, he⟩ := hB.ref hx
    obtain ⟨r1, r2⟩ := hrs r (List.mem_of_getElem? hy)
    have sp := same_new hp (.tup [.int i, .ref c])
    have s4 := s3.trans sp
    have hi : i < rs.length := (List.getElem?_eq_some_iff.mp hy).1
    have le : (hm0 (rs.take i)).length = 2 * i := by rw [hm0_len, List.length_take]; omega
    obtain ⟨b1, g1, g2, g3, g4, M1⟩ := one (2 * (i : Int)) (by rw [le]; push_cast; rfl) r1 (by omega) (M.keep sp)
    obtain ⟨b2, k1, k2, k3, k4, M2⟩ := one (2 * (i : Int) + 1) (by rw [List.length_append, le]; simp) r2 (by rw [List.length_append, le]; simp; omega) M1
    refine ⟨p, _, rfl, SqT.of upd_same, rfl, _, _, rfl, _, _, rfl, rfl, ?_⟩
    refine ⟨_, rfl, _, rfl, c, _, _, _, rfl, rfl, SqT.of (s4 _ _ hc), t3_0 _ _ _, acc, _, _, _, rfl, rfl, SqL.of (M.keep sp).h1, g1, .inl ⟨rfl, _, SqL.of g3⟩, _, rfl, _, _, rfl, rfl, mul2 _, b1, _, _, rfl, rfl, g3, g4, ?_⟩
    refine ⟨_, rfl, _, rfl, c, _, _, _, rfl, rfl, SqT.of (far s4 g2 _ _ hc), t3_1 _ _ _, acc, _, _, _, rfl, rfl, SqL.of M1.h1, k1, .inl ⟨rfl, _, SqL.of k3⟩, _, rfl, _, _, rfl, rfl, mul2 _, _, _, rfl, rfl, b2, _, _, rfl, rfl, k3, k4, ?_⟩
    refine ⟨_, _, rfl, far (far s4 g2) k2, ?_⟩
    rw [take_snoc hy, hm0_snoc]
    exact M2
  · rintro σ H3 ⟨u1, u2, rfl, s3, M⟩
    subst hUL1
    rw [List.length_map, hB.1, List.take_length] at M
    have le : (hm0 rs).length = 2 * rs.length := hm0_len rs
    obtain ⟨b1, g1, g2, g3, g4, M1⟩ := one (p := 0) (2 * ((bs.map V.ref).length : Int)) (by rw [le, List.length_map, hB.1]; push_cast; rfl) (by omega) (by omega) M
    obtain ⟨b2, k1, k2, k3, k4, M2⟩ := one (p := 1) (2 * ((bs.map V.ref).length : Int) + 1) (by rw [List.length_append, le, List.length_map, hB.1]; simp) (by omega) (by rw [List.length_append, le]; simp; omega) M1
    refine ⟨_, rfl, a, _, rfl, .inr (SqT.of (s3 _ _ ha)), ?_⟩
    refine ⟨_, rfl, acc, _, _, _, rfl, rfl, SqL.of M.h1, g1, .inl ⟨rfl, _, SqL.of g3⟩, _, rfl, _, _, rfl, rfl, mul2 _, b1, _, _, rfl, rfl, g3, g4, ?_⟩
    refine ⟨_, rfl, acc, _, _, _, rfl, rfl, SqL.of M1.h1, k1, .inl ⟨rfl, _, SqL.of k3⟩, _, rfl, _, _, rfl, rfl, mul2 _, _, _, rfl, rfl, b2, _, _, rfl, rfl, k3, k4, ?_⟩
    refine ⟨_, rfl, q acc ds _ (far (far s3 g2) k2) ?_⟩
    have : hm rs = hm0 rs ++ [0] ++ [1] := by unfold hm; simp
    rw [this]
    exact M2
theorem bt_sorted : bootBuiltins "sorted" = some (.builtin "sorted") := by decide +kernel
theorem mo_tt {H H' : Hp} {a : Addr} {ts : List (List Int)} (s : Same H H') (h : TupR IntsT H a ts) : TupR IntsT H' a ts := mo_tup (R := IntsT) (fun s h => mo_intsT s h) s h
inductive SpTurnsR (vs : List V) (H : Hp) (Q : VK) : Prop
  | mk (n : Nat) (a b : Addr) (rs : List Rope) (ts : List (List Int)) (h_0 : vs = [.int (n : Int), .ref a, .ref b]) (h_1 : NetW n rs ts) (h_2 : TupR RopeR H a rs) (h_3 : TupR IntsT H b ts) (h_4 : ∀ H', Same H H' → Q .non H') : SpTurnsR vs H Q
noncomputable def spTurns : Sp := fun vs H Q _ => SpTurnsR vs H Q
theorem scTu : FnScope ["places", "ropes", "turns", "place", "ends", "turn"] ["places", "ropes", "turns"] (defScope s_check_turns) := ⟨rfl, rfl, rfl, by decide +kernel, rfl, by decide +kernel, by decide +kernel⟩
theorem ok_turns (F : Fun K "check_turns" "check_turns" s_check_turns f fd) (G : FnOk P w K mg base CX0 1 g gd ["places", "ropes"] spEnds) (bG : Binds K gd ["places", "ropes"] []) (kG : PySem.W.keepIn K (.ref g) = true) (mG : mg "ends_at" = some (.ref g)) (ml : mg "len" = none) (me : mg "enumerate" = none) (mso : mg "sorted" = none) : FnOk P w K mg base CX0 2 f fd ["places", "ropes", "turns"] spTurns := by
  refine F.ok scTu (fun vs H Q E h => ?_) (fun cdv A outer s H vs Q E hr h => ?_)
  · obtain ⟨n, a, b, rs, ts, rfl, _⟩ := h
    rfl
  obtain ⟨n, a, b, rs, ts, rfl, k, hR, ⟨bs, hb, hB⟩, q⟩ := h
  have hu := hu_of hr
  refine ⟨_, pss_cons (ps_for PassesOwn.never rfl (pi_enumL (by rfl) me (pa_cons (pe_call G hr (by rfl) mG kG bG .nil pass0 (pa_cons (pv 0) (pa_cons (pv 1) pa_nil))) pa_nil)) (pgTup (n := 2) (K := K) rfl (pgs_cons (pg_name (i := 3) scTu.nd rfl (Or.inl rfl)) (pgs_cons (pg_name (i := 4) scTu.nd rfl (Or.inl rfl)) pgs_nil)))
      (pss_cons (ps_set (i := 5) scTu.nd rfl (Or.inl rfl) (pe_ifExp (pt_cmpR op_lt (pv 3) (pe_callB (callLen (K := K)) (by rfl) ml bt_len (pa_cons (pv 2) pa_nil)) (nomark _)) (pe_ix (ixT (K := K)) (pv 2) (pv 3) (fun _ _ => rfl)) (pe_tup pa_nil)))
        (pss_one (ps_if (pt_cmpR (op_ne_li hr.units) (pe_callB call_sortT (by rfl) mso bt_sorted (pa_cons (pv 5) pa_nil)) (pv 4) (nomark _)) pss_never pss_nil))))
    (pss_one (ps_if (pt_cmpR op_gt (pe_callB (callLen (K := K)) (by rfl) ml bt_len (pa_cons (pv 2) pa_nil)) (pv 0) (nomark _)) pss_never pss_nil)), ?_⟩
  have hrs : ∀ r ∈ rs, r.1 < n ∧ r.2.1 < n := fun r hr => (k.ease r hr).2
  have n15 := k.n15
  have m14 := k.m14
  refine ⟨_, rfl, _, rfl, n, a, rs, rfl, k.n2, by omega, by omega, hR, hrs, fun p cs H1 s1 M => ?_⟩
  refine ⟨p, _, rfl, M.h1, ?_⟩
  refine for_enumL (xs := cs.map V.ref) (fun i σ H2 => ∃ u v t, σ = [some (.int n), some (.ref a), some (.ref b), u, v, t] ∧ Same H1 H2) ⟨none, none, none, rfl, Same.refl _⟩ (fun i σ H2 _ ⟨_, _, _, _, s2⟩ => s2 _ _ M.h1) ?_ ?_
  · rintro i x σ H2 p2 hx ⟨u, v, t0, rfl, s2⟩ hp2
    obtain ⟨c, es, rfl, hc, hy, hE⟩ := M.rows.ref hx
    have hi : i < n := by simpa using (List.getElem?_eq_some_iff.mp hy).1
    rw [List.getElem?_map, List.getElem?_range hi] at hy
    cases hy
    have hi2 : i < ts.length := by rw [k.len]; exact hi
    have ht : ts[i]? = some ts[i] := List.getElem?_eq_getElem hi2
    obtain ⟨tb, htb, hT⟩ := hB.get ht
    have pm := k.perm ht
    have tl := k.tlen (List.mem_of_getElem? ht)
    generalize ts[i] = t at ht hT pm tl
    have s3 := s2.trans (same_new hp2 (.tup [.int i, .ref c]))
    have s03 := s1.trans s3
    refine ⟨p2, _, rfl, SqT.of upd_same, rfl, _, _, rfl, _, _, rfl, rfl, ?_⟩
    generalize upd H2 p2 (.tup [.int i, .ref c]) = H3 at s3 s03
    refine ⟨_, rfl, _, rfl, b, _, rfl, .inr (SqT.of (s03 _ _ hb)), _, _, rfl, rfl, _, rfl, iteDT (by rw [List.length_map, hB.1]; omega) ?_⟩
    refine ⟨_, rfl, _, rfl, b, _, _, _, rfl, rfl, SqT.of (s03 _ _ hb), atI_nat (ref_at htb), ?_⟩
    refine ⟨_, rfl, tb, t, rfl, s03 _ _ hT, by omega, fun l ms hl pm2 srt => ?_⟩
    obtain rfl := sorted_eq srt (endsL_lt (hm rs) i) (pm2.trans pm)
    refine ⟨_, rfl, l, c, endsL (hm rs) i, rfl, rfl, upd_same, same_new hl _ _ _ (s3 _ _ hE), _, rfl, iteF ?_⟩
    exact ⟨_, _, _, rfl, s3.trans (same_new hl _)⟩
  · rintro σ H2 ⟨u, v, t0, rfl, s2⟩
    have s02 := s1.trans s2
    refine ⟨_, rfl, b, _, rfl, .inr (SqT.of (s02 _ _ hb)), _, rfl, _, _, rfl, rfl, _, rfl, iteDF ?_ (q _ s02)⟩
    rw [List.length_map, hB.1, k.len]
    omega
inductive SpCheckedR (vs : List V) (H : Hp) (Q : VK) : Prop
  | mk (n : Nat) (a b : Addr) (rs : List Rope) (ts : List (List Int)) (h_0 : vs = [.int (n : Int), .ref a, .ref b]) (h_1 : NetW n rs ts) (h_2 : TupR RopeR H a rs) (h_3 : TupR IntsT H b ts) (h_4 : ∀ p c H', Same H H' → H' p = some (.tup [.int (n : Int), .ref a, .ref c]) → TupR IntsT H' c (ts.map begL) → Q (.ref p) H') : SpCheckedR vs H Q
noncomputable def spChecked : Sp := fun vs H Q _ => SpCheckedR vs H Q
theorem scCk : FnScope ["places", "ropes", "turns", "k", "rope"] ["places", "ropes", "turns"] (defScope s_checked) := ⟨rfl, rfl, rfl, by decide +kernel, rfl, by decide +kernel, by decide +kernel⟩
theorem ok_checked (F : Fun K "checked" "checked" s_checked f fd) (G1 : FnOk P w K mg base CX0 1 f1 d1 ["places", "ropes"] spChkN) (b1 : Binds K d1 ["places", "ropes"] []) (k1 : PySem.W.keepIn K (.ref f1) = true) (m1 : mg "check_numbers" = some (.ref f1))
    (G2 : FnOk P w K mg base CX0 3 f2 d2 ["places", "number", "rope"] spChkR) (b2 : Binds K d2 ["places", "number", "rope"] []) (k2 : PySem.W.keepIn K (.ref f2) = true) (m2 : mg "check_rope" = some (.ref f2))
    (G3 : FnOk P w K mg base CX0 2 f3 d3 ["places", "ropes", "turns"] spTurns) (b3 : Binds K d3 ["places", "ropes", "turns"] []) (k3 : PySem.W.keepIn K (.ref f3) = true) (m3 : mg "check_turns" = some (.ref f3))
    (G4 : FnOk P w K mg base CX0 2 f4 d4 ["places", "ropes"] spHang) (b4 : Binds K d4 ["places", "ropes"] []) (k4 : PySem.W.keepIn K (.ref f4) = true) (m4 : mg "check_hanging" = some (.ref f4))
    (G5 : FnOk P w K mg base CX0 4 f5 d5 ["places", "ropes", "turns"] spFlat) (b5 : Binds K d5 ["places", "ropes", "turns"] []) (k5 : PySem.W.keepIn K (.ref f5) = true) (m5 : mg "check_flat" = some (.ref f5))
    (G6 : FnOk P w K mg base CX0 2 f6 d6 ["turns"] spTold) (b6 : Binds K d6 ["turns"] []) (k6 : PySem.W.keepIn K (.ref f6) = true) (m6 : mg "told_turns" = some (.ref f6)) (me : mg "enumerate" = none) :
    FnOk P w K mg base CX0 5 f fd ["places", "ropes", "turns"] spChecked := by
  refine F.ok scCk (fun vs H Q E h => ?_) (fun cdv A outer s H vs Q E hr h => ?_)
  · obtain ⟨n, a, b, rs, ts, rfl, _⟩ := h
    rfl
  obtain ⟨n, a, b, rs, ts, rfl, k, hR, hT, q⟩ := h
  refine ⟨_, pss_cons (ps_expr (pe_call G1 (hr.mono (by decide)) (by rfl) m1 k1 b1 .nil pass0 (pa_cons (pv 0) (pa_cons (pv 1) pa_nil))))
    (pss_cons (ps_for PassesOwn.never rfl (pi_enum (by rfl) me (pa_cons (pv 1) pa_nil)) (pgTup (n := 2) (K := K) rfl (pgs_cons (pg_name (i := 3) scCk.nd rfl (Or.inl rfl)) (pgs_cons (pg_name (i := 4) scCk.nd rfl (Or.inl rfl)) pgs_nil)))
      (pss_one (ps_expr (pe_call G2 (hr.mono (by decide)) (by rfl) m2 k2 b2 .nil pass0 (pa_cons (pv 0) (pa_cons (pv 3) (pa_cons (pv 4) pa_nil)))))))
    (pss_cons (ps_expr (pe_call G3 (hr.mono (by decide)) (by rfl) m3 k3 b3 .nil pass0 (pa_cons (pv 0) (pa_cons (pv 1) (pa_cons (pv 2) pa_nil)))))
    (pss_cons (ps_expr (pe_call G4 (hr.mono (by decide)) (by rfl) m4 k4 b4 .nil pass0 (pa_cons (pv 0) (pa_cons (pv 1) pa_nil))))
    (pss_cons (ps_expr (pe_call G5 hr (by rfl) m5 k5 b5 .nil pass0 (pa_cons (pv 0) (pa_cons (pv 1) (pa_cons (pv 2) pa_nil)))))
    (pss_one (ps_ret (pe_tup (pa_cons (pv 0) (pa_cons (pv 1) (pa_cons (pe_call G6 (hr.mono (by decide)) (by rfl) m6 k6 b6 .nil pass0 (pa_cons (pv 2) pa_nil)) pa_nil)))))))))), ?_⟩
  obtain ⟨bs, ha, hB⟩ := hR
  have m1' := k.m1
  have m14 := k.m14
  have n2 := k.n2
  have n15 := k.n15
  refine ⟨_, rfl, _, rfl, (n : Int), a, _, rfl, by omega, by omega, ha, by rw [List.length_map, hB.1]; omega, by rw [List.length_map, hB.1]; omega, ?_⟩
  try dsimp only
  try refine name_goH ?_
  first | refine seq_hide fun UL3 hUL3 => ?_ | refine nx_hide fun UL3 hUL3 => ?_
  refine ⟨_, rfl, a, _, rfl, ha, ?_⟩
  refine for_enum (xs := bs.map V.ref) (fun i σ H2 => ∃ u v, σ = [some (.int n), some (.ref a), some (.ref b), u, v] ∧ Same H H2) ⟨none, none, rfl, Same.refl _⟩ (fun i σ H2 _ ⟨_, _, _, s2⟩ => s2 _ _ ha) ?_ ?_
  · rintro i x σ H2 p2 hx ⟨u, v, rfl, s2⟩ hp2
    obtain ⟨c, r, rfl, hc, hy, hr2⟩ := hB.ref hx
    have s3 := s2.trans (same_new hp2 (.tup [.int i, .ref c]))
    refine ⟨p2, _, rfl, SqT.of upd_same, rfl, _, _, rfl, _, _, rfl, rfl, ?_⟩
    generalize upd H2 p2 (.tup [.int i, .ref c]) = H3 at s3
    obtain ⟨ek, l1, l2⟩ := k.ease r (List.mem_of_getElem? hy)
    exact ⟨_, rfl, _, rfl, _, rfl, n, _, c, r, rfl, mo_rope s3 hr2, l1, l2, ek, fun H4 s4 => ⟨_, _, rfl, s3.trans s4⟩⟩
  · rintro σ H2 ⟨u, v, rfl, s2⟩
    subst hUL3
    refine ⟨_, rfl, _, rfl, _, rfl, n, a, b, rs, ts, rfl, k, ⟨bs, s2 _ _ ha, hB.keep mo_rope s2⟩, mo_tt s2 hT, fun H3 s3 => ?_⟩
    have s03 := s2.trans s3
    refine ⟨_, rfl, _, rfl, n, a, rs, rfl, by omega, by omega, ⟨bs, s03 _ _ ha, hB.keep mo_rope s03⟩, fun r hr => (k.ease r hr).2, k.hang, fun H4 s4 => ?_⟩
    have s04 := s03.trans s4
    refine ⟨_, rfl, _, rfl, _, rfl, (n : Int), a, b, _, 2 * rs.length + 2, ts, rfl, s04 _ _ ha, mo_tt s04 hT, k.tn, by omega, by rw [List.length_map, hB.1]; exact k.flat, fun H5 s5 => ?_⟩
    have s05 := s04.trans s5
    refine ⟨_, rfl, _, rfl, _, rfl, b, ts, rfl, mo_tt s05 hT, by rw [k.len]; omega, fun t ht => ⟨k.ne t ht, by have := k.tlen ht; omega⟩, fun c H6 s6 hc => ⟨by show 3 ≤ sizeLine; decide, fun p hp => ?_⟩⟩
    have sp := same_new hp (.tup [.int (n : Int), .ref a, .ref c])
    exact q p c _ ((s05.trans s6).trans sp) upd_same (mo_tt sp hc)
end
end My
namespace My
open PySem L2 Mth
theorem big_of {i : Int} {n : Nat} (h : i.natAbs < 2 ^ n) (hn : n ≤ 8000) : Big i := Nat.lt_of_lt_of_le h (Nat.pow_le_pow_right (by decide) hn)
noncomputable abbrev Gives (H : Hp) (Q : VK) (t b : Int) : Prop := ∀ p, H p = none → Q (.ref p) (upd H p (.tup [.int (frac t b).1, .int (frac t b).2]))
section
variable {P : Program} {w : World} {K : PySem.W.Frag} {mg : Str → Option Value} {base : Heap} {f g h : Addr} {fd gd hd : FuncData}
theorem abs_gcd {x : Int} {n : Nat} (h : Int.gcd x 0 = n) : (if x < 0 then -x else x) = (n : Int) := by
  rw [← h, Int.gcd_zero_right]
  split <;> omega
theorem scCP : FnScope ["one", "other", "rest"] ["one", "other"] (defScope sCommon) := ⟨rfl, rfl, rfl, by decide +kernel, rfl, by decide +kernel, by decide +kernel⟩
theorem ok_common {f : Addr} {fd : FuncData} (F : Fun K "common_part" "common_part" sCommon f fd) (ma : mg "abs" = none) : FnOk P w K mg base CX0 1 f fd ["one", "other"] spGcd := by
  refine F.ok scCP (fun vs H Q E h => ?_) (fun cdv A outer s H vs Q E hr h => ?_)
  · obtain ⟨a, b, rfl, _⟩ := h
    rfl
  obtain ⟨a, b, rfl, q⟩ := h
  refine ⟨_, pss_cons (ps_while PassesOwn.never (pt_cmpR op_ne (pv 1) pe_int (nomark _))
      (pss_cons (ps_set (i := 2) scCP.nd rfl (Or.inl rfl) (pe_op op_modN (pv 0) (pv 1)))
      (pss_cons (ps_set (i := 0) scCP.nd rfl (Or.inl rfl) (pv 1))
      (pss_one (ps_set (i := 1) scCP.nd rfl (Or.inl rfl) (pv 2))))))
    (pss_one (ps_ret (pe_callB call_abs (by rfl) ma PyProof.Rows.boot_abs (pa_cons (pv 0) pa_nil)))), ?_⟩
  refine while_by (fun σ H2 => ∃ x y r, σ = [some (.int x), some (.int y), r] ∧ H2 = H ∧ Int.gcd x y = Int.gcd a b) (fun σ _ => match σ with | [_, some (.int y), _] => y.natAbs | _ => 0) ⟨a, b, none, rfl, rfl, rfl⟩ ?_ ?_
  · rintro σ H2 ⟨x, y, r, rfl, rfl, g⟩
    refine ⟨_, rfl, rfl, _, rfl, ?_⟩
    by_cases hy : y = 0
    · refine iteNS (iv hy) ?_
      subst hy
      refine ⟨_, rfl, x, rfl, ?_⟩
      rw [abs_gcd g]
      exact q
    · refine iteNN (ivn hy) ?_
      exact ⟨_, rfl, _, rfl, _, _, rfl, rfl, hy, _, rfl, _, rfl, ⟨y, x.fmod y, some (.int (x.fmod y)), rfl, rfl, (gcd_fmod x y).trans g⟩, fmod_lt x y hy⟩
  · rintro σ H2 Q1 Q2 hq ⟨v, e, sc, b, eb, z⟩
    exact ⟨v, e, sc, b, eb, hq _ _ z⟩

noncomputable abbrev ScA (K : PySem.W.Frag) (H : Hp) (a : Addr) (ns : List Int) : Prop := SqL K H a (ns.map V.int) ∧ ns.length ≤ 63
inductive SpCellR (K : PySem.W.Frag) (vs : List V) (H : Hp) (Q : VK) : Prop
  | mk (a : Addr) (ns : List Int) (k : Int) (h_0 : vs = [.ref a, .int k]) (h_1 : ScA K H a ns) (h_2 : 0 ≤ k) (h_3 : ∀ z, Q (.int z) H) : SpCellR K vs H Q
noncomputable def spCell (K : PySem.W.Frag) : Sp := fun vs H Q _ => SpCellR K vs H Q
theorem scCe : FnScope ["_law_script", "_law_k"] ["_law_script", "_law_k"] (defScope s_law_cell_at) := ⟨rfl, rfl, rfl, by decide +kernel, rfl, by decide +kernel, by decide +kernel⟩
theorem ok_cell (F : Fun K "_law_cell_at" "_law_cell_at" s_law_cell_at f fd) (ml : mg "len" = none) : FnOk P w K mg base CX0 1 f fd ["_law_script", "_law_k"] (spCell K) := by
  refine F.ok scCe (fun vs H Q E h => ?_) (fun cdv A outer s H vs Q E hr h => ?_)
  · obtain ⟨a, ns, k, rfl, _⟩ := h
    rfl
  obtain ⟨a, ns, k, rfl, ⟨hS, hl⟩, h0, q⟩ := h
  refine ⟨_, pss_cons (ps_if (pt_cmpR op_lt (pv 1) (pe_callB (callLen (K := K)) (by rfl) ml bt_len (pa_cons (pv 0) pa_nil)) (nomark _)) (pss_one (ps_ret (pe_ix (ixL (K := K)) (pv 0) (pv 1) (fun _ _ => rfl)))) pss_nil)
    (pss_one (ps_ret pe_int)), ?_⟩
  refine ⟨_, rfl, _, rfl, a, _, rfl, .inl hS, _, _, rfl, rfl, _, rfl, ?_⟩
  by_cases hk : k < (((ns.map V.int).length : Nat) : Int)
  · refine iteDT hk ?_
    rw [List.length_map] at hk
    have hk' : k.toNat < ns.length := by omega
    have e : atI (ns.map V.int) ((k.toNat : Nat) : Int) = some (.int ns[k.toNat]) := atI_nat (by rw [List.getElem?_map, List.getElem?_eq_getElem hk']; rfl)
    rw [show ((k.toNat : Nat) : Int) = k by omega] at e
    exact ⟨_, rfl, _, rfl, a, _, _, _, rfl, rfl, hS, e, q _⟩
  · refine iteDF hk ?_
    exact q 0

noncomputable abbrev Dr (z : Int) : Prop := 0 ≤ z ∧ z < 2 ^ 300
inductive SpDrawnR (K : PySem.W.Frag) (vs : List V) (H : Hp) (Q : VK) : Prop
  | mk (a : Addr) (ns : List Int) (k : Int) (h_0 : vs = [.ref a, .int k]) (h_1 : ScA K H a ns) (h_2 : 0 ≤ k) (h_3 : k < 1000) (h_4 : ∀ z H', Same H H' → Dr z → Q (.int z) H') : SpDrawnR K vs H Q
noncomputable def spDrawn (K : PySem.W.Frag) : Sp := fun vs H Q _ => SpDrawnR K vs H Q
theorem scDr : FnScope ["_law_script", "_law_k", "_law_cell", "_law_found"] ["_law_script", "_law_k"] (defScope s_law_drawn) := ⟨rfl, rfl, rfl, by decide +kernel, rfl, by decide +kernel, by decide +kernel⟩
theorem p60 : (10 : Int) ^ ((60 : Int).toNat) = 1000000000000000000000000000000000000000000000000000000000000 := by decide
theorem ok_drawn (F : Fun K "_law_drawn" "_law_drawn" s_law_drawn f fd) (G : FnOk P w K mg base CX0 1 g gd ["_law_script", "_law_k"] (spCell K)) (bG : Binds K gd ["_law_script", "_law_k"] []) (kG : PySem.W.keepIn K (.ref g) = true) (mG : mg "_law_cell_at" = some (.ref g)) (mi : mg "int" = none) :
    FnOk P w K mg base CX0 2 f fd ["_law_script", "_law_k"] (spDrawn K) := by
  refine F.ok scDr (fun vs H Q E h => ?_) (fun cdv A outer s H vs Q E hr h => ?_)
  · obtain ⟨a, ns, k, rfl, _⟩ := h
    rfl
  obtain ⟨a, ns, k, rfl, hS, h0, h1, q⟩ := h
  refine ⟨_, pss_cons (ps_set (i := 2) scDr.nd rfl (Or.inl rfl) (pe_op op_mod (pe_call G hr (by rfl) mG kG bG .nil pass0 (pa_cons (pv 0) (pa_cons (pv 1) pa_nil))) (pe_op op_pow pe_int pe_int)))
    (pss_cons (ps_if (pt_cmpR op_eq (pe_op op_mod (pe_call G hr (by rfl) mG kG bG .nil pass0 (pa_cons (pv 0) (pa_cons pe_int pa_nil))) pe_int) pe_int (nomark _))
      (pss_one (ps_ret (pe_ix (ixL (K := K)) (pe_lst (pa_cons (pv 2) (pa_cons (pe_op op_fdiv (pv 2) pe_int) pa_nil))) (pe_callTy call_int1 (by rfl) mi bt_int (pa_cons (pe_cmpR op_eq (pv 1) pe_int (nomark _)) pa_nil)) (fun _ _ => rfl)))) pss_nil)
    (pss_cons (ps_set (i := 3) scDr.nd rfl (Or.inl rfl) (pe_op op_mod (pe_op op_mul (pe_op op_add (pe_op op_add (pv 2) (pe_op op_mul pe_int (pv 1))) pe_int) pe_int) pe_int))
    (pss_one (ps_ret (pe_op op_add (pe_op op_mul (pv 2) pe_int) (pe_op op_mod (pe_op op_mul (pv 3) pe_int) pe_int)))))), ?_⟩
  refine ⟨_, rfl, _, rfl, a, ns, k, rfl, hS, h0, fun z0 => ?_⟩
  refine ⟨_, _, rfl, rfl, ⟨by decide, by decide, by decide⟩, _, _, rfl, rfl, (show (0 : Int) < 10 ^ ((60 : Int).toNat) by decide), ?_⟩
  (try dsimp only)
  rw [p60]
  have c0 : 0 ≤ z0 % 1000000000000000000000000000000000000000000000000000000000000 := Int.emod_nonneg _ (by decide)
  have c1 : z0 % 1000000000000000000000000000000000000000000000000000000000000 < 1000000000000000000000000000000000000000000000000000000000000 := Int.emod_lt_of_pos _ (by decide)
  generalize z0 % 1000000000000000000000000000000000000000000000000000000000000 = c at c0 c1
  have p300 : (2 : Int) ^ 300 = 2037035976334486086268445688409378161051468393665936250636140449354381299763336706183397376 := by decide
  refine ⟨_, rfl, a, ns, 0, rfl, hS, Int.le_refl 0, fun z1 => ?_⟩
  refine ⟨_, _, rfl, rfl, (show (0 : Int) < 2 by decide), rfl, _, rfl, ?_⟩
  refine ite2 (fun _ => ?_) (fun _ => ?_)
  · refine ⟨_, rfl, _, rfl, _, _, rfl, rfl, ⟨by decide, by decide⟩, by show 2 ≤ sizeLine; decide, fun l hl => ?_⟩
    refine ⟨_, rfl, rfl, .inr ⟨_, rfl, ?_⟩⟩
    have fin : ∀ (j : Int) (v : Int), atI [V.int c, V.int (c / 2)] j = some (.int v) → Dr v → rIxL K (.ref l) (.int j) (upd H l (.lst [.int c, .int (c / 2)])) Q := fun j v e d =>
      ⟨l, _, j, _, rfl, rfl, SqL.of upd_same, e, q v _ (same_new hl _) d⟩
    by_cases hk : k = 0
    · rw [decide_eq_true (iv hk)]
      exact fin 1 (c / 2) at1 ⟨by omega, by rw [p300]; omega⟩
    · rw [decide_eq_false (ivn hk)]
      exact fin 0 c at0 ⟨c0, by rw [p300]; omega⟩
  · refine ⟨_, rfl, _, rfl, _, _, rfl, rfl, .inl ⟨by decide, by decide⟩, _, _, rfl, rfl, _, _, rfl, rfl, _, _, rfl, rfl, .inr ⟨by decide, by decide⟩, _, _, rfl, rfl, (show (0 : Int) < 2147483647 by decide), ?_⟩
    refine ⟨_, rfl, _, _, rfl, rfl, .inr ⟨by decide, by decide⟩, _, rfl, _, _, rfl, rfl, .inr ⟨by decide, by decide⟩, _, _, rfl, rfl, (show (0 : Int) < 2147483647 by decide), _, _, rfl, rfl, ?_⟩
    have d0 : ∀ z : Int, 0 ≤ z % 2147483647 := fun z => Int.emod_nonneg _ (by decide)
    have d1 : ∀ z : Int, z % 2147483647 < 2147483647 := fun z => Int.emod_lt_of_pos _ (by decide)
    refine q _ _ (Same.refl H) ⟨?_, ?_⟩
    · have := d0 ((c + 7919 * k + 1) * 48271 % 2147483647 * 69621)
      omega
    · have := d1 ((c + 7919 * k + 1) * 48271 % 2147483647 * 69621)
      rw [p300]
      omega
inductive SpWholeR (vs : List V) (H : Hp) (Q : VK) : Prop
  | mk (i : Int) (h_0 : vs = [.int i]) (h_1 : Q (.bl true) H) : SpWholeR vs H Q
noncomputable def spWhole : Sp := fun vs H Q _ => SpWholeR vs H Q
theorem scWh : FnScope ["_law_found"] ["_law_found"] (defScope sWhole) := ⟨rfl, rfl, rfl, by decide +kernel, rfl, by decide +kernel, by decide +kernel⟩
theorem ok_whole (F : Fun K "_law_whole" "_law_whole" sWhole f fd) (ms : mg "isinstance" = none) (mi : mg "int" = none) (mb : mg "bool" = none) : FnOk P w K mg base CX0 1 f fd ["_law_found"] spWhole := by
  refine F.ok scWh (fun vs H Q E h => ?_) (fun cdv A outer s H vs Q E hr h => ?_)
  · obtain ⟨i, rfl, _⟩ := h
    rfl
  obtain ⟨i, rfl, q⟩ := h
  refine ⟨_, pss_one (ps_ret (pe_and (pe_callB (call_isi (c := .ty "int") (cv := .type "int") fun _ z => z) (by rfl) ms bt_isinstance (pa_cons (pv 0) (pa_cons (pe_bltn (v := .ty "int") (by rfl) mi bt_int rfl) pa_nil)))
    (pe_one (pe_not (pe_callB (call_isi (c := .ty "bool") (cv := .type "bool") fun _ z => z) (by rfl) ms bt_isinstance (pa_cons (pv 0) (pa_cons (pe_bltn (v := .ty "bool") (by rfl) mb bt_bool rfl) pa_nil))))))), ?_⟩
  refine ⟨_, rfl, _, _, _, rfl, TyOf.int i, kit_self K _, _, rfl, iteT ?_⟩
  exact ⟨_, rfl, _, _, _, rfl, TyOf.int i, kit_int_bool K, _, rfl, q⟩
theorem scCo : FnScope ["_law_one", "_law_other", "_law_rest"] ["_law_one", "_law_other"] (defScope s_law_common) := ⟨rfl, rfl, rfl, by decide +kernel, rfl, by decide +kernel, by decide +kernel⟩
theorem abs_eq (a : Int) : (if a < 0 then -a else a) = (a.natAbs : Int) := by split <;> omega
theorem gcd_abs (a b : Int) : Int.gcd (a.natAbs : Int) (b.natAbs : Int) = Int.gcd a b := by
  unfold Int.gcd
  simp
theorem emod_gcd {x y : Int} (hy : 0 < y) : Int.gcd y (x % y) = Int.gcd x y := by
  have := gcd_fmod x y
  rwa [Int.fmod_eq_emod_of_nonneg x (Int.le_of_lt hy)] at this
theorem ok_lcommon (F : Fun K "_law_common" "_law_common" s_law_common f fd) (ma : mg "abs" = none) : FnOk P w K mg base CX0 1 f fd ["_law_one", "_law_other"] spGcd := by
  refine F.ok scCo (fun vs H Q E h => ?_) (fun cdv A outer s H vs Q E hr h => ?_)
  · obtain ⟨a, b, rfl, _⟩ := h
    rfl
  obtain ⟨a, b, rfl, q⟩ := h
  refine ⟨_, pss_cons (ps_set (i := 0) scCo.nd rfl (Or.inl rfl) (pe_callB call_abs (by rfl) ma bt_abs (pa_cons (pv 0) pa_nil)))
    (pss_cons (ps_set (i := 1) scCo.nd rfl (Or.inl rfl) (pe_callB call_abs (by rfl) ma bt_abs (pa_cons (pv 1) pa_nil)))
    (pss_cons (ps_while PassesOwn.never (pt_cmpR op_gt (pv 1) pe_int (nomark _))
      (pss_cons (ps_set (i := 2) scCo.nd rfl (Or.inl rfl) (pe_op op_mod (pv 0) (pv 1)))
      (pss_cons (ps_set (i := 0) scCo.nd rfl (Or.inl rfl) (pv 1))
      (pss_one (ps_set (i := 1) scCo.nd rfl (Or.inl rfl) (pv 2))))))
    (pss_one (ps_ret (pv 0))))), ?_⟩
  refine ⟨_, rfl, a, rfl, _, rfl, b, rfl, ?_⟩
  rw [abs_eq, abs_eq]
  refine while_by (fun σ H2 => ∃ x y r, σ = [some (.int x), some (.int y), r] ∧ H2 = H ∧ 0 ≤ x ∧ 0 ≤ y ∧ Int.gcd x y = Int.gcd a b) (fun σ _ => match σ with | [_, some (.int y), _] => y.natAbs | _ => 0) ⟨_, _, none, rfl, rfl, by omega, by omega, gcd_abs a b⟩ ?_ ?_
  · rintro σ H2 ⟨x, y, r, rfl, rfl, x0, y0, gg⟩
    refine ⟨_, rfl, _, _, rfl, rfl, _, rfl, ?_⟩
    by_cases hy : 0 < y
    · refine iteDT hy ?_
      have m0 := Int.emod_nonneg x (Int.ne_of_gt hy)
      have m1 := Int.emod_lt_of_pos x hy
      refine ⟨_, rfl, _, rfl, _, _, rfl, rfl, hy, _, rfl, _, rfl, ⟨y, x % y, some (.int (x % y)), rfl, rfl, y0, m0, (emod_gcd hy).trans gg⟩, ?_⟩
      show (x % y).natAbs < y.natAbs
      omega
    · refine iteDF hy ?_
      have e : y = 0 := by omega
      subst e
      refine ⟨_, rfl, ?_⟩
      have := abs_gcd gg
      rw [if_neg (by omega)] at this
      rw [this]
      exact q
  · rintro σ H2 Q1 Q2 hq ⟨v, e, i, j, e1, e2, b, eb, z⟩
    exact ⟨v, e, i, j, e1, e2, b, eb, hq _ _ z⟩
inductive SpLowR (vs : List V) (H : Hp) (Q : VK) : Prop
  | mk (t b : Int) (h_0 : vs = [.int t, .int b]) (h_1 : Big b) (h_2 : b ≠ 0) (h_3 : Gives H Q t b) : SpLowR vs H Q
noncomputable def spLow : Sp := fun vs H Q _ => SpLowR vs H Q
theorem scLo : FnScope ["_law_top", "_law_bottom", "_law_shared"] ["_law_top", "_law_bottom"] (defScope s_law_lowest) := ⟨rfl, rfl, rfl, by decide +kernel, rfl, by decide +kernel, by decide +kernel⟩
theorem ok_lowest (F : Fun K "_law_lowest" "_law_lowest" s_law_lowest f fd) (G : FnOk P w K mg base CX0 1 g gd ["_law_one", "_law_other"] spGcd) (bG : Binds K gd ["_law_one", "_law_other"] []) (kG : PySem.W.keepIn K (.ref g) = true) (mG : mg "_law_common" = some (.ref g)) :
    FnOk P w K mg base CX0 2 f fd ["_law_top", "_law_bottom"] spLow := by
  refine F.ok scLo (fun vs H Q E h => ?_) (fun cdv A outer s H vs Q E hr h => ?_)
  · obtain ⟨a, b, rfl, _⟩ := h
    rfl
  obtain ⟨t, b, rfl, hb, hz, h1⟩ := h
  refine ⟨_, pss_cons (ps_set (i := 2) scLo.nd rfl (Or.inl rfl) (pe_call G hr (by rfl) mG kG bG .nil pass0 (pa_cons (pv 0) (pa_cons (pv 1) pa_nil))))
    (pss_cons (ps_if (pt_cmpR op_lt (pv 1) pe_int (nomark _)) (pss_one (ps_set (i := 2) scLo.nd rfl (Or.inl rfl) (pe_un un_neg (pv 2)))) pss_nil)
    (pss_one (ps_ret (pe_tup (pa_cons (pe_op op_fdivB (pv 0) (pv 2)) (pa_cons (pe_op op_fdivB (pv 1) (pv 2)) pa_nil)))))), ?_⟩
  refine ⟨_, rfl, _, rfl, t, b, rfl, ?_⟩
  refine ⟨_, rfl, _, _, rfl, rfl, _, rfl, ?_⟩
  have fin : ∀ part, part = Mth.part t b → tRet (tTup (tCons (tOp (rI CDivB fun i j => V.int (i.fdiv j)) (tVar 0) (tVar 2)) (tCons (tOp (rI CDivB fun i j => V.int (i.fdiv j)) (tVar 1) (tVar 2)) tNil)))
      { nx := fun _ H' => Q .non H', rt := Q } [some (.int t), some (.int b), some (.int part)] H := by
    rintro part rfl
    have hp : CDivB t (Mth.part t b) := ⟨part_ne t b hz, Nat.lt_of_le_of_lt (part_le t b hz) hb⟩
    exact ⟨_, rfl, _, rfl, _, _, rfl, rfl, hp, _, rfl, _, rfl, _, _, rfl, rfl, hp, by show 2 ≤ sizeLine; decide, h1⟩
  by_cases hn : b < 0
  · refine iteDT hn ?_
    exact ⟨_, rfl, _, rfl, fin _ (by unfold Mth.part; rw [if_pos hn])⟩
  · refine iteDF hn ?_
    exact fin _ (by unfold Mth.part; rw [if_neg hn])
noncomputable def AlkD (H : Hp) : Nat → V → V → Prop
  | 0, v, u => ∃ i : Int, v = .int i ∧ u = .int i
  | n+1, v, u => (∃ i : Int, v = .int i ∧ u = .int i) ∨ ∃ (p q : Addr) (xs ys : List V), v = .ref p ∧ u = .ref q ∧ H p = some (.tup xs) ∧ H q = some (.tup ys) ∧ xs.length = ys.length ∧ xs.length ≤ 1000 ∧ ∀ (i : Nat) (x y : V), xs[i]? = some x → ys[i]? = some y → AlkD H n x y
theorem AlkD.keep {H H' : Hp} (s : Same H H') : ∀ {n : Nat} {v u : V}, AlkD H n v u → AlkD H' n v u
  | 0, _, _, h => h
  | n+1, v, u, h => by
    rcases h with h | ⟨p, q, xs, ys, e1, e2, hp, hq, l1, l2, hh⟩
    · exact .inl h
    · exact .inr ⟨p, q, xs, ys, e1, e2, s _ _ hp, s _ _ hq, l1, l2, fun i x y a b => (hh i x y a b).keep s⟩
theorem AlkD.up {H : Hp} : ∀ {n : Nat} {v u : V}, AlkD H n v u → AlkD H (n+1) v u
  | 0, _, _, h => .inl h
  | n+1, v, u, h => by
    rcases h with h | ⟨p, q, xs, ys, e1, e2, hp, hq, l1, l2, hh⟩
    · exact .inl h
    · exact .inr ⟨p, q, xs, ys, e1, e2, hp, hq, l1, l2, fun i x y a b => (hh i x y a b).up⟩
inductive SpAlkR (n : Nat) (vs : List V) (H : Hp) (Q : VK) : Prop
  | mk (v u : V) (h_0 : vs = [v, u]) (h_1 : AlkD H n v u) (h_2 : ∀ H', Same H H' → Q (.bl true) H') : SpAlkR n vs H Q
noncomputable def spAlk (n : Nat) : Sp := fun vs H Q _ => SpAlkR n vs H Q
theorem scAl : FnScope ["_law_found", "_law_due"] ["_law_found", "_law_due"] (defScope s_law_alike) := ⟨rfl, rfl, rfl, by decide +kernel, rfl, by decide +kernel, by decide +kernel⟩
theorem ok_alk0 (F : Fun K "_law_alike" "_law_alike" s_law_alike f fd) (G : FnOk P w K mg base CX0 1 g gd ["_law_found"] spWhole) (bG : Binds K gd ["_law_found"] []) (kG : PySem.W.keepIn K (.ref g) = true) (mG : mg "_law_whole" = some (.ref g)) (ms : mg "isinstance" = none) (mt : mg "tuple" = none) :
    FnOk P w K mg base CX0 2 f fd ["_law_found", "_law_due"] (spAlk 0) := by
  refine F.ok scAl (fun vs H Q E h => ?_) (fun cdv A outer s H vs Q E hr h => ?_)
  · obtain ⟨v, u, rfl, _⟩ := h
    rfl
  obtain ⟨v, u, rfl, ⟨i, rfl, rfl⟩, q⟩ := h
  refine ⟨_, pss_cons (ps_if (pt_val (pe_callB (call_isi (c := .ty "tuple") (cv := .type "tuple") fun _ z => z) (by rfl) ms bt_isinstance (pa_cons (pv 1) (pa_cons (pe_bltn (v := .ty "tuple") (by rfl) mt bt_tuple rfl) pa_nil)))) pss_never pss_nil)
    (pss_one (ps_ret (pe_and (pe_call G hr (by rfl) mG kG bG .nil pass0 (pa_cons (pv 0) pa_nil)) (pe_one (pe_cmpR op_eq (pv 0) (pv 1) (nomark _)))))), ?_⟩
  refine ⟨_, rfl, _, _, _, rfl, TyOf.int i, kit_int_tuple K, _, rfl, iteF ?_⟩
  refine ⟨_, rfl, i, rfl, _, rfl, iteT ?_⟩
  refine ⟨_, rfl, _, rfl, rfl, ?_⟩
  rw [show decide (V.int i = V.int i) = true from decide_eq_true rfl]
  exact q _ (Same.refl _)
theorem ndK : (["_law_k", "_law_found", "_law_due"] : List Str).Nodup := by decide +kernel
theorem ok_alkS (n : Nat) (F : Fun K "_law_alike" "_law_alike" s_law_alike f fd) (G0 : FnOk P w K mg base CX0 1 g gd ["_law_found"] spWhole) (bG0 : Binds K gd ["_law_found"] []) (kG0 : PySem.W.keepIn K (.ref g) = true) (mG0 : mg "_law_whole" = some (.ref g))
    (G : FnOk P w K mg base CX0 (n + 2) f fd ["_law_found", "_law_due"] (spAlk n)) (bG : Binds K fd ["_law_found", "_law_due"] []) (mG : mg "_law_alike" = some (.ref f)) (ms : mg "isinstance" = none) (mt : mg "tuple" = none)
    (ml : mg "len" = none) (mr : mg "range" = none) (ma : mg "all" = none) : FnOk P w K mg base CX0 (n + 3) f fd ["_law_found", "_law_due"] (spAlk (n + 1)) := by
  refine F.ok scAl (fun vs H Q E h => ?_) (fun cdv A outer s H vs Q E hr h => ?_)
  · obtain ⟨v, u, rfl, _⟩ := h
    rfl
  obtain ⟨v, u, rfl, hal, k⟩ := h
  refine ⟨_, pss_cons (ps_if (pt_val (pe_callB (call_isi (c := .ty "tuple") (cv := .type "tuple") fun _ z => z) (by rfl) ms bt_isinstance (pa_cons (pv 1) (pa_cons (pe_bltn (v := .ty "tuple") (by rfl) mt bt_tuple rfl) pa_nil))))
      (pss_cons (ps_if (PW.pt (pw_or (pt_not (pt_val (pe_callB (call_isi (c := .ty "tuple") (cv := .type "tuple") fun _ z => z) (by rfl) ms bt_isinstance (pa_cons (pv 0) (pa_cons (pe_bltn (v := .ty "tuple") (by rfl) mt bt_tuple rfl) pa_nil)))))
        (pw_or1 (pt_cmpR op_ne (pe_callB (callLen (K := K)) (by rfl) ml bt_len (pa_cons (pv 0) pa_nil)) (pe_callB (callLen (K := K)) (by rfl) ml bt_len (pa_cons (pv 1) pa_nil)) (nomark _))))) (pss_one (ps_ret pe_bl)) pss_nil)
      (pss_one (ps_ret (pe_callB (call_allB rfl) (by rfl) ma bt_all (pa_cons (pe_comp (Nc := ["_law_k", "_law_found", "_law_due"]) (cap := [(1, 0), (2, 1)]) (g := gName 0) (te := tCall (spAlk n) [] E0 (tCons (tOp (rIxT K) (tVar 1) (tVar 0)) (tCons (tOp (rIxT K) (tVar 2) (tVar 0)) tNil))) rfl (pi_range1 (by rfl) mr (pa_cons (pe_callB (callLen (K := K)) (by rfl) ml bt_len (pa_cons (pv 1) pa_nil)) pa_nil))
        (comp_mk rfl rfl (by decide +kernel) (by decide +kernel) (List.forall_mem_cons.mpr ⟨⟨rfl, rfl⟩, List.forall_mem_cons.mpr ⟨⟨rfl, rfl⟩, List.forall_mem_nil _⟩⟩) rfl
          (List.forall_mem_cons.mpr ⟨⟨_, _, rfl, rfl, rfl, rfl, rfl⟩, List.forall_mem_cons.mpr ⟨⟨_, _, rfl, rfl, rfl, rfl, rfl⟩, List.forall_mem_nil _⟩⟩)) (fun C fp pins s' H' => pg_name (i := 0) ndK rfl (Or.inl rfl)) (fun C fp pins s' H' => pe_call G hr (by rfl) mG F.kp bG .nil pass0 (pa_cons (pe_ix (ixT (K := K)) (pv 1) (pv 0) (fun _ _ => rfl)) (pa_cons (pe_ix (ixT (K := K)) (pv 2) (pv 0) (fun _ _ => rfl)) pa_nil)))) pa_nil))))) pss_nil)
    (pss_one (ps_ret (pe_and (pe_call G0 (hr.mono (by omega)) (by rfl) mG0 kG0 bG0 .nil pass0 (pa_cons (pv 0) pa_nil)) (pe_one (pe_cmpR op_eq (pv 0) (pv 1) (nomark _)))))), ?_⟩
  rcases hal with ⟨i, rfl, rfl⟩ | ⟨p, q, xs, ys, rfl, rfl, hp, hq, l1, l2, hh⟩
  · refine ⟨_, rfl, _, _, _, rfl, TyOf.int i, kit_int_tuple K, _, rfl, iteF ?_⟩
    refine ⟨_, rfl, i, rfl, _, rfl, iteT ?_⟩
    refine ⟨_, rfl, _, rfl, rfl, ?_⟩
    rw [show decide (V.int i = V.int i) = true from decide_eq_true rfl]
    exact k _ (Same.refl _)
  · refine ⟨_, rfl, _, _, _, rfl, TyOf.tup hq, kit_self K _, _, rfl, iteT ?_⟩
    refine ⟨_, rfl, _, _, _, rfl, TyOf.tup hp, kit_self K _, _, rfl, iteF ?_⟩
    refine ⟨_, rfl, p, _, rfl, .inr (SqT.of hp), _, rfl, q, _, rfl, .inr (SqT.of hq), rfl, _, rfl, ?_⟩
    refine iteNS (by rw [l1]) ?_
    refine ⟨_, rfl, q, _, rfl, .inr (SqT.of hq), (ys.length : Int), rfl, by omega, by omega, fun acc hacc => ?_⟩
    rw [show ((ys.length : Nat) : Int).toNat = ys.length by omega]
    refine comp_run run_range (by omega) hacc (fun i zs σ hp => zs = (List.replicate i true).map V.bl ∧ ∃ u, σ = [u, some (.ref p), some (.ref q)]) ⟨rfl, none, rfl⟩ ?_ ?_
    · rintro i zs σ H2 x H3 hi sm hacc2 ⟨rfl, u, rfl⟩ ⟨rfl, rfl⟩ Cc hC
      have g1 : xs[i]? = some (xs[i]'(by omega)) := List.getElem?_eq_getElem (by omega)
      have g2 : ys[i]? = some ys[i] := List.getElem?_eq_getElem hi
      have e1 : atI xs ((0 : Int) + (i : Nat)) = some (xs[i]'(by omega)) := by rw [Int.zero_add]; exact atI_nat g1
      have e2 : atI ys ((0 : Int) + (i : Nat)) = some ys[i] := by rw [Int.zero_add]; exact atI_nat g2
      refine ⟨_, rfl, _, rfl, p, _, _, _, rfl, rfl, SqT.of (sm _ _ hp), e1, _, rfl, _, rfl, q, _, _, _, rfl, rfl, SqT.of (sm _ _ hq), e2, _, _, rfl, (hh i _ _ g1 g2).keep sm, fun H4 s4 => ?_⟩
      refine hC _ _ _ s4 ⟨?_, _, rfl⟩
      rw [List.replicate_succ', List.map_append]
      rfl
    · rintro zs σ H2 s2 ha2 _ ⟨rfl, u, rfl⟩
      refine ⟨acc, List.replicate ys.length true, rfl, SqL.of ha2, ?_⟩
      rw [show (List.replicate ys.length true).all id = true by simp]
      exact k H2 s2
structure EaseS (q : Rat) : Prop where
  k : EaseK q
  n : q.num < 10 ^ 39
  d : (q.den : Int) < 10 ^ 39
inductive SpLEaseR (vs : List V) (H : Hp) (Q : VK) : Prop
  | mk (z : Int) (h_0 : vs = [.int z]) (h_1 : 0 ≤ z) (h_2 : ∀ p H' q, Same H H' → FrR H' p q → EaseS q → Q (.ref p) H') : SpLEaseR vs H Q
noncomputable def spLEase : Sp := fun vs H Q _ => SpLEaseR vs H Q
theorem ease_of {t b : Int} (ht : 0 < t) (ht2 : t < 10 ^ 39) (hb : 0 < b) (hb2 : b < 10 ^ 39) : EaseS ((t : Rat) / (b : Rat)) := by
  have e := frac_rat t b (by omega)
  have l1 := frac_le_l t b (by omega)
  have l2 := frac_le_r t b (by omega)
  have c := frac_cross t b
  have d := frac_pos t b (by omega)
  rw [e] at l1 l2 c d
  dsimp only at l1 l2 c d
  generalize ((t : Rat) / (b : Rat)) = q at l1 l2 c d
  have n0 : 0 < q.num := by
    rcases Int.lt_or_le 0 q.num with h | h
    · exact h
    · have h1 : 0 < t * (q.den : Int) := Int.mul_pos ht d
      have h2 : q.num * b ≤ 0 := Int.mul_nonpos_of_nonpos_of_nonneg h (by omega)
      omega
  exact ⟨⟨n0, by omega, by omega⟩, by omega, by omega⟩
theorem scLE : FnScope ["_law_cell"] ["_law_cell"] (defScope sLEase) := ⟨rfl, rfl, rfl, by decide +kernel, rfl, by decide +kernel, by decide +kernel⟩
theorem ok_lease (F : Fun K "_law_ease" "_law_ease" sLEase f fd) (G : FnOk P w K mg base CX0 2 g gd ["_law_top", "_law_bottom"] spLow) (bG : Binds K gd ["_law_top", "_law_bottom"] []) (kG : PySem.W.keepIn K (.ref g) = true) (mG : mg "_law_lowest" = some (.ref g)) :
    FnOk P w K mg base CX0 3 f fd ["_law_cell"] spLEase := by
  refine F.ok scLE (fun vs H Q E h => ?_) (fun cdv A outer s H vs Q E hr h => ?_)
  · obtain ⟨z, rfl, _⟩ := h
    rfl
  obtain ⟨z, rfl, hz, q⟩ := h
  refine ⟨_, pss_cons (ps_if (pt_cmpR op_eq (pe_op op_mod (pv 0) pe_int) pe_int (nomark _)) (pss_one (ps_ret (pe_tup (pa_cons pe_int (pa_cons pe_int pa_nil))))) pss_nil)
    (pss_cons (ps_if (pt_cmpR op_eq (pe_op op_mod (pv 0) pe_int) pe_int (nomark _))
      (pss_one (ps_ret (pe_call G hr (by rfl) mG kG bG .nil pass0 (pa_cons (pe_op op_add pe_int (pe_op op_mod (pe_op op_fdiv (pv 0) pe_int) (pe_op op_sub (pe_op op_pow pe_int pe_int) pe_int))) (pa_cons (pe_op op_add pe_int (pe_op op_mod (pe_op op_mul (pe_op op_fdiv (pv 0) pe_int) pe_int) (pe_op op_sub (pe_op op_pow pe_int pe_int) pe_int))) pa_nil))))) pss_nil)
    (pss_one (ps_ret (pe_call G hr (by rfl) mG kG bG .nil pass0 (pa_cons (pe_op op_add pe_int (pe_op op_mod (pe_op op_fdiv (pv 0) pe_int) pe_int)) (pa_cons (pe_op op_add pe_int (pe_op op_mod (pe_op op_fdiv (pv 0) pe_int) pe_int)) pa_nil)))))), ?_⟩
  have m4 : (0 : Int) < 4 := by decide
  have d4 : CDiv z 4 := ⟨by decide, by decide⟩
  have gv : ∀ t b : Int, 0 < t → t < 10 ^ 39 → 0 < b → b < 10 ^ 39 → spLow [.int t, .int b] H Q E := by
    intro t b t0 t1 b0 b1
    refine ⟨t, b, rfl, ?_, by omega, fun p hp => q p _ ((t : Rat) / (b : Rat)) (same_new hp _) ?_ (ease_of t0 t1 b0 b1)⟩
    · refine big_of (n := 200) ?_ (by decide)
      have : (10 : Int) ^ 39 < 2 ^ 200 := by decide
      have e2 : ((2 : Int) ^ 200) = ((2 ^ 200 : Nat) : Int) := by decide
      omega
    · unfold FrR
      rw [upd_same, frac_rat t b (by omega)]
  refine ⟨_, rfl, _, _, rfl, rfl, m4, rfl, _, rfl, ?_⟩
  refine ite2 (fun _ => ?_) (fun _ => ?_)
  · refine ⟨by show 2 ≤ sizeLine; decide, fun p hp => ?_⟩
    exact q p _ 1 (same_new hp _) upd_same ⟨⟨by decide, by decide, by decide⟩, by decide, by decide⟩
  refine ⟨_, rfl, _, _, rfl, rfl, m4, rfl, _, rfl, ?_⟩
  refine ite2 (fun _ => ?_) (fun _ => ?_)
  · have p39 : (0 : Int) < 10 ^ ((39 : Int).toNat) - 1 := by decide
    have p40 : (10 : Int) ^ ((39 : Int).toNat) - 1 < 10 ^ 39 := by decide
    refine ⟨_, rfl, _, _, rfl, rfl, d4, _, _, rfl, rfl, ⟨by decide, by decide, by decide⟩, _, _, rfl, rfl, _, _, rfl, rfl, p39, _, _, rfl, rfl, ?_⟩
    refine ⟨_, rfl, _, _, rfl, rfl, ⟨by decide, by decide⟩, _, _, rfl, rfl, .inr ⟨by decide, by decide⟩, _, _, rfl, rfl, ⟨by decide, by decide, by decide⟩, _, _, rfl, rfl, _, _, rfl, rfl, p39, _, _, rfl, rfl, ?_⟩
    generalize (10 : Int) ^ ((39 : Int).toNat) - 1 = m at p39 p40
    have a1 := Int.emod_nonneg (z / 4) (Int.ne_of_gt p39)
    have a2 := Int.emod_lt_of_pos (z / 4) p39
    have b1 := Int.emod_nonneg (z / 32 * 48271) (Int.ne_of_gt p39)
    have b2 := Int.emod_lt_of_pos (z / 32 * 48271) p39
    exact gv _ _ (by omega) (by omega) (by omega) (by omega)
  · refine ⟨_, rfl, _, _, rfl, rfl, d4, _, _, rfl, rfl, (show (0 : Int) < 9 by decide), _, _, rfl, rfl, _, rfl, _, _, rfl, rfl, ⟨by decide, by decide⟩, _, _, rfl, rfl, (show (0 : Int) < 9 by decide), _, _, rfl, rfl, ?_⟩
    have t40 : (10 : Int) < 10 ^ 39 := by decide
    exact gv _ _ (by omega) (by omega) (by omega) (by omega)
end
end My
namespace My
open PySem L2 Mth
noncomputable abbrev natV (hs : List Nat) : List V := hs.map fun x : Nat => V.int (x : Int)
structure GrM (H : Hp) (T h : Addr) (bs : List Addr) (ts : List (List Int)) (hs : List Nat) : Prop where
  tm : TurnsM H T bs ts
  hh : H h = some (.lst (natV hs))
  hn : h ∉ T :: bs
theorem GrM.keep {H H' : Hp} {T h : Addr} {bs : List Addr} {ts : List (List Int)} {hs : List Nat} (M : GrM H T h bs ts hs) (s : Same H H') : GrM H' T h bs ts hs := ⟨M.tm.keep s, s _ _ M.hh, M.hn⟩
noncomputable def Fr (T h : Addr) (bs : List Addr) (H H' : Hp) : Prop := ∀ b o, b ∉ T :: h :: bs → H b = some o → H' b = some o
theorem Fr.refl {T h : Addr} {bs : List Addr} (H : Hp) : Fr T h bs H H := fun _ _ _ e => e
theorem Fr.same {T h : Addr} {bs : List Addr} {H H' : Hp} (s : Same H H') : Fr T h bs H H' := fun b o _ e => s b o e
theorem Fr.trans {T h : Addr} {bs : List Addr} {H H1 H2 : Hp} (a : Fr T h bs H H1) (b : Fr T h bs H1 H2) : Fr T h bs H H2 := fun c o n e => b c o n (a c o n e)
theorem Fr.up {T h : Addr} {bs : List Addr} {H : Hp} {x : Addr} (hx : x ∈ T :: h :: bs) (o : HO) : Fr T h bs H (upd H x o) := fun c u n e => by
  rw [upd_ne (fun z => n (by rw [z]; exact hx))]; exact e
theorem GrM.hne {H : Hp} {T h : Addr} {bs : List Addr} {ts : List (List Int)} {hs : List Nat} (M : GrM H T h bs ts hs) {b : Addr} (hb : b ∈ bs) : h ≠ b := fun z => M.hn (by rw [z]; exact List.mem_cons_of_mem _ hb)
theorem GrM.turn {H : Hp} {T h b : Addr} {bs : List Addr} {ts : List (List Int)} {hs : List Nat} {i : Nat} {t : List Int} (M : GrM H T h bs ts hs) (hb : bs[i]? = some b) : GrM (upd H b (.lst (t.map V.int))) T h bs (ts.set i t) hs :=
  ⟨M.tm.put hb, by rw [upd_ne (M.hne (List.mem_of_getElem? hb))]; exact M.hh, M.hn⟩
theorem GrM.homes {H : Hp} {T h : Addr} {bs : List Addr} {ts : List (List Int)} {hs : List Nat} (M : GrM H T h bs ts hs) (hs' : List Nat) : GrM (upd H h (.lst (natV hs'))) T h bs ts hs' := by
  refine ⟨⟨?_, ⟨M.tm.rows.1, fun i b x e1 e2 => ?_⟩, M.tm.nd⟩, upd_same, M.hn⟩
  · rw [upd_ne (fun z => M.hn (by rw [z]; exact List.mem_cons_self ..))]; exact M.tm.h1
  · show upd H h _ b = _
    rw [upd_ne (Ne.symm (M.hne (List.mem_of_getElem? e1)))]
    exact M.tm.rows.2 i b x e1 e2
theorem GrM.more {H : Hp} {T h l : Addr} {bs : List Addr} {ts : List (List Int)} {hs : List Nat} {u : List Int} (M : GrM H T h bs ts hs) (hl : H l = none) : GrM (upd (upd H l (.lst (u.map V.int))) T (.lst (bs.map V.ref ++ [.ref l]))) T h (bs ++ [l]) (ts ++ [u]) hs := by
  have s1 := same_new hl (.lst (u.map V.int))
  have e1 : (upd H l (.lst (u.map V.int))) l = some (.lst (u.map V.int)) := upd_same
  have M1 := M.keep s1
  generalize upd H l (.lst (u.map V.int)) = H1 at s1 e1 M1
  have lT : l ≠ T := fun z => by rw [z, M.tm.h1] at hl; cases hl
  have lh : h ≠ l := fun z => by rw [← z, M.hh] at hl; cases hl
  have hT : h ≠ T := fun z => M.hn (by rw [z]; exact List.mem_cons_self ..)
  obtain ⟨n1, n2⟩ := List.nodup_cons.mp M.tm.nd
  have lb : l ∉ bs := fun z => by
    obtain ⟨k, hk, ek⟩ := List.getElem_of_mem z
    have hl2 : k < ts.length := by rw [← M.tm.rows.1]; exact hk
    have := M.tm.rows.2 k l ts[k] (by rw [List.getElem?_eq_getElem hk, ek]) (List.getElem?_eq_getElem hl2)
    unfold IntsL at this
    rw [hl] at this; cases this
  refine ⟨⟨by rw [upd_same]; simp, ?_, ?_⟩, by rw [upd_ne hT]; exact M1.hh, ?_⟩
  · have a1 := M1.tm.rows.snoc (b := l) (x := u) e1
    refine ⟨a1.1, fun i b x q1 q2 => ?_⟩
    have := a1.2 i b x q1 q2
    unfold IntsL at this ⊢
    have bT : b ≠ T := fun z => by
      subst z
      rcases List.mem_append.mp (List.mem_of_getElem? q1) with w | w
      · exact n1 w
      · exact lT (List.mem_singleton.mp w).symm
    rw [upd_ne bT]; exact this
  · rw [List.nodup_cons]
    refine ⟨fun z => ?_, ?_⟩
    · rcases List.mem_append.mp z with w | w
      · exact n1 w
      · exact lT (List.mem_singleton.mp w).symm
    · rw [List.nodup_append]
      refine ⟨n2, by simp, fun x hx y hy z => ?_⟩
      rw [List.mem_singleton] at hy
      subst hy; subst z
      exact lb hx
  · intro z
    rcases List.mem_cons.mp z with w | w
    · exact hT w
    · rcases List.mem_append.mp w with w | w
      · exact M.hn (List.mem_cons_of_mem _ w)
      · exact lh (List.mem_singleton.mp w)
theorem nat_at {hs : List Nat} {i p : Nat} (h : hs[i]? = some p) : atI (natV hs) ((i : Nat) : Int) = some (.int (p : Int)) := atI_nat (by rw [List.getElem?_map, h]; rfl)
theorem nat_atI {hs : List Nat} {x : Int} {p : Nat} (h0 : 0 ≤ x) (h : hs[x.toNat]? = some p) : atI (natV hs) x = some (.int (p : Int)) := by
  have := nat_at h
  rwa [show ((x.toNat : Nat) : Int) = x by omega] at this
theorem turn_at {H : Hp} {T : Addr} {bs : List Addr} {ts : List (List Int)} {p : Nat} {t : List Int} (M : TurnsM H T bs ts) (h : ts[p]? = some t) : ∃ b, bs[p]? = some b ∧ b ∈ bs ∧ atI (bs.map V.ref) ((p : Nat) : Int) = some (.ref b) ∧ H b = some (.lst (t.map V.int)) := by
  obtain ⟨b, hb, hB⟩ := M.rows.get h
  exact ⟨b, hb, List.mem_of_getElem? hb, atI_nat (ref_at hb), hB⟩
theorem first_at {x : Int} : ∀ {t : List Int}, x ∈ t → ∃ u1 u2, t = u1 ++ x :: u2 ∧ x ∉ u1
  | a :: t, h => by
    by_cases e : x = a
    · subst e; exact ⟨[], t, rfl, by simp⟩
    · rcases List.mem_cons.mp h with z | z
      · exact absurd z e
      · obtain ⟨u1, u2, rfl, n⟩ := first_at z
        exact ⟨a :: u1, u2, rfl, by simp [e, n]⟩
theorem idx_app {x : Int} {u2 : List Int} : ∀ {u1 : List Int}, x ∉ u1 → (u1 ++ x :: u2).idxOf x = u1.length
  | [], _ => by simp
  | a :: u, h => by
    have e : a ≠ x := fun z => h (by rw [z]; exact List.mem_cons_self ..)
    have := idx_app (u2 := u2) (u1 := u) (fun z => h (List.mem_cons_of_mem _ z))
    rw [List.cons_append, List.idxOf_cons, this, show (a == x) = false from beq_false_of_ne e]
    rfl
theorem map_keep {x y : Int} {u : List Int} (h : x ∉ u) : (u.map fun z => if z = x then y else z) = u := by
  conv => rhs; rw [← List.map_id u]
  refine List.map_congr_left fun z hz => ?_
  have : z ≠ x := fun q => h (by rw [← q]; exact hz)
  rw [if_neg this]; rfl
theorem set_map {x y : Int} {t : List Int} (nd : t.Nodup) (h : x ∈ t) : t.set (t.idxOf x) y = t.map fun z => if z = x then y else z := by
  obtain ⟨u1, u2, rfl, n1⟩ := first_at h
  rw [idx_app n1, List.set_append_right _ _ (Nat.le_refl _), Nat.sub_self, List.set_cons_zero, List.map_append, List.map_cons, if_pos rfl, map_keep n1]
  rw [List.nodup_append, List.nodup_cons] at nd
  rw [map_keep nd.2.1.1]
theorem _root_.Mth.Gn.at {ts : List (List Int)} {hs : List Nat} (g : Gn ts hs) {x : Int} (h : InR hs.length x) : ∃ p t, ts[p]? = some t ∧ x ∈ t ∧ hs[x.toNat]? = some p := by
  obtain ⟨t, ht, hx⟩ := List.mem_flatten.mp ((g.mem x).mpr h)
  obtain ⟨p, hp, e⟩ := List.getElem_of_mem ht
  have h2 : ts[p]? = some t := by rw [List.getElem?_eq_getElem hp, e]
  exact ⟨p, t, h2, hx, g.home p t h2 x hx⟩
theorem pr_at {ts : List (List Int)} (nd : ts.flatten.Nodup) {p : Nat} {t : List Int} {x : Int} (h : ts[p]? = some t) (hx : x ∈ t) : pr ts x = prevAt t (t.idxOf x) := by
  refine pr_of nd (List.mem_flatten.mpr ⟨rowP t, List.mem_map.mpr ⟨t, List.mem_of_getElem? h, rfl⟩, ?_⟩)
  unfold rowP
  refine List.mem_map.mpr ⟨t.idxOf x, List.mem_range.mpr (List.idxOf_lt_length_iff.mpr hx), ?_⟩
  rw [List.getD_eq_getElem?_getD, List.getElem?_eq_getElem (List.idxOf_lt_length_iff.mpr hx), List.getElem_idxOf]
  rfl
theorem itn_add (φ : Int → Int) (s : Int) (i : Nat) : ∀ k, itn φ k (itn φ i s) = itn φ (k + i) s
  | 0 => by rw [Nat.zero_add]; rfl
  | k+1 => by
    rw [show k + 1 + i = (k + i) + 1 by omega]
    show φ (itn φ k (itn φ i s)) = φ (itn φ (k + i) s)
    rw [itn_add φ s i k]
theorem ring_reach {φ : Int → Int} {n : Nat} (PM : Perm1 φ n) {s a b : Int} (hs : InR n s) (ha : a ∈ ring φ s) (hb : b ∈ ring φ s) : ∃ k, itn φ k a = b := by
  obtain ⟨i, hi, rfl⟩ := ringL_mem.mp ha
  obtain ⟨j, hj, rfl⟩ := ringL_mem.mp hb
  have pp := per_is PM hs
  refine ⟨(per φ s - i) + j, ?_⟩
  have e : itn φ (per φ s - i) (itn φ i s) = s := by rw [itn_add, show per φ s - i + i = per φ s by omega]; exact pp.2.1
  rw [show per φ s - i + j = j + (per φ s - i) by omega, ← itn_add, e]
theorem xor40 : ∀ k : Nat, k < 40 → Builtin.bitXor (k : Int) 1 = oth (k : Int) := by decide
theorem xorI {x : Int} {n : Nat} (h : InR n x) (hn : n ≤ 40) : Builtin.bitXor x 1 = oth x := by
  obtain ⟨h1, h2⟩ := h
  have := xor40 x.toNat (by omega)
  rwa [show ((x.toNat : Nat) : Int) = x by omega] at this
section
variable {P : Program} {w : World} {K : PySem.W.Frag} {mg : Str → Option Value} {base : Heap} {f g h f1 f2 f3 f4 : Addr} {fd gd hd d1 d2 d3 d4 : FuncData}
inductive SpNextR (vs : List V) (H : Hp) (Q : VK) : Prop
  | mk (T hA : Addr) (bs : List Addr) (ts : List (List Int)) (hs : List Nat) (e : Int) (h_0 : vs = [.ref T, .ref hA, .int e]) (h_1 : GrM H T hA bs ts hs) (h_2 : Gn ts hs) (h_3 : hs.length ≤ 40) (h_4 : InR hs.length e) (h_5 : Q (.int (nxt ts e)) H) : SpNextR vs H Q
noncomputable def spNext : Sp := fun vs H Q _ => SpNextR vs H Q
theorem scNx : FnScope ["_law_turns", "_law_homes", "_law_end", "_law_turn"] ["_law_turns", "_law_homes", "_law_end"] (defScope sNext) := ⟨rfl, rfl, rfl, by decide +kernel, rfl, by decide +kernel, by decide +kernel⟩
theorem ok_next (F : Fun K "_law_next" "_law_next" sNext f fd) : FnOk P w K mg base CX0 1 f fd ["_law_turns", "_law_homes", "_law_end"] spNext := by
  refine F.ok scNx (fun vs H Q E h => ?_) (fun cdv A outer s H vs Q E hr h => ?_)
  · obtain ⟨T, hA, bs, ts, hs, e, rfl, _⟩ := h
    rfl
  obtain ⟨T, hA, bs, ts, hs, e, rfl, M, g, hl, he, q⟩ := h
  refine ⟨_, pss_cons (ps_set (i := 3) scNx.nd rfl (Or.inl rfl) (pe_ix (ixL (K := K)) (pv 0) (pe_ix (ixL (K := K)) (pv 1) (pe_op op_xor (pv 2) pe_int) (fun _ _ => rfl)) (fun _ _ => rfl)))
    (pss_one (ps_ret (pe_ix (ixL (K := K)) (pv 3) (pe_op op_sub (pe_bmK K PySem.F.plainAttrs_list PySem.F.slot_list_index PySem.F.type_list_index mt_index (pv 3) (pa_cons (pe_op op_xor (pv 2) pe_int) pa_nil)) pe_int) (fun _ _ => rfl)))), ?_⟩
  have ho := oth_in g.ev he
  obtain ⟨p, t, hp, hx, hm⟩ := g.at ho
  obtain ⟨b, hb, bm, ab, hB⟩ := turn_at M.tm hp
  have ex := xorI he hl
  have tl : t.length ≤ 1000000 := by have := flat_sub (List.mem_of_getElem? hp); rw [g.turns.len] at this; omega
  refine ⟨_, rfl, _, rfl, _, rfl, _, _, rfl, rfl, hA, _, _, _, rfl, rfl, SqL.of M.hh, (by rw [ex]; exact nat_atI ho.1 hm), T, _, _, _, rfl, rfl, SqL.of M.tm.h1, ab, ?_⟩
  refine ⟨_, rfl, _, rfl, .inl ⟨rfl, _, SqL.of hB⟩, _, rfl, _, _, rfl, rfl, b, t, _, rfl, rfl, hB, (by rw [ex]; exact hx), tl, ?_⟩
  rw [ex]
  refine ⟨_, _, rfl, rfl, b, _, _, _, rfl, rfl, SqL.of hB, at_prev (List.idxOf_lt_length_iff.mpr hx), ?_⟩
  rw [← pr_at g.nd hp hx, ← nxt_pr]
  exact q
inductive SpLRingR (vs : List V) (H : Hp) (Q : VK) : Prop
  | mk (T hA : Addr) (bs : List Addr) (ts : List (List Int)) (hs : List Nat) (e : Int) (h_0 : vs = [.ref T, .ref hA, .int e]) (h_1 : GrM H T hA bs ts hs) (h_2 : Gn ts hs) (h_3 : hs.length ≤ 40) (h_4 : InR hs.length e) (h_5 : ∀ p H', Same H H' → H' p = some (.lst ((ring (nxt ts) e).map V.int)) → Q (.ref p) H') : SpLRingR vs H Q
noncomputable def spLRing : Sp := fun vs H Q _ => SpLRingR vs H Q
theorem scLR : FnScope ["_law_turns", "_law_homes", "_law_start", "_law_ring_here", "_law_here"] ["_law_turns", "_law_homes", "_law_start"] (defScope s_law_ring) := ⟨rfl, rfl, rfl, by decide +kernel, rfl, by decide +kernel, by decide +kernel⟩
theorem ok_lring (F : Fun K "_law_ring" "_law_ring" s_law_ring f fd) (G : FnOk P w K mg base CX0 1 g gd ["_law_turns", "_law_homes", "_law_end"] spNext) (bG : Binds K gd ["_law_turns", "_law_homes", "_law_end"] []) (kG : PySem.W.keepIn K (.ref g) = true) (mG : mg "_law_next" = some (.ref g)) :
    FnOk P w K mg base CX0 2 f fd ["_law_turns", "_law_homes", "_law_start"] spLRing := by
  refine F.ok scLR (fun vs H Q E h => ?_) (fun cdv A outer s H vs Q E hr h => ?_)
  · obtain ⟨T, hA, bs, ts, hs, e, rfl, _⟩ := h
    rfl
  obtain ⟨T, hA, bs, ts, hs, s0, rfl, M, g, hn, hs0, q⟩ := h
  have PM := g.turns.perm
  have PE := per_is PM hs0
  refine ⟨_, pss_cons (ps_set (i := 3) scLR.nd rfl (Or.inl rfl) (pe_lst (pa_cons (pv 2) pa_nil)))
    (pss_cons (ps_set (i := 4) scLR.nd rfl (Or.inl rfl) (pe_call G hr (by rfl) mG kG bG .nil pass0 (pa_cons (pv 0) (pa_cons (pv 1) (pa_cons (pv 2) pa_nil)))))
    (pss_cons (ps_while PassesOwn.never (pt_cmpR op_ne (pv 4) (pv 2) (nomark _))
      (pss_cons (ps_expr (pe_bmK K PySem.F.plainAttrs_list PySem.F.slot_list_append PySem.F.type_list_append mt_append (pv 3) (pa_cons (pv 4) pa_nil)))
        (pss_one (ps_set (i := 4) scLR.nd rfl (Or.inl rfl) (pe_call G hr (by rfl) mG kG bG .nil pass0 (pa_cons (pv 0) (pa_cons (pv 1) (pa_cons (pv 4) pa_nil))))))))
    (pss_one (ps_ret (pv 3))))), ?_⟩
  refine ⟨_, rfl, by show 1 ≤ sizeLine; decide, fun l hl => ?_⟩
  refine ⟨_, rfl, _, rfl, _, rfl, T, hA, bs, ts, hs, s0, rfl, M.keep (same_new hl _), g, hn, hs0, ?_⟩
  refine while_by (fun σ H2 => ∃ j, 1 ≤ j ∧ j ≤ per (nxt ts) s0 ∧ σ = [some (.ref T), some (.ref hA), some (.int s0), some (.ref l), some (.int (itn (nxt ts) j s0))] ∧ Same H H2 ∧ H2 l = some (.lst ((ringL (nxt ts) s0 j).map V.int)))
    (fun _ H2 => match H2 l with | some (.lst xs) => per (nxt ts) s0 - xs.length | _ => 0) ⟨1, Nat.le_refl _, PE.1, rfl, same_new hl _, upd_same⟩ ?_ ?_
  · rintro σ H2 ⟨j, j1, j2, rfl, sm, hl2⟩
    refine ⟨_, rfl, _, rfl, rfl, _, rfl, ?_⟩
    by_cases he : itn (nxt ts) j s0 = s0
    · refine iteNS (iv he) ?_
      have hj : j = per (nxt ts) s0 := by
        rcases Nat.lt_or_ge j (per (nxt ts) s0) with z | z
        · exact absurd he (PE.2.2 j j1 z)
        · omega
      subst hj
      exact ⟨_, rfl, q l _ sm hl2⟩
    · refine iteNN (ivn he) ?_
      have hj : j < per (nxt ts) s0 := by
        rcases Nat.lt_or_ge j (per (nxt ts) s0) with z | z
        · exact z
        · exact absurd (by rw [show j = per (nxt ts) s0 by omega]; exact PE.2.1) he
      have hpl := per_le PM hs0
      have hlen : (ringL (nxt ts) s0 j).length = j := ringL_len
      refine ⟨_, rfl, .inl ⟨rfl, _, SqL.of hl2⟩, _, rfl, l, _, _, rfl, rfl, hl2, by rw [List.length_map, hlen]; exact szl (by omega), ?_⟩
      have sm2 := sm.up hl (.lst ((ringL (nxt ts) s0 j).map V.int ++ [.int (itn (nxt ts) j s0)]))
      refine ⟨_, rfl, _, rfl, _, rfl, T, hA, bs, ts, hs, _, rfl, M.keep sm2, g, hn, itn_in PM hs0 j, ?_⟩
      refine ⟨⟨j + 1, by omega, hj, rfl, sm2, ?_⟩, ?_⟩
      · rw [upd_same, ringL_snoc, List.map_append]
        rfl
      · rw [upd_same, hl2]
        show per (nxt ts) s0 - ((ringL (nxt ts) s0 j).map V.int ++ [V.int (itn (nxt ts) j s0)]).length < per (nxt ts) s0 - ((ringL (nxt ts) s0 j).map V.int).length
        rw [List.length_append, List.length_map, hlen, List.length_singleton]
        omega
  · rintro σ H2 Q1 Q2 hq ⟨v, e, v', e', sc, b, eb, z⟩
    exact ⟨v, e, v', e', sc, b, eb, hq _ _ z⟩
inductive SpPutR (vs : List V) (H : Hp) (Q : VK) : Prop
  | mk (T hA : Addr) (bs : List Addr) (ts : List (List Int)) (hs : List Nat) (s e : Int) (p : Nat) (t1 t2 : List Int) (h_0 : vs = [.ref T, .ref hA, .int s, .int e]) (h_1 : GrM H T hA bs ts hs) (h_2 : hs.length ≤ 1000) (h_3 : 0 ≤ s) (h_4 : hs[s.toNat]? = some p) (h_5 : ts[p]? = some (t1 ++ s :: t2)) (h_6 : s ∉ t1) (h_7 : (t1 ++ s :: t2).length ≤ 1000) (h_8 : ∀ H', Fr T hA bs H H' → GrM H' T hA bs (ts.set p (t1 ++ e :: s :: t2)) (hs ++ [p]) → Q .non H') : SpPutR vs H Q
noncomputable def spPut : Sp := fun vs H Q _ => SpPutR vs H Q
theorem scPu : FnScope ["_law_turns", "_law_homes", "_law_spot", "_law_end", "_law_turn"] ["_law_turns", "_law_homes", "_law_spot", "_law_end"] (defScope s_law_put_ahead) := ⟨rfl, rfl, rfl, by decide +kernel, rfl, by decide +kernel, by decide +kernel⟩
theorem ok_put (F : Fun K "_law_put_ahead" "_law_put_ahead" s_law_put_ahead f fd) : FnOk P w K mg base CX0 1 f fd ["_law_turns", "_law_homes", "_law_spot", "_law_end"] spPut := by
  refine F.ok scPu (fun vs H Q E h => ?_) (fun cdv A outer s H vs Q E hr h => ?_)
  · obtain ⟨T, hA, bs, ts, hs, s, e, p, t1, t2, rfl, _⟩ := h
    rfl
  obtain ⟨T, hA, bs, ts, hs, s0, e, p, t1, t2, rfl, M, hl, h0, hm, hp, nm, tl, q⟩ := h
  refine ⟨_, pss_cons (ps_set (i := 4) scPu.nd rfl (Or.inl rfl) (pe_ix (ixL (K := K)) (pv 0) (pe_ix (ixL (K := K)) (pv 1) (pv 2) (fun _ _ => rfl)) (fun _ _ => rfl)))
    (pss_cons (ps_expr (pe_bmK K PySem.F.plainAttrs_list PySem.F.slot_list_insert PySem.F.type_list_insert mt_insert (pv 4) (pa_cons (pe_bmK K PySem.F.plainAttrs_list PySem.F.slot_list_index PySem.F.type_list_index mt_index (pv 4) (pa_cons (pv 2) pa_nil)) (pa_cons (pv 3) pa_nil))))
    (pss_one (ps_expr (pe_bmK K PySem.F.plainAttrs_list PySem.F.slot_list_append PySem.F.type_list_append mt_append (pv 1) (pa_cons (pe_ix (ixL (K := K)) (pv 1) (pv 2) (fun _ _ => rfl)) pa_nil))))), ?_⟩
  obtain ⟨b, hb, bm, ab, hB⟩ := turn_at M.tm hp
  have ix := idx_app (u2 := t2) nm
  refine ⟨_, rfl, _, rfl, _, rfl, hA, _, _, _, rfl, rfl, SqL.of M.hh, nat_atI h0 hm, T, _, _, _, rfl, rfl, SqL.of M.tm.h1, ab, ?_⟩
  refine ⟨_, rfl, .inl ⟨rfl, _, SqL.of hB⟩, _, rfl, .inl ⟨rfl, _, SqL.of hB⟩, _, rfl, b, t1 ++ s0 :: t2, s0, rfl, rfl, hB, by simp, by omega, ?_⟩
  rw [ix]
  refine ⟨_, rfl, b, _, (t1.length : Int), .int e, rfl, rfl, hB, by omega, by simp; omega, by rw [List.length_map]; omega, ?_⟩
  have e3 : ((t1 ++ s0 :: t2).map V.int).take ((t1.length : Int)).toNat ++ V.int e :: ((t1 ++ s0 :: t2).map V.int).drop ((t1.length : Int)).toNat = (t1 ++ e :: s0 :: t2).map V.int := by
    rw [Int.toNat_natCast, ← List.map_take, ← List.map_drop]
    simp
  rw [e3]
  have M1 := M.turn (t := t1 ++ e :: s0 :: t2) hb
  have F1 : Fr T hA bs H (upd H b (.lst ((t1 ++ e :: s0 :: t2).map V.int))) := Fr.up (by simp [bm]) _
  generalize upd H b (.lst ((t1 ++ e :: s0 :: t2).map V.int)) = H1 at M1 F1
  refine ⟨_, rfl, .inl ⟨rfl, _, SqL.of M1.hh⟩, _, rfl, _, rfl, hA, _, _, _, rfl, rfl, SqL.of M1.hh, nat_atI h0 hm, hA, _, _, rfl, rfl, M1.hh, by rw [List.length_map]; exact szl (by omega), ?_⟩
  have M2 := M1.homes (hs ++ [p])
  have e4 : natV hs ++ [V.int (p : Int)] = natV (hs ++ [p]) := by simp [natV]
  rw [e4]
  exact q _ (F1.trans (Fr.up (by simp) _)) M2
end
end My
namespace My
open PySem L2 Mth
section
variable {P : Program} {w : World} {K : PySem.W.Frag} {mg : Str → Option Value} {base : Heap} {f g h f1 f2 f3 f4 : Addr} {fd gd hd d1 d2 d3 d4 : FuncData}
inductive SpMoreR (vs : List V) (H : Hp) (Q : VK) : Prop
  | mk (T hA : Addr) (bs : List Addr) (ts : List (List Int)) (hs : List Nat) (z : Int) (h_0 : vs = [.ref T, .ref hA, .int z]) (h_1 : GrM H T hA bs ts hs) (h_2 : Gn ts hs) (h_3 : hs.length ≤ 36) (h_4 : 0 ≤ z) (h_5 : ∀ H' bs' ts' hs', Fr T hA bs H H' → (∀ b ∈ bs', b ∈ bs ∨ H b = none) → GrM H' T hA bs' ts' hs' → Gn ts' hs' → hs'.length = hs.length + 2 → Q .non H') : SpMoreR vs H Q
noncomputable def spMore : Sp := fun vs H Q _ => SpMoreR vs H Q
theorem scMo : FnScope ["_law_turns", "_law_homes", "_law_cell", "_law_end", "_law_ring_here", "_law_first", "_law_second", "_law_parted", "_law_turn"] ["_law_turns", "_law_homes", "_law_cell"] (defScope s_law_one_more) := ⟨rfl, rfl, rfl, by decide +kernel, rfl, by decide +kernel, by decide +kernel⟩
theorem tlen_of {ts : List (List Int)} {hs : List Nat} (g : Gn ts hs) {p : Nat} {t : List Int} (h : ts[p]? = some t) : t.length ≤ hs.length := by
  have := flat_sub (List.mem_of_getElem? h)
  rwa [g.turns.len] at this
theorem _root_.Mth.Gn.tsl {ts : List (List Int)} {hs : List Nat} (g : Gn ts hs) : ts.length ≤ hs.length := by have := g.few; omega
theorem ixN_nat' {n j : Nat} (h : j < n) : ixN n ((j : Nat) : Int) = some j := by unfold ixN; rw [if_pos (by omega), if_pos (by omega)]; simp
theorem Fr.free {T hA l : Addr} {bs : List Addr} {H H' : Hp} {ts : List (List Int)} {hs : List Nat} (F : Fr T hA bs H H') (M : GrM H' T hA bs ts hs) (hl : H' l = none) : H l = none := by
  cases e : H l with
  | none => rfl
  | some o =>
    exfalso
    by_cases m : l ∈ T :: hA :: bs
    · rcases List.mem_cons.mp m with z | z
      · rw [z, M.tm.h1] at hl; cases hl
      · rcases List.mem_cons.mp z with z | z
        · rw [z, M.hh] at hl; cases hl
        · obtain ⟨k, hk, ek⟩ := List.getElem_of_mem z
          have hl2 : k < ts.length := by rw [← M.tm.rows.1]; exact hk
          have := M.tm.rows.2 k l ts[k] (by rw [List.getElem?_eq_getElem hk, ek]) (List.getElem?_eq_getElem hl2)
          unfold IntsL at this
          rw [hl] at this; cases this
    · rw [F l o m e] at hl; cases hl
theorem pick {R : List Int} (h : 0 < R.length) (c : Int) : ∃ a, a ∈ R ∧ atI (R.map V.int) (c % (((R.map V.int).length : Nat) : Int)) = some (.int a) := by
  rw [List.length_map]
  have h0 : (0 : Int) < (R.length : Int) := by omega
  have c0 := Int.emod_nonneg c (Int.ne_of_gt h0)
  have c1 := Int.emod_lt_of_pos c h0
  generalize c % (R.length : Int) = d at c0 c1
  have hd : d.toNat < R.length := by omega
  refine ⟨R[d.toNat], List.getElem_mem hd, ?_⟩
  have := atI_nat (xs := R.map V.int) (at_int (List.getElem?_eq_getElem hd))
  rwa [show ((d.toNat : Nat) : Int) = d by omega] at this
set_option maxHeartbeats 1000000 in
theorem ok_more (F : Fun K "_law_one_more" "_law_one_more" s_law_one_more f fd) (G1 : FnOk P w K mg base CX0 2 f1 d1 ["_law_turns", "_law_homes", "_law_start"] spLRing) (b1 : Binds K d1 ["_law_turns", "_law_homes", "_law_start"] []) (k1 : PySem.W.keepIn K (.ref f1) = true) (m1 : mg "_law_ring" = some (.ref f1))
    (G2 : FnOk P w K mg base CX0 1 f2 d2 ["_law_turns", "_law_homes", "_law_spot", "_law_end"] spPut) (b2 : Binds K d2 ["_law_turns", "_law_homes", "_law_spot", "_law_end"] []) (k2 : PySem.W.keepIn K (.ref f2) = true) (m2 : mg "_law_put_ahead" = some (.ref f2)) (ml : mg "len" = none) :
    FnOk P w K mg base CX0 3 f fd ["_law_turns", "_law_homes", "_law_cell"] spMore := by
  refine F.ok scMo (fun vs H Q E h => ?_) (fun cdv A outer s H vs Q E hr h => ?_)
  · obtain ⟨T, hA, bs, ts, hs, z, rfl, _⟩ := h
    rfl
  obtain ⟨T, hA, bs, ts, hs, z, rfl, M, g, hl, z0, q⟩ := h
  have hr1 := hr.mono (show 1 ≤ 2 by decide)
  refine ⟨_, pss_cons (ps_set (i := 3) scMo.nd rfl (Or.inl rfl) (pe_callB (callLen (K := K)) (by rfl) ml bt_len (pa_cons (pv 1) pa_nil)))
    (pss_cons (ps_set (i := 4) scMo.nd rfl (Or.inl rfl) (pe_call G1 hr (by rfl) m1 k1 b1 .nil pass0 (pa_cons (pv 0) (pa_cons (pv 1) (pa_cons (pe_op op_mod (pe_op op_fdiv (pv 2) pe_int) (pv 3)) pa_nil)))))
    (pss_cons (ps_set (i := 5) scMo.nd rfl (Or.inl rfl) (pe_op op_xor (pe_ix (ixL (K := K)) (pv 4) (pe_op op_mod (pe_op op_fdiv (pv 2) pe_int) (pe_callB (callLen (K := K)) (by rfl) ml bt_len (pa_cons (pv 4) pa_nil))) (fun _ _ => rfl)) pe_int))
    (pss_cons (ps_set (i := 6) scMo.nd rfl (Or.inl rfl) (pe_op op_xor (pe_ix (ixL (K := K)) (pv 4) (pe_op op_mod (pe_op op_fdiv (pv 2) pe_int) (pe_callB (callLen (K := K)) (by rfl) ml bt_len (pa_cons (pv 4) pa_nil))) (fun _ _ => rfl)) pe_int))
    (pss_one (ps_if (pt_cmpR op_eq (pe_op op_mod (pv 2) pe_int) pe_int (nomark _))
      (pss_cons (ps_expr (pe_call G2 hr1 (by rfl) m2 k2 b2 .nil pass0 (pa_cons (pv 0) (pa_cons (pv 1) (pa_cons (pv 5) (pa_cons (pv 3) pa_nil))))))
      (pss_cons (ps_expr (pe_bmK K PySem.F.plainAttrs_list PySem.F.slot_list_append PySem.F.type_list_append mt_append (pv 1) (pa_cons (pe_callB (callLen (K := K)) (by rfl) ml bt_len (pa_cons (pv 0) pa_nil)) pa_nil)))
      (pss_one (ps_expr (pe_bmK K PySem.F.plainAttrs_list PySem.F.slot_list_append PySem.F.type_list_append mt_append (pv 0) (pa_cons (pe_lst (pa_cons (pe_op op_add (pv 3) pe_int) pa_nil)) pa_nil))))))
      (pss_one (ps_if (pt_cmpR op_lt (pe_op op_mod (pv 2) pe_int) pe_int (nomark _))
        (pss_cons (ps_expr (pe_call G2 hr1 (by rfl) m2 k2 b2 .nil pass0 (pa_cons (pv 0) (pa_cons (pv 1) (pa_cons (pv 5) (pa_cons (pv 3) pa_nil))))))
        (pss_one (ps_expr (pe_call G2 hr1 (by rfl) m2 k2 b2 .nil pass0 (pa_cons (pv 0) (pa_cons (pv 1) (pa_cons (pv 6) (pa_cons (pe_op op_add (pv 3) pe_int) pa_nil))))))))
        (pss_cons (ps_set (i := 7) scMo.nd rfl (Or.inl rfl) (pe_op op_add pe_int (pe_op op_mul pe_int (pe_op op_mod (pe_op op_fdiv (pv 2) pe_int) (pe_op op_sub (pe_op op_fdiv (pv 3) pe_int) pe_int)))))
        (pss_cons (ps_set (i := 8) scMo.nd rfl (Or.inl rfl) (pe_ix (ixL (K := K)) (pv 0) (pe_ix (ixL (K := K)) (pv 1) (pv 7) (fun _ _ => rfl)) (fun _ _ => rfl)))
        (pss_cons (ps_asg (pe_op op_add (pv 3) pe_int) (pg_sub (pv 8) (pe_bmK K PySem.F.plainAttrs_list PySem.F.slot_list_index PySem.F.type_list_index mt_index (pv 8) (pa_cons (pv 7) pa_nil)) set_list))
        (pss_cons (ps_expr (pe_bmK K PySem.F.plainAttrs_list PySem.F.slot_list_append PySem.F.type_list_append mt_append (pv 1) (pa_cons (pe_callB (callLen (K := K)) (by rfl) ml bt_len (pa_cons (pv 0) pa_nil)) pa_nil)))
        (pss_cons (ps_expr (pe_bmK K PySem.F.plainAttrs_list PySem.F.slot_list_append PySem.F.type_list_append mt_append (pv 1) (pa_cons (pe_ix (ixL (K := K)) (pv 1) (pv 7) (fun _ _ => rfl)) pa_nil)))
        (pss_cons (ps_asg (pe_callB (callLen (K := K)) (by rfl) ml bt_len (pa_cons (pv 0) pa_nil)) (pg_sub (pv 1) (pv 7) set_list))
        (pss_one (ps_expr (pe_bmK K PySem.F.plainAttrs_list PySem.F.slot_list_append PySem.F.type_list_append mt_append (pv 0) (pa_cons (pe_lst (pa_cons (pv 7) (pa_cons (pv 3) pa_nil))) pa_nil))))))))))))))))), ?_⟩
  have ev := g.ev
  have n4 := g.n4
  have PM := g.turns.perm
  have tsl := g.tsl
  have ln : (natV hs).length = hs.length := List.length_map ..
  have m4 : (0 : Int) < 4 := by decide
  have mul2 : ∀ x : Int, CMul 2 x := fun x => .inl ⟨by decide, by decide⟩
  have npos : (0 : Int) < (hs.length : Int) := by omega
  refine ⟨_, rfl, hA, _, rfl, .inl (SqL.of M.hh), ?_⟩
  rw [ln]
  have c0 : InR hs.length (z / 4 % (hs.length : Int)) := ⟨Int.emod_nonneg _ (Int.ne_of_gt npos), Int.emod_lt_of_pos _ npos⟩
  refine ⟨_, rfl, _, rfl, _, rfl, _, _, rfl, rfl, ⟨by decide, by decide⟩, _, rfl, _, _, rfl, rfl, npos, T, hA, bs, ts, hs, _, rfl, M, g, by omega, c0, fun rp H1 s1 hrp => ?_⟩
  have Rm := ring_self PM c0
  have hreach : ∀ {a b : Int}, a ∈ ring (nxt ts) (z / 4 % (hs.length : Int)) → b ∈ ring (nxt ts) (z / 4 % (hs.length : Int)) → InR hs.length a ∧ ∃ k, itn (nxt ts) k a = b := fun ha hb => ⟨ring_in PM c0 ha, ring_reach PM c0 ha hb⟩
  have M1 := M.keep s1
  generalize ring (nxt ts) (z / 4 % (hs.length : Int)) = R at hrp Rm hreach
  have Rl : 0 < R.length := List.length_pos_of_mem Rm
  have Rl2 : (0 : Int) < (((R.map V.int).length : Nat) : Int) := by rw [List.length_map]; omega
  obtain ⟨a, am, ea⟩ := pick Rl (z / 120)
  obtain ⟨b, bm, eb⟩ := pick Rl (z / 3600)
  obtain ⟨aR, kb⟩ := hreach am bm
  obtain ⟨bR, _⟩ := hreach bm am
  have oa := oth_in ev aR
  have ob := oth_in ev bR
  refine ⟨_, rfl, _, rfl, _, _, rfl, rfl, ⟨by decide, by decide⟩, _, rfl, rp, _, rfl, .inl (SqL.of hrp), _, _, rfl, rfl, Rl2, rp, _, _, _, rfl, rfl, SqL.of hrp, ea, _, _, rfl, rfl, ?_⟩
  (try dsimp only)
  rw [xorI aR (by omega)]
  refine ⟨_, rfl, _, rfl, _, _, rfl, rfl, ⟨by decide, by decide⟩, _, rfl, rp, _, rfl, .inl (SqL.of hrp), _, _, rfl, rfl, Rl2, rp, _, _, _, rfl, rfl, SqL.of hrp, eb, _, _, rfl, rfl, ?_⟩
  (try dsimp only)
  rw [xorI bR (by omega)]
  obtain ⟨p, t, hp, hx, hm⟩ := g.at oa
  obtain ⟨t1, t2, rfl, nm⟩ := first_at hx
  have tl := tlen_of g hp
  have pl : p < ts.length := (List.getElem?_eq_some_iff.mp hp).1
  have F1 : Fr T hA bs H H1 := Fr.same s1
  refine ⟨_, rfl, _, _, rfl, rfl, m4, rfl, _, rfl, ?_⟩
  refine ite2 (fun _ => ?_) (fun _ => ?_)
  · -- a place hung up
    refine ⟨_, rfl, _, rfl, _, rfl, _, rfl, T, hA, bs, ts, hs, oth a, (hs.length : Int), p, t1, t2, rfl, M1, by omega, oa.1, hm, hp, nm, by omega, fun H2 F2 M2 => ?_⟩
    have F12 := F1.trans F2
    refine ⟨_, rfl, .inl ⟨rfl, _, SqL.of M2.hh⟩, _, rfl, T, _, rfl, .inl (SqL.of M2.tm.h1), hA, _, _, rfl, rfl, M2.hh, by rw [List.length_map, List.length_append]; exact szl (by simp; omega), ?_⟩
    have el : (((bs.map V.ref).length : Nat) : Int) = (ts.length : Int) := by rw [List.length_map, M.tm.rows.1]
    have e4 : natV (hs ++ [p]) ++ [V.int (((bs.map V.ref).length : Nat) : Int)] = natV (hs ++ [p] ++ [ts.length]) := by rw [el]; simp [natV]
    rw [e4]
    have M3 := M2.homes (hs ++ [p] ++ [ts.length])
    have F13 := F12.trans (Fr.up (T := T) (h := hA) (bs := bs) (H := H2) (x := hA) (by simp) (.lst (natV (hs ++ [p] ++ [ts.length]))))
    generalize upd H2 hA (.lst (natV (hs ++ [p] ++ [ts.length]))) = H3 at M3 F13
    refine ⟨_, rfl, .inl ⟨rfl, _, SqL.of M3.tm.h1⟩, _, rfl, _, _, rfl, rfl, by show 1 ≤ sizeLine; decide, fun l hl => ?_⟩
    have s4 := same_new hl (.lst [.int ((hs.length : Int) + 1)])
    refine ⟨T, _, _, rfl, rfl, s4 _ _ M3.tm.h1, by rw [List.length_map, M.tm.rows.1]; exact szl (by omega), ?_⟩
    have fl := F13.free M3 hl
    have M4 := M3.more (u := [(hs.length : Int) + 1]) hl
    refine q _ (bs ++ [l]) _ _ ((F13.trans (Fr.same s4)).trans (Fr.up (by simp) _)) (fun c hc => ?_) M4 (g.hung hp) (by simp)
    rcases List.mem_append.mp hc with w | w
    · exact .inl w
    · exact .inr (by rw [List.mem_singleton.mp w]; exact fl)
  refine ⟨_, rfl, _, _, rfl, rfl, m4, _, _, rfl, rfl, _, rfl, ?_⟩
  refine ite2 (fun _ => ?_) (fun _ => ?_)
  · -- a chord
    refine ⟨_, rfl, _, rfl, _, rfl, _, rfl, T, hA, bs, ts, hs, oth a, (hs.length : Int), p, t1, t2, rfl, M1, by omega, oa.1, hm, hp, nm, by omega, fun H2 F2 M2 => ?_⟩
    have F12 := F1.trans F2
    obtain ⟨p2, t', hp2, hx2, hm2⟩ := g.at ob
    have gu : ∃ u, (ts.set p (t1 ++ (hs.length : Int) :: oth a :: t2))[p2]? = some u ∧ oth b ∈ u ∧ u.length ≤ hs.length + 1 := by
      by_cases e : p = p2
      · subst e
        refine ⟨_, List.getElem?_set_self pl, ?_, ?_⟩
        · rw [hp] at hp2
          cases hp2
          rcases List.mem_append.mp hx2 with w | w
          · exact List.mem_append_left _ w
          · exact List.mem_append_right _ (List.mem_cons_of_mem _ w)
        · simp at tl ⊢; omega
      · exact ⟨t', by rw [List.getElem?_set_ne e]; exact hp2, hx2, by have := tlen_of g hp2; omega⟩
    obtain ⟨u, hu, hxu, ul⟩ := gu
    obtain ⟨u1, u2, rfl, nu⟩ := first_at hxu
    have hm2' : (hs ++ [p])[(oth b).toNat]? = some p2 := by rw [List.getElem?_append_left (List.getElem?_eq_some_iff.mp hm2).1]; exact hm2
    refine ⟨_, rfl, _, rfl, _, rfl, _, rfl, _, _, rfl, rfl, T, hA, bs, _, _, oth b, (hs.length : Int) + 1, p2, u1, u2, rfl, M2, by simp; omega, ob.1, hm2', hu, nu, by omega, fun H3 F3 M3 => ?_⟩
    exact q _ bs _ _ (F12.trans F3) (fun c hc => .inl hc) M3 (g.chord aR kb hp hu) (by simp)
  · -- a rope parted
    have half : (0 : Int) < (hs.length : Int) / 2 - 1 := by omega
    refine ⟨_, rfl, _, _, rfl, rfl, ⟨by decide, by decide⟩, _, rfl, _, _, rfl, rfl, ⟨by decide, by decide⟩, _, _, rfl, rfl, _, _, rfl, rfl, half, _, _, rfl, rfl, mul2 _, _, _, rfl, rfl, ?_⟩
    (try dsimp only)
    have d0 := Int.emod_nonneg (z / 4) (Int.ne_of_gt half)
    have d1 := Int.emod_lt_of_pos (z / 4) half
    have er : ∃ r : Nat, 1 ≤ r ∧ 3 + 2 * (z / 4 % ((hs.length : Int) / 2 - 1)) = 2 * (r : Int) + 1 := ⟨((z / 4 % ((hs.length : Int) / 2 - 1)) + 1).toNat, by omega, by omega⟩
    have pR : InR hs.length (3 + 2 * (z / 4 % ((hs.length : Int) / 2 - 1))) := ⟨by omega, by omega⟩
    generalize 3 + 2 * (z / 4 % ((hs.length : Int) / 2 - 1)) = pe at er pR
    obtain ⟨r, r1, er⟩ := er
    obtain ⟨pp, tt, hpp, px, pm⟩ := g.at pR
    have ttl := tlen_of g hpp
    have ppl : pp < ts.length := (List.getElem?_eq_some_iff.mp hpp).1
    obtain ⟨bb, hbb, bbm, abb, hBB⟩ := turn_at M1.tm hpp
    have ttn := nd_sub g.nd (List.mem_of_getElem? hpp)
    have ixl : tt.idxOf pe < tt.length := List.idxOf_lt_length_iff.mpr px
    refine ⟨_, rfl, _, rfl, _, rfl, hA, _, _, _, rfl, rfl, SqL.of M1.hh, nat_atI pR.1 pm, T, _, _, _, rfl, rfl, SqL.of M1.tm.h1, abb, ?_⟩
    refine ⟨_, rfl, _, _, rfl, rfl, _, rfl, _, rfl, .inl ⟨rfl, _, SqL.of hBB⟩, _, rfl, bb, tt, pe, rfl, rfl, hBB, px, by omega, bb, _, _, tt.idxOf pe, rfl, rfl, hBB, by rw [List.length_map]; exact ixN_nat' ixl, ?_⟩
    rw [show (tt.map V.int).set (tt.idxOf pe) (V.int ((hs.length : Int) + 1)) = (tt.map fun x => if x = pe then (hs.length : Int) + 1 else x).map V.int by rw [← set_map ttn px, List.map_set]]
    have M2 := M1.turn (t := tt.map fun x => if x = pe then (hs.length : Int) + 1 else x) hbb
    have F2 := F1.trans (Fr.up (T := T) (h := hA) (bs := bs) (H := H1) (x := bb) (by simp [bbm]) (.lst ((tt.map fun x => if x = pe then (hs.length : Int) + 1 else x).map V.int)))
    generalize upd H1 bb (.lst ((tt.map fun x => if x = pe then (hs.length : Int) + 1 else x).map V.int)) = H2 at M2 F2
    have el : (((bs.map V.ref).length : Nat) : Int) = (ts.length : Int) := by rw [List.length_map, M.tm.rows.1]
    refine ⟨_, rfl, .inl ⟨rfl, _, SqL.of M2.hh⟩, _, rfl, T, _, rfl, .inl (SqL.of M2.tm.h1), hA, _, _, rfl, rfl, M2.hh, by rw [List.length_map]; exact szl (by omega), ?_⟩
    rw [show natV hs ++ [V.int (((bs.map V.ref).length : Nat) : Int)] = natV (hs ++ [ts.length]) by rw [el]; simp [natV]]
    have M3 := M2.homes (hs ++ [ts.length])
    have F3 := F2.trans (Fr.up (T := T) (h := hA) (bs := bs) (H := H2) (x := hA) (by simp) (.lst (natV (hs ++ [ts.length]))))
    generalize upd H2 hA (.lst (natV (hs ++ [ts.length]))) = H3 at M3 F3
    have pm3 : (hs ++ [ts.length])[pe.toNat]? = some pp := by rw [List.getElem?_append_left (List.getElem?_eq_some_iff.mp pm).1]; exact pm
    refine ⟨_, rfl, .inl ⟨rfl, _, SqL.of M3.hh⟩, _, rfl, _, rfl, hA, _, _, _, rfl, rfl, SqL.of M3.hh, nat_atI pR.1 pm3, hA, _, _, rfl, rfl, M3.hh, by rw [List.length_map]; exact szl (by simp; omega), ?_⟩
    rw [show natV (hs ++ [ts.length]) ++ [V.int (pp : Int)] = natV (hs ++ [ts.length] ++ [pp]) by simp [natV]]
    have M4 := M3.homes (hs ++ [ts.length] ++ [pp])
    have F4 := F3.trans (Fr.up (T := T) (h := hA) (bs := bs) (H := H3) (x := hA) (by simp) (.lst (natV (hs ++ [ts.length] ++ [pp]))))
    generalize upd H3 hA (.lst (natV (hs ++ [ts.length] ++ [pp]))) = H4 at M4 F4
    have ixp : ixN (natV (hs ++ [ts.length] ++ [pp])).length pe = some pe.toNat := by
      have := ixN_nat' (n := (natV (hs ++ [ts.length] ++ [pp])).length) (j := pe.toNat) (by have := pR.2; have := pR.1; simp [natV]; omega)
      rwa [show ((pe.toNat : Nat) : Int) = pe by have := pR.1; omega] at this
    refine ⟨_, rfl, T, _, rfl, .inl (SqL.of M4.tm.h1), _, rfl, _, rfl, hA, _, _, pe.toNat, rfl, rfl, M4.hh, ixp, ?_⟩
    rw [show (natV (hs ++ [ts.length] ++ [pp])).set pe.toNat (V.int (((bs.map V.ref).length : Nat) : Int)) = natV ((hs ++ [ts.length] ++ [pp]).set pe.toNat ts.length) by rw [el]; unfold natV; rw [List.map_set]]
    have M5 := M4.homes ((hs ++ [ts.length] ++ [pp]).set pe.toNat ts.length)
    have F5 := F4.trans (Fr.up (T := T) (h := hA) (bs := bs) (H := H4) (x := hA) (by simp) (.lst (natV ((hs ++ [ts.length] ++ [pp]).set pe.toNat ts.length))))
    generalize upd H4 hA (.lst (natV ((hs ++ [ts.length] ++ [pp]).set pe.toNat ts.length))) = H5 at M5 F5
    refine ⟨_, rfl, .inl ⟨rfl, _, SqL.of M5.tm.h1⟩, _, rfl, _, rfl, by show 2 ≤ sizeLine; decide, fun l hl => ?_⟩
    have s6 := same_new hl (.lst [.int pe, .int (hs.length : Int)])
    refine ⟨T, _, _, rfl, rfl, s6 _ _ M5.tm.h1, by rw [List.length_map, M.tm.rows.1]; exact szl (by omega), ?_⟩
    have fl := F5.free M5 hl
    have M6 := M5.more (u := [pe, (hs.length : Int)]) hl
    refine q _ (bs ++ [l]) _ _ ((F5.trans (Fr.same s6)).trans (Fr.up (by simp) _)) (fun c hc => ?_) M6 (g.part r1 er hpp px) (by simp)
    rcases List.mem_append.mp hc with w | w
    · exact .inl w
    · exact .inr (by rw [List.mem_singleton.mp w]; exact fl)
end
end My
namespace My
open PySem L2 Mth
noncomputable def rho (m : Nat) (x : Int) : Int := (x - 2) % (2 * (m : Int) + 2)
theorem rho_hi {m : Nat} {x : Int} (h : InR (2 * m + 2) x) (h2 : 2 ≤ x) : rho m x = x - 2 := by
  obtain ⟨h0, h1⟩ := h
  unfold rho
  exact Int.emod_eq_of_lt (by omega) (by push_cast at h1; omega)
theorem rho_lo {m : Nat} {x : Int} (h : InR (2 * m + 2) x) (h2 : x < 2) : rho m x = x + 2 * m := by
  obtain ⟨h0, h1⟩ := h
  unfold rho
  have : (x - 2) % (2 * (m : Int) + 2) = (x - 2 + (2 * (m : Int) + 2)) % (2 * (m : Int) + 2) := by rw [Int.add_emod_right]
  rw [this, Int.emod_eq_of_lt (by omega) (by omega)]
  omega
theorem rho_in {m : Nat} {x : Int} (h : InR (2 * m + 2) x) : InR (2 * m + 2) (rho m x) := by
  have := h.1
  have := h.2
  by_cases h2 : 2 ≤ x
  · rw [rho_hi h h2]; exact ⟨by omega, by omega⟩
  · rw [rho_lo h (by omega)]; exact ⟨by omega, by push_cast; omega⟩
theorem rho_inj {m : Nat} {x y : Int} (hx : InR (2 * m + 2) x) (hy : InR (2 * m + 2) y) (e : rho m x = rho m y) : x = y := by
  obtain ⟨x0, x1⟩ := hx
  obtain ⟨y0, y1⟩ := hy
  push_cast at x1 y1
  by_cases h2 : 2 ≤ x <;> by_cases h3 : 2 ≤ y
  · rw [rho_hi ⟨x0, by push_cast; omega⟩ h2, rho_hi ⟨y0, by push_cast; omega⟩ h3] at e; omega
  · rw [rho_hi ⟨x0, by push_cast; omega⟩ h2, rho_lo ⟨y0, by push_cast; omega⟩ (by omega)] at e; omega
  · rw [rho_lo ⟨x0, by push_cast; omega⟩ (by omega), rho_hi ⟨y0, by push_cast; omega⟩ h3] at e; omega
  · rw [rho_lo ⟨x0, by push_cast; omega⟩ (by omega), rho_lo ⟨y0, by push_cast; omega⟩ (by omega)] at e; omega
noncomputable def sig (m : Nat) (x : Int) : Int := if x < 2 * m then x + 2 else x - 2 * m
theorem sig_ok {m : Nat} {x : Int} (h : InR (2 * m + 2) x) : InR (2 * m + 2) (sig m x) ∧ rho m (sig m x) = x := by
  obtain ⟨x0, x1⟩ := h
  push_cast at x1
  unfold sig
  split
  · have a : InR (2 * m + 2) (x + 2) := ⟨by omega, by push_cast; omega⟩
    exact ⟨a, by rw [rho_hi a (by omega)]; omega⟩
  · have a : InR (2 * m + 2) (x - 2 * m) := ⟨by omega, by push_cast; omega⟩
    exact ⟨a, by rw [rho_lo a (by omega)]; omega⟩
theorem oth_rho {m : Nat} {x : Int} (h : InR (2 * m + 2) x) : oth (rho m x) = rho m (oth x) := by
  have ho := oth_in (n := 2 * m + 2) (by omega) h
  have h0 := h.1
  have h1 := h.2
  by_cases h2 : 2 ≤ x
  · have h3 : 2 ≤ oth x := by unfold oth; split <;> omega
    rw [rho_hi h h2, rho_hi ho h3]
    unfold oth; split <;> split <;> omega
  · have h3 : oth x < 2 := by unfold oth; split <;> omega
    rw [rho_lo h (by omega), rho_lo ho h3]
    unfold oth; split <;> split <;> omega
theorem hm0_get : ∀ {rs : List Rope} {k : Nat} {r : Rope}, rs[k]? = some r → (hm0 rs)[2 * k]? = some r.1 ∧ (hm0 rs)[2 * k + 1]? = some r.2.1
  | r0 :: rs, 0, r, h => by cases h; exact ⟨rfl, rfl⟩
  | r0 :: rs, k+1, r, h => by
    have := hm0_get (rs := rs) (k := k) (r := r) (by simpa using h)
    rw [show 2 * (k + 1) = 2 * k + 1 + 1 by omega]
    exact this
theorem gn_net {ts : List (List Int)} {hs : List Nat} {m : Nat} {rs : List Rope} (g : Gn ts hs) (hl : hs.length = 2 * m + 2) (h14 : m ≤ 14) (hr : rs.length = m)
    (hk : ∀ (k : Nat) (r : Rope), rs[k]? = some r → hs[2 * k + 2]? = some r.1 ∧ hs[2 * k + 3]? = some r.2.1 ∧ EaseK r.2.2) : NetW ts.length rs (ts.map fun t => t.map (rho m)) := by
  have n4 := g.n4
  have few := g.few
  have inx : ∀ x ∈ ts.flatten, InR (2 * m + 2) x := fun x hx => by have := (g.mem x).mp hx; rwa [hl] at this
  have inj : ∀ x ∈ ts.flatten, ∀ y ∈ ts.flatten, rho m x = rho m y → x = y := fun x hx y hy => rho_inj (inx x hx) (inx y hy)
  obtain ⟨nd', pm'⟩ := pr_map (ts := ts) (ρ := rho m) g.nd inj
  have mem' : ∀ x, x ∈ (ts.map fun t => t.map (rho m)).flatten ↔ InR (2 * m + 2) x := by
    intro x
    rw [flat_map, List.mem_map]
    constructor
    · rintro ⟨y, hy, rfl⟩
      exact rho_in (inx y hy)
    · intro hx
      obtain ⟨s1, s2⟩ := sig_ok hx
      exact ⟨_, (g.mem _).mpr (by rw [hl]; exact s1), s2⟩
  have T : Turns (2 * m + 2) (ts.map fun t => t.map (rho m)) := ⟨nd', mem', by omega⟩
  have home_lt : ∀ {j p : Nat}, hs[j]? = some p → p < ts.length := by
    intro j p h
    have hj := (List.getElem?_eq_some_iff.mp h).1
    obtain ⟨p', t, h1, _, h2⟩ := g.at (x := (j : Int)) ⟨by omega, by omega⟩
    rw [show ((j : Int)).toNat = j by omega, h] at h2
    cases h2
    exact (List.getElem?_eq_some_iff.mp h1).1
  have hmd : ∀ j : Nat, j < 2 * m → (hm0 rs)[j]? = hs[j + 2]? := by
    intro j hj
    have hk2 : j / 2 < rs.length := by omega
    obtain ⟨a1, a2⟩ := hm0_get (List.getElem?_eq_getElem hk2)
    obtain ⟨b1, b2, _⟩ := hk _ _ (List.getElem?_eq_getElem hk2)
    rcases Nat.mod_two_eq_zero_or_one j with e | e
    · rw [show 2 * (j / 2) = j by omega] at a1 b1
      rw [a1, b1]
    · rw [show 2 * (j / 2) + 1 = j by omega] at a2
      rw [show 2 * (j / 2) + 3 = j + 2 by omega] at b2
      rw [a2, b2]
  refine ⟨by omega, by omega, g.two, by omega, by rw [List.length_map], by rw [hr]; exact T, ?_, ?_, ?_, ?_, ?_⟩
  · intro t' ht'
    obtain ⟨t, ht, rfl⟩ := List.mem_map.mp ht'
    intro z
    exact g.ne t ht (by simpa using z)
  · intro r hr'
    obtain ⟨k, hk2, e⟩ := List.getElem_of_mem hr'
    obtain ⟨b1, b2, b3⟩ := hk k r (by rw [List.getElem?_eq_getElem hk2, e])
    exact ⟨b3, home_lt b1, home_lt b2⟩
  · intro p t' ht' x hx
    rw [List.getElem?_map] at ht'
    cases e : ts[p]? with
    | none => rw [e] at ht'; cases ht'
    | some t =>
      rw [e] at ht'
      cases ht'
      obtain ⟨y, hy, rfl⟩ := List.mem_map.mp hx
      have hm1 := g.home p t e y hy
      have iy := inx y (List.mem_flatten.mpr ⟨t, List.mem_of_getElem? e, hy⟩)
      have y0 := iy.1
      have y1 := iy.2
      have l0 : (hm0 rs).length = 2 * m := by rw [hm0_len, hr]
      unfold hm
      by_cases h2 : 2 ≤ y
      · rw [rho_hi iy h2, List.getElem?_append_left (by rw [l0]; omega), hmd _ (by omega), show (y - 2).toNat + 2 = y.toNat by omega]
        exact hm1
      · rw [rho_lo iy (by omega), List.getElem?_append_right (by rw [l0]; omega), l0, show (y + 2 * (m : Int)).toNat - 2 * m = y.toNat by omega]
        obtain ⟨lo0, lo1⟩ := g.lo
        have : y = 0 ∨ y = 1 := by omega
        rcases this with rfl | rfl
        · rw [show (0 : Int).toNat = 0 from rfl] at hm1 ⊢
          rw [lo0] at hm1
          exact hm1
        · rw [show (1 : Int).toNat = 1 from rfl] at hm1 ⊢
          rw [lo1] at hm1
          exact hm1
  · intro S h0 hS p hp
    refine g.hang S h0 (fun k k1 p' q' e1 e2 => ?_) p hp
    have hj := (List.getElem?_eq_some_iff.mp e1).1
    have hk2 : k - 1 < rs.length := by omega
    obtain ⟨b1, b2, _⟩ := hk _ _ (List.getElem?_eq_getElem hk2)
    rw [show 2 * (k - 1) + 2 = 2 * k by omega, e1] at b1
    rw [show 2 * (k - 1) + 3 = 2 * k + 1 by omega, e2] at b2
    cases b1
    cases b2
    exact hS _ (List.getElem_mem hk2)
  · obtain ⟨R, C, eR⟩ := g.flat
    rw [hl] at C eR
    have C2 : Cyc (nxt (ts.map fun t => t.map (rho m))) (2 * m + 2) (R.map fun c => c.map (rho m)) := by
      refine C.ren (σ := sig m) (fun x hx => rho_in hx) (fun x hx => sig_ok hx) (fun x y hx hy => rho_inj hx hy) (fun x hx => ?_)
      have ho := oth_in (n := 2 * m + 2) (by omega) hx
      rw [nxt_pr, oth_rho hx, pm' _ ((g.mem _).mpr (by rw [hl]; exact ho)), nxt_pr]
    have := C2.count T.perm
    rw [List.length_map] at this
    rw [hr, this]
    omega
theorem path_ring (φ : Int → Int) (s : Int) : ∀ m, Path φ (ringL φ s m) (itn φ m s)
  | 0 => trivial
  | m+1 => by
    rw [ringL_snoc, path_app]
    exact ⟨path_ring φ s m, rfl, trivial⟩
theorem ring_c {φ : Int → Int} {n : Nat} (PM : Perm1 φ n) {s : Int} (hs : InR n s) : RingC φ (ring φ s) := by
  have pp := per_is PM hs
  refine ⟨List.ne_nil_of_mem (ring_self PM hs), ?_⟩
  have h := path_ring φ s (per φ s)
  rw [pp.2.1] at h
  have e : (ring φ s).headD 0 = s := by
    have : (ringL φ s (per φ s))[0]? = some (itn φ 0 s) := ringL_get (by have := pp.1; omega)
    show (ringL φ s (per φ s)).headD 0 = s
    rw [List.headD_eq_head?_getD, List.head?_eq_getElem?, this]
    rfl
  rw [e]
  exact h
theorem lands_cyc {φ : Int → Int} {n : Nat} (PM : Perm1 φ n) : ∃ R, Cyc φ n R := by
  have L := landsF_ok PM n (Nat.le_refl n)
  refine ⟨landsF φ n, L.nd, fun x => ⟨fun hx => ?_, fun hx => ?_⟩, fun c hc => ?_⟩
  · obtain ⟨r, hr, hx⟩ := List.mem_flatten.mp hx
    obtain ⟨s, hs, _, e, _⟩ := L.of r hr
    subst e
    exact ring_in PM hs hx
  · exact L.all x hx.1 hx.2
  · obtain ⟨s, hs, _, e, _⟩ := L.of c hc
    subst e
    exact ring_c PM hs
theorem NetW.rot {n : Nat} {rs : List Rope} {ts us : List (List Int)} (k : NetW n rs ts) (hl : ts.length = us.length) (g : ∀ (i : Nat) (t u : List Int), ts[i]? = some t → us[i]? = some u → Rot t u) : NetW n rs us := by
  obtain ⟨nd', pr'⟩ := rots_pr k.tn.nd hl g
  have pf := rots_flat hl g
  have T : Turns (2 * rs.length + 2) us := ⟨nd', fun x => by rw [← pf.mem_iff]; exact k.tn.mem x, k.tn.even⟩
  have back : ∀ {i : Nat} {u : List Int}, us[i]? = some u → ∃ t, ts[i]? = some t ∧ Rot t u := by
    intro i u h
    have hi : i < ts.length := by rw [hl]; exact (List.getElem?_eq_some_iff.mp h).1
    exact ⟨ts[i], List.getElem?_eq_getElem hi, g i _ u (List.getElem?_eq_getElem hi) h⟩
  refine ⟨k.m1, k.m14, k.n2, k.n15, by rw [← hl]; exact k.len, T, ?_, k.ease, ?_, k.hang, ?_⟩
  · intro u hu
    obtain ⟨i, hi, e⟩ := List.getElem_of_mem hu
    obtain ⟨t, ht, r⟩ := back (show us[i]? = some u by rw [List.getElem?_eq_getElem hi, e])
    intro z
    have := r.perm.length_eq
    rw [z] at this
    exact k.ne t (List.mem_of_getElem? ht) (List.eq_nil_of_length_eq_zero (by simpa using this))
  · intro p u hu x hx
    obtain ⟨t, ht, r⟩ := back hu
    exact k.home p t ht x (r.perm.mem_iff.mpr hx)
  · have e : (landsF (nxt us) (2 * rs.length + 2)).length = (landsF (nxt ts) (2 * rs.length + 2)).length := by
      obtain ⟨R, C⟩ : ∃ R, Cyc (nxt ts) (2 * rs.length + 2) R := lands_cyc k.tn.perm
      have c1 := C.count k.tn.perm
      have C2 : Cyc (nxt us) (2 * rs.length + 2) R := C.congr fun x hx => by
        rw [nxt_pr, nxt_pr]
        exact pr' _ ((k.tn.mem _).mpr (oth_in k.tn.even hx))
      rw [C2.count T.perm, c1]
    rw [e]
    exact k.flat
theorem begL_split {t1 t2 : List Int} {m : Int} (h1 : m ∉ t1) (h : ∀ a ∈ t1 ++ m :: t2, m ≤ a) : begL (t1 ++ m :: t2) = m :: (t2 ++ t1) := by
  unfold begL
  rw [leastL_is (m := m) (by simp) h, idx_app h1]
  simp
theorem begL_rot_eq {t u : List Int} (nd : t.Nodup) (ne : t ≠ []) (h : Rot t u) : begL u = begL t := by
  obtain ⟨m1, m2⟩ := leastL_ok ne
  generalize leastL t = m at m1 m2
  obtain ⟨l, r, rfl, rfl⟩ := h
  have hle : ∀ a ∈ r ++ l, m ≤ a := fun a ha => m2 a (by rcases List.mem_append.mp ha with z | z <;> simp [z])
  rcases List.mem_append.mp m1 with z | z
  · obtain ⟨l1, l2, rfl, n1⟩ := first_at z
    have nr : m ∉ r ++ l1 := by
      intro w
      rw [List.nodup_append] at nd
      rcases List.mem_append.mp w with w | w
      · exact nd.2.2 m (by simp) m w rfl
      · exact n1 w
    have e1 : r ++ (l1 ++ m :: l2) = (r ++ l1) ++ m :: l2 := by simp
    have e2 : (l1 ++ m :: l2) ++ r = l1 ++ m :: (l2 ++ r) := by simp
    rw [e1, begL_split nr (by rw [← e1]; exact hle), e2, begL_split n1 (by rw [← e2]; exact m2)]
    simp
  · obtain ⟨r1, r2, rfl, n1⟩ := first_at z
    have nl : m ∉ l ++ r1 := by
      intro w
      rw [List.nodup_append] at nd
      rcases List.mem_append.mp w with w | w
      · exact nd.2.2 m w m (by simp) rfl
      · exact n1 w
    have e1 : (r1 ++ m :: r2) ++ l = r1 ++ m :: (r2 ++ l) := by simp
    have e2 : l ++ (r1 ++ m :: r2) = (l ++ r1) ++ m :: r2 := by simp
    rw [e1, begL_split n1 (by rw [← e1]; exact hle), e2, begL_split nl (by rw [← e2]; exact m2)]
    simp
theorem rot_beg (t : List Int) : Rot t (begL t) := begL_rot
theorem begs_eq {ts us : List (List Int)} (nd : ts.flatten.Nodup) (ne : ∀ t ∈ ts, t ≠ []) (hl : ts.length = us.length) (g : ∀ (i : Nat) (t u : List Int), ts[i]? = some t → us[i]? = some u → Rot t u) : us.map begL = ts.map begL := by
  refine List.ext_getElem (by simp [hl]) fun i h1 h2 => ?_
  rw [List.getElem_map, List.getElem_map]
  have hi : i < ts.length := by simpa using h2
  have hi2 : i < us.length := by simpa using h1
  exact begL_rot_eq (nd_sub nd (List.getElem_mem hi)) (ne _ (List.getElem_mem hi)) (g i _ _ (List.getElem?_eq_getElem hi) (List.getElem?_eq_getElem hi2))
theorem rots_beg (ts : List (List Int)) : ts.length = (ts.map begL).length ∧ ∀ (i : Nat) (t u : List Int), ts[i]? = some t → (ts.map begL)[i]? = some u → Rot t u := by
  refine ⟨by simp, fun i t u h1 h2 => ?_⟩
  rw [List.getElem?_map, h1] at h2
  cases h2
  exact rot_beg t
end My
namespace My
open PySem L2 Mth
theorem at_tup_upd {H : Hp} {l : Addr} {ys : List V} {o : HO} {gs : List Addr} {us : List (List Int)} (hl : H l = some (.lst ys)) (h : At IntsT H gs us) : At IntsT (upd H l o) gs us := ⟨h.1, fun i b x e1 e2 => by
  have := h.2 i b x e1 e2
  unfold IntsT at this ⊢
  rw [upd_ne (fun z => by rw [z, hl] at this; cases this)]
  exact this⟩
theorem rope_upd {H : Hp} {b c : Addr} {ys : List V} {o : HO} {r : Rope} (hb : H b = some (.lst ys)) (h : RopeR H c r) : RopeR (upd H b o) c r := by
  obtain ⟨e, h1, h2⟩ := h
  refine ⟨e, by rw [upd_ne (fun z => by rw [z, hb] at h1; cases h1)]; exact h1, ?_⟩
  unfold FrR at h2 ⊢
  rw [upd_ne (fun z => by rw [z, hb] at h2; cases h2)]; exact h2
theorem ropes_upd {H : Hp} {b : Addr} {ys : List V} {o : HO} {cs : List Addr} {rs : List Rope} (hb : H b = some (.lst ys)) (h : At RopeR H cs rs) : At RopeR (upd H b o) cs rs := ⟨h.1, fun i c r e1 e2 => rope_upd hb (h.2 i c r e1 e2)⟩
theorem GrM.far {H : Hp} {T h x : Addr} {bs : List Addr} {ts : List (List Int)} {hs : List Nat} {o : HO} (M : GrM H T h bs ts hs) (hx : x ∉ T :: h :: bs) : GrM (upd H x o) T h bs ts hs := by
  have n1 : T ≠ x := fun z => hx (by simp [z])
  have n2 : h ≠ x := fun z => hx (by simp [z])
  refine ⟨⟨by rw [upd_ne n1]; exact M.tm.h1, ⟨M.tm.rows.1, fun i b y e1 e2 => ?_⟩, M.tm.nd⟩, by rw [upd_ne n2]; exact M.hh, M.hn⟩
  show upd H x _ b = _
  rw [upd_ne (fun z => hx (by rw [← z]; exact List.mem_cons_of_mem _ (List.mem_cons_of_mem _ (List.mem_of_getElem? e1))))]
  exact M.tm.rows.2 i b y e1 e2
theorem GrM.new {H : Hp} {T h x : Addr} {bs : List Addr} {ts : List (List Int)} {hs : List Nat} (M : GrM H T h bs ts hs) (hx : H x = none) : x ∉ T :: h :: bs := by
  intro m
  rcases List.mem_cons.mp m with z | z
  · rw [z, M.tm.h1] at hx; cases hx
  · rcases List.mem_cons.mp z with z | z
    · rw [z, M.hh] at hx; cases hx
    · obtain ⟨k, hk, ek⟩ := List.getElem_of_mem z
      have hl2 : k < ts.length := by rw [← M.tm.rows.1]; exact hk
      have := M.tm.rows.2 k x ts[k] (by rw [List.getElem?_eq_getElem hk, ek]) (List.getElem?_eq_getElem hl2)
      unfold IntsL at this
      rw [hx] at this; cases this
theorem rot_go {K : PySem.W.Frag} {te tc : TE} {σ : St} {H : Hp} {Q : VK} {a : Addr} {t : List Int} {c : Nat} (h1 : ∀ (H : Hp) (Q : VK), Q (.ref a) H → te σ H Q) (h2 : ∀ (H : Hp) (Q : VK), Q (.int (c : Int)) H → tc σ H Q)
    (ha : IntsT H a t) (hc : c < t.length) (hl : t.length ≤ 1000) (q : ∀ p H', Same H H' → IntsT H' p (t.drop c ++ t.take c) → Q (.ref p) H') :
    tOp (rCatT K) (tSl (rSlTA K) te (tPart tc) tNoPart) (tSl (rSlTA K) te tNoPart (tPart tc)) σ H Q := by
  have ha' : H a = some (.tup (t.map V.int)) := ha
  refine h1 _ _ (h2 _ _ ⟨_, rfl, a, _, rfl, SqT.of ha', fun z => ?_, fun z p hp => ?_⟩)
  · have c0 : c = 0 := by rw [sIx_nat (by rw [List.length_map]; omega)] at z; exact z.1
    subst c0
    refine h1 _ _ (h2 _ _ ⟨_, rfl, a, _, rfl, SqT.of ha', fun z2 => ?_, fun z2 p2 hp2 => ?_⟩)
    · have := z2.2
      rw [sIx_nat (Nat.zero_le _), List.length_map] at this
      omega
    · refine ⟨a, p2, _, [], rfl, rfl, SqT.of (same_new hp2 _ _ _ ha'), ?_, ?_, ?_, fun _ => ?_, fun z3 => absurd rfl z3⟩
      · rw [show cutV (t.map V.int) none (some ((0 : Nat) : Int)) = [] by rw [cut_take _ (Nat.zero_le _)]; rfl]; exact SqT.of upd_same
      · intro z4
        have := congrArg List.length z4
        rw [List.length_map] at this
        have e0 : ([] : List V).length = 0 := rfl
        omega
      · rw [List.length_map]; exact szle (by simp; omega)
      · refine q a _ (same_new hp2 _) ?_
        show IntsT _ a (t.drop 0 ++ t.take 0)
        rw [List.drop_zero, List.take_zero, List.append_nil]
        exact same_new hp2 _ _ _ ha'
  · have ec : cutV (t.map V.int) (some (c : Int)) none = (t.drop c).map V.int := by rw [cut_drop _ (by rw [List.length_map]; omega), List.map_drop]
    rw [ec]
    have s1 := same_new hp (.tup ((t.drop c).map V.int))
    have g1 : (upd H p (.tup ((t.drop c).map V.int))) p = some (.tup ((t.drop c).map V.int)) := upd_same
    generalize upd H p (.tup ((t.drop c).map V.int)) = H1 at s1 g1
    have cn : c ≠ 0 := fun e => z (by subst e; rw [sIx_nat (Nat.zero_le _)]; exact ⟨rfl, rfl⟩)
    refine h1 _ _ (h2 _ _ ⟨_, rfl, a, _, rfl, SqT.of (s1 _ _ ha'), fun z2 => ?_, fun z2 p2 hp2 => ?_⟩)
    · have := z2.2
      rw [sIx_nat (by rw [List.length_map]; omega), List.length_map] at this
      omega
    · have ec2 : cutV (t.map V.int) none (some (c : Int)) = (t.take c).map V.int := by rw [cut_take _ (by rw [List.length_map]; omega), List.map_take]
      rw [ec2]
      have s2 := same_new hp2 (.tup ((t.take c).map V.int))
      have g2 : (upd H1 p2 (.tup ((t.take c).map V.int))) p2 = some (.tup ((t.take c).map V.int)) := upd_same
      generalize upd H1 p2 (.tup ((t.take c).map V.int)) = H2 at s2 g2
      refine ⟨p, p2, _, _, rfl, rfl, SqT.of (s2 _ _ g1), SqT.of g2, ?_, ?_, fun z3 => ?_, fun _ p3 hp3 => ?_⟩
      · intro z4
        have := congrArg List.length z4
        rw [List.length_map, List.length_drop] at this
        have e0 : ([] : List V).length = 0 := rfl
        omega
      · rw [List.length_map, List.length_map, List.length_drop, List.length_take]; exact szle (by omega)
      · have := congrArg List.length z3
        rw [List.length_map, List.length_take] at this
        have e0 : ([] : List V).length = 0 := rfl
        omega
      · refine q p3 _ (s1.trans (s2.trans (same_new hp3 _))) ?_
        unfold IntsT
        rw [upd_same, List.map_append]
section
variable {P : Program} {w : World} {K : PySem.W.Frag} {mg : Str → Option Value} {base : Heap} {f g h f1 f2 f3 f4 : Addr} {fd gd hd d1 d2 d3 d4 : FuncData}
inductive SpGrownR (K : PySem.W.Frag) (vs : List V) (H : Hp) (Q : VK) : Prop
  | mk (a : Addr) (ns : List Int) (st m : Nat) (h_0 : vs = [.ref a, .int (st : Int), .int (m : Int)]) (h_1 : ScA K H a ns) (h_2 : st ≤ 100) (h_3 : 1 ≤ m) (h_4 : m ≤ 14) (h_5 : ∀ p ra ta n rs ts H', Same H H' → H' p = some (.tup [.int ((n : Nat) : Int), .ref ra, .ref ta]) → TupR RopeR H' ra rs → TupR IntsT H' ta ts → NetW n rs ts → rs.length = m → (∀ r ∈ rs, EaseS r.2.2) → Q (.ref p) H') : SpGrownR K vs H Q
noncomputable def spGrown (K : PySem.W.Frag) : Sp := fun vs H Q _ => SpGrownR K vs H Q
theorem scGr : FnScope ["_law_script", "_law_start", "_law_many", "_law_turns", "_law_homes", "_law_k", "_law_ropes", "_law_ease_here", "_law_renamed", "_law_turn"] ["_law_script", "_law_start", "_law_many"] (defScope s_law_grown) := ⟨rfl, rfl, rfl, by decide +kernel, rfl, by decide +kernel, by decide +kernel⟩
theorem ndEM : (["_law_end", "_law_many"] : List Str).Nodup := by decide +kernel
set_option maxHeartbeats 1000000 in
seal L2.PSs L2.PS L2.PE L2.PA in
theorem ok_grown (F : Fun K "_law_grown" "_law_grown" s_law_grown f fd) (G1 : FnOk P w K mg base CX0 3 f1 d1 ["_law_turns", "_law_homes", "_law_cell"] spMore) (b1 : Binds K d1 ["_law_turns", "_law_homes", "_law_cell"] []) (k1 : PySem.W.keepIn K (.ref f1) = true) (m1 : mg "_law_one_more" = some (.ref f1))
    (G2 : FnOk P w K mg base CX0 2 f2 d2 ["_law_script", "_law_k"] (spDrawn K)) (b2 : Binds K d2 ["_law_script", "_law_k"] []) (k2 : PySem.W.keepIn K (.ref f2) = true) (m2 : mg "_law_drawn" = some (.ref f2))
    (G3 : FnOk P w K mg base CX0 3 f3 d3 ["_law_cell"] spLEase) (b3 : Binds K d3 ["_law_cell"] []) (k3 : PySem.W.keepIn K (.ref f3) = true) (m3 : mg "_law_ease" = some (.ref f3)) (ml : mg "len" = none) (mr : mg "range" = none) (mt : mg "tuple" = none) :
    FnOk P w K mg base CX0 4 f fd ["_law_script", "_law_start", "_law_many"] (spGrown K) := by
  refine F.ok scGr (fun vs H Q E h => ?_) (fun cdv A outer s H vs Q E hr h => ?_)
  · obtain ⟨a, ns, st, m, rfl, _⟩ := h
    rfl
  obtain ⟨a, ns, st, m, rfl, hS, hst, m1', m14, q⟩ := h
  have hr2 := hr.mono (show 2 ≤ 3 by decide)
  refine ⟨_, pss_cons (ps_set (i := 3) scGr.nd rfl (Or.inl rfl) (pe_lst (pa_cons (pe_lst (pa_cons pe_int (pa_cons pe_int pa_nil))) (pa_cons (pe_lst (pa_cons pe_int (pa_cons pe_int pa_nil))) pa_nil))))
    (pss_cons (ps_set (i := 4) scGr.nd rfl (Or.inl rfl) (pe_lst (pa_cons pe_int (pa_cons pe_int (pa_cons pe_int (pa_cons pe_int pa_nil))))))
    (pss_cons (ps_for PassesOwn.never rfl (pi_range1 (by rfl) mr (pa_cons (pe_op op_sub (pv 2) pe_int) pa_nil)) (pg_name (i := 5) scGr.nd rfl (Or.inl rfl))
      (pss_one (ps_expr (pe_call G1 hr (by rfl) m1 k1 b1 .nil pass0 (pa_cons (pv 3) (pa_cons (pv 4) (pa_cons (pe_call G2 hr2 (by rfl) m2 k2 b2 .nil pass0 (pa_cons (pv 0) (pa_cons (pe_op op_add (pv 1) (pv 5)) pa_nil))) pa_nil)))))))
    (pss_cons (ps_set (i := 6) scGr.nd rfl (Or.inl rfl) (pe_lst pa_nil))
    (pss_cons (ps_for PassesOwn.never rfl (pi_range1 (by rfl) mr (pa_cons (pv 2) pa_nil)) (pg_name (i := 5) scGr.nd rfl (Or.inl rfl))
      (pss_cons (ps_set (i := 7) scGr.nd rfl (Or.inl rfl) (pe_call G3 hr (by rfl) m3 k3 b3 .nil pass0 (pa_cons (pe_call G2 hr2 (by rfl) m2 k2 b2 .nil pass0 (pa_cons (pv 0) (pa_cons (pe_op op_add (pe_op op_add (pv 1) (pv 2)) (pv 5)) pa_nil))) pa_nil)))
      (pss_one (ps_expr (pe_bmK K PySem.F.plainAttrs_list PySem.F.slot_list_append PySem.F.type_list_append mt_append (pv 6) (pa_cons (pe_tup (pa_cons (pe_ix (ixL (K := K)) (pv 4) (pe_op op_add (pe_op op_mul pe_int (pv 5)) pe_int) (fun _ _ => rfl)) (pa_cons (pe_ix (ixL (K := K)) (pv 4) (pe_op op_add (pe_op op_mul pe_int (pv 5)) pe_int) (fun _ _ => rfl)) (pa_cons (pv 7) pa_nil)))) pa_nil))))))
    (pss_cons (ps_set (i := 8) scGr.nd rfl (Or.inl rfl) (pe_lst pa_nil))
    (pss_cons (ps_for PassesOwn.never rfl (piLst (K := K) (pv 3)) (pg_name (i := 9) scGr.nd rfl (Or.inl rfl))
      (pss_one (ps_expr (pe_bmK K PySem.F.plainAttrs_list PySem.F.slot_list_append PySem.F.type_list_append mt_append (pv 8) (pa_cons (pe_callTy (callTup (K := K)) (by rfl) mt bt_tuple (pa_cons (pe_comp (Nc := ["_law_end", "_law_many"]) (cap := [(1, 2)]) (g := gName 0)
        (te := tOp (rI (fun _ j => 0 < j) fun i j => .int (i % j)) (tOp (rI0 fun i j => .int (i - j)) (tVar 0) (tC (.int 2))) (tOp (rI0 fun i j => .int (i + j)) (tOp (rI CMul fun i j => .int (i * j)) (tC (.int 2)) (tVar 1)) (tC (.int 2)))) rfl (piLst (K := K) (pv 9))
        (comp_mk rfl rfl (by decide +kernel) (by decide +kernel) (List.forall_mem_cons.mpr ⟨⟨rfl, rfl⟩, List.forall_mem_nil _⟩) rfl (List.forall_mem_cons.mpr ⟨⟨_, _, rfl, rfl, rfl, rfl, rfl⟩, List.forall_mem_nil _⟩)) (fun C fp pins s' H' => pg_name (i := 0) ndEM rfl (Or.inl rfl))
        (fun C fp pins s' H' => pe_op op_mod (pe_op op_sub (pv 0) pe_int) (pe_op op_add (pe_op op_mul pe_int (pv 1)) pe_int))) pa_nil)) pa_nil)))))
    (pss_one (ps_ret (pe_tup (pa_cons (pe_callB (callLen (K := K)) (by rfl) ml bt_len (pa_cons (pv 3) pa_nil)) (pa_cons (pe_callTy (callTup (K := K)) (by rfl) mt bt_tuple (pa_cons (pv 6) pa_nil)) (pa_cons (pe_callTy (callTup (K := K)) (by rfl) mt bt_tuple (pa_cons (pv 8) pa_nil)) pa_nil)))))))))))), ?_⟩
  refine ⟨by show 2 ≤ sizeLine; decide, fun l1 h1 => ⟨by show 2 ≤ sizeLine; decide, fun l2 h2 => ⟨by show 2 ≤ sizeLine; decide, fun T hT => ⟨by show 4 ≤ sizeLine; decide, fun hA hh => ?_⟩⟩⟩⟩
  have sa := same_new h1 (.lst [.int 0, .int 2])
  have ea : (upd H l1 (.lst [.int 0, .int 2])) l1 = some (.lst [.int 0, .int 2]) := upd_same
  generalize upd H l1 (.lst [.int 0, .int 2]) = Ha at sa ea h2 hT hh
  have sb := same_new h2 (.lst [.int 1, .int 3])
  have eb : (upd Ha l2 (.lst [.int 1, .int 3])) l2 = some (.lst [.int 1, .int 3]) := upd_same
  generalize upd Ha l2 (.lst [.int 1, .int 3]) = Hb at sb eb hT hh
  have sc := same_new hT (.lst [.ref l1, .ref l2])
  have ec : (upd Hb T (.lst [.ref l1, .ref l2])) T = some (.lst [.ref l1, .ref l2]) := upd_same
  generalize upd Hb T (.lst [.ref l1, .ref l2]) = Hc at sc ec hh
  have sd := same_new hh (.lst [.int 0, .int 1, .int 0, .int 1])
  have ed : (upd Hc hA (.lst [.int 0, .int 1, .int 0, .int 1])) hA = some (.lst [.int 0, .int 1, .int 0, .int 1]) := upd_same
  generalize upd Hc hA (.lst [.int 0, .int 1, .int 0, .int 1]) = Hd at sd ed
  have n12 : l1 ≠ l2 := ne_of_none ea h2
  have n1T : l1 ≠ T := ne_of_none (sb _ _ ea) hT
  have n2T : l2 ≠ T := ne_of_none eb hT
  have n1h : l1 ≠ hA := ne_of_none (sc _ _ (sb _ _ ea)) hh
  have n2h : l2 ≠ hA := ne_of_none (sc _ _ eb) hh
  have nTh : T ≠ hA := ne_of_none ec hh
  have sab := sa.trans sb
  have sabc := sab.trans sc
  have s0 := sabc.trans sd
  have M0 : GrM Hd T hA [l1, l2] [[0, 2], [1, 3]] [0, 1, 0, 1] := by
    refine ⟨⟨sd _ _ ec, ⟨rfl, fun i b x e1 e2 => ?_⟩, ?_⟩, ed, ?_⟩
    · match i, e1, e2 with
      | 0, e1, e2 => cases e1; cases e2; exact sd _ _ (sc _ _ (sb _ _ ea))
      | 1, e1, e2 => cases e1; cases e2; exact sd _ _ (sc _ _ eb)
    · simp [n12, Ne.symm n1T, Ne.symm n2T]
    · simp [Ne.symm nTh, Ne.symm n1h, Ne.symm n2h]
  have fr0 : ∀ b ∈ T :: hA :: [l1, l2], H b = none := by
    intro b hb
    simp at hb
    rcases hb with rfl | rfl | rfl | rfl
    · exact sab.free hT
    · exact sabc.free hh
    · exact h1
    · exact sa.free h2
  refine ⟨_, rfl, _, _, rfl, rfl, ((m : Int) - 1), rfl, by omega, by omega, ?_⟩
  rw [show ((m : Int) - 1).toNat = m - 1 by omega]
  refine for_range (n := m - 1) (fun i σ H2 => ∃ u bs ts hs, σ = [some (.ref a), some (.int (st : Int)), some (.int (m : Int)), some (.ref T), some (.ref hA), u, none, none, none, none] ∧ Same H H2 ∧ (∀ b ∈ T :: hA :: bs, H b = none) ∧ GrM H2 T hA bs ts hs ∧ Gn ts hs ∧ hs.length = 4 + 2 * i)
    ⟨none, [l1, l2], [[0, 2], [1, 3]], [0, 1, 0, 1], rfl, s0, fr0, M0, Gn.first, rfl⟩ ?_ ?_
  · rintro i σ H2 hi ⟨u, bs, ts, hs, rfl, s2, fr, M, g, hl⟩
    refine ⟨_, rfl, _, rfl, _, rfl, _, rfl, _, rfl, _, _, rfl, rfl, a, ns, _, rfl, ⟨s2.seq hS.1, hS.2⟩, by omega, by omega, fun z H3 s3 dz => ?_⟩
    refine ⟨T, hA, bs, ts, hs, z, rfl, M.keep s3, g, by omega, dz.1, fun H4 bs' ts' hs' F4 fb M4 g4 l4 => ?_⟩
    have s23 := s2.trans s3
    refine ⟨_, bs', ts', hs', rfl, fun b o e => F4 b o (fun hb => by rw [fr b hb] at e; cases e) (s23 b o e), fun b hb => ?_, M4, g4, by omega⟩
    rcases List.mem_cons.mp hb with w | w
    · exact fr b (by simp [w])
    · rcases List.mem_cons.mp w with w | w
      · exact fr b (by simp [w])
      · rcases fb b w with y | y
        · exact fr b (by simp [y])
        · exact s23.free y
  rintro σ H2 ⟨u, bs, ts, hs, rfl, s2, fr, M, g, hl⟩
  have hl' : hs.length = 2 * m + 2 := by omega
  clear hl
  have mul2 : ∀ x : Int, CMul 2 x := fun x => .inl ⟨by decide, by decide⟩
  -- the ropes
  refine ⟨by show 0 ≤ sizeLine; decide, fun R hR => ?_⟩
  have sR := same_new hR (.lst [])
  have eR : (upd H2 R (.lst [])) R = some (.lst []) := upd_same
  have RN := M.new hR
  have MR := M.keep sR
  generalize upd H2 R (.lst []) = H3 at sR eR MR
  have s3 := s2.trans sR
  have fR : H R = none := s2.free hR
  refine ⟨_, rfl, (m : Int), rfl, by omega, by omega, ?_⟩
  rw [show (m : Int).toNat = m by omega]
  refine for_range (n := m) (fun i σ H4 => ∃ u v cs rs, σ = [some (.ref a), some (.int (st : Int)), some (.int (m : Int)), some (.ref T), some (.ref hA), u, some (.ref R), v, none, none] ∧ Same H H4 ∧ GrM H4 T hA bs ts hs ∧ H4 R = some (.lst (cs.map V.ref)) ∧ At RopeR H4 cs rs ∧ rs.length = i ∧
      ∀ (k : Nat) (r : Rope), rs[k]? = some r → hs[2 * k + 2]? = some r.1 ∧ hs[2 * k + 3]? = some r.2.1 ∧ EaseS r.2.2)
    ⟨u, none, [], [], rfl, s3, MR, eR, At.nil, rfl, by simp⟩ ?_ ?_
  · rintro i σ H4 hi ⟨u1, u2, cs, rs, rfl, s4, M4, e4, r4, l4, hk⟩
    refine ⟨_, rfl, _, rfl, _, rfl, _, _, rfl, rfl, _, rfl, _, _, rfl, rfl, a, ns, _, rfl, ⟨s4.seq hS.1, hS.2⟩, by omega, by omega, fun z H5 s5 dz => ?_⟩
    refine ⟨z, rfl, dz.1, fun e H6 qq s6 he ek => ?_⟩
    have s46 := s5.trans s6
    have M6 := M4.keep s46
    have hi1 : 2 * i + 2 < hs.length := by omega
    have hi2 : 2 * i + 3 < hs.length := by omega
    have a1 : atI (natV hs) (2 * ((0 : Int) + (i : Nat)) + 2) = some (.int ((hs[2 * i + 2] : Nat) : Int)) := by
      have := nat_at (List.getElem?_eq_getElem hi1)
      rwa [show ((2 * i + 2 : Nat) : Int) = 2 * ((0 : Int) + (i : Nat)) + 2 by omega] at this
    have a2 : atI (natV hs) (2 * ((0 : Int) + (i : Nat)) + 3) = some (.int ((hs[2 * i + 3] : Nat) : Int)) := by
      have := nat_at (List.getElem?_eq_getElem hi2)
      rwa [show ((2 * i + 3 : Nat) : Int) = 2 * ((0 : Int) + (i : Nat)) + 3 by omega] at this
    refine ⟨_, rfl, .inl ⟨rfl, _, SqL.of (s46 _ _ e4)⟩, _, rfl, _, rfl, _, _, rfl, rfl, mul2 _, _, _, rfl, rfl, hA, _, _, _, rfl, rfl, SqL.of M6.hh, a1, _, rfl, _, rfl, _, _, rfl, rfl, mul2 _, _, _, rfl, rfl, hA, _, _, _, rfl, rfl, SqL.of M6.hh, a2, _, rfl, by show 3 ≤ sizeLine; decide, fun p hp => ?_⟩
    have sp := same_new hp (.tup [.int ((hs[2 * i + 2] : Nat) : Int), .int ((hs[2 * i + 3] : Nat) : Int), .ref e])
    have ep : (upd H6 p (.tup [.int ((hs[2 * i + 2] : Nat) : Int), .int ((hs[2 * i + 3] : Nat) : Int), .ref e])) p = some (.tup [.int ((hs[2 * i + 2] : Nat) : Int), .int ((hs[2 * i + 3] : Nat) : Int), .ref e]) := upd_same
    have s47 := s46.trans sp
    have M7 := M6.keep sp
    have he7 := mo_fr sp he
    refine ⟨R, _, _, rfl, rfl, s47 _ _ e4, by rw [List.length_map, r4.1]; exact szl (by omega), ?_⟩
    generalize upd H6 p (.tup [.int ((hs[2 * i + 2] : Nat) : Int), .int ((hs[2 * i + 3] : Nat) : Int), .ref e]) = H7 at ep s47 M7 he7
    refine ⟨_, _, cs ++ [p], rs ++ [(hs[2 * i + 2], hs[2 * i + 3], qq)], rfl, (s4.trans s47).up fR _, M7.far RN, by rw [upd_same]; simp, ?_, by simp [l4], ?_⟩
    · exact ropes_upd (s47 _ _ e4) ((r4.keep mo_rope s47).snoc ⟨e, ep, he7⟩)
    · intro k r hkr
      rcases Nat.lt_or_ge k rs.length with w | w
      · rw [List.getElem?_append_left w] at hkr
        exact hk k r hkr
      · have hk2 : k < rs.length + 1 := by have := (List.getElem?_eq_some_iff.mp hkr).1; simpa using this
        have : k = i := by omega
        subst this
        rw [List.getElem?_append_right w, l4, Nat.sub_self] at hkr
        cases hkr
        exact ⟨List.getElem?_eq_getElem hi1, List.getElem?_eq_getElem hi2, ek⟩
  rintro σ H4 ⟨u1, u2, cs, rs, rfl, s4, M4, e4, r4, l4, hk⟩
  have N := gn_net g hl' m14 l4 fun k r e => ⟨(hk k r e).1, (hk k r e).2.1, (hk k r e).2.2.k⟩
  have es : ∀ r ∈ rs, EaseS r.2.2 := fun r hr => by
    obtain ⟨k, e⟩ := List.mem_iff_getElem?.mp hr
    exact (hk k r e).2.2
  -- the ends renamed
  refine ⟨by show 0 ≤ sizeLine; decide, fun W hW => ?_⟩
  have sW := same_new hW (.lst [])
  have eW : (upd H4 W (.lst [])) W = some (.lst []) := upd_same
  have WN := M4.new hW
  have MW := M4.keep sW
  have WR : R ≠ W := ne_of_none e4 hW
  have rW := r4.keep mo_rope sW
  have eR2 := sW _ _ e4
  generalize upd H4 W (.lst []) = H5 at sW eW MW rW eR2
  have s5 := s4.trans sW
  have fW : H W = none := s4.free hW
  have lbs : bs.length = ts.length := M.tm.rows.1
  refine ⟨_, rfl, T, rfl, ⟨_, SqL.of MW.tm.h1⟩, ?_⟩
  refine for_list (xs := bs.map V.ref) (fun i σ H6 => ∃ u gs, σ = [some (.ref a), some (.int (st : Int)), some (.int (m : Int)), some (.ref T), some (.ref hA), u1, some (.ref R), u2, some (.ref W), u] ∧ Same H H6 ∧ GrM H6 T hA bs ts hs ∧ H6 R = some (.lst (cs.map V.ref)) ∧ At RopeR H6 cs rs ∧ H6 W = some (.lst (gs.map V.ref)) ∧ At IntsT H6 gs ((ts.map fun t => t.map (rho m)).take i))
    ⟨none, [], rfl, s5, MW, eR2, rW, eW, At.nil⟩ (fun i σ H6 _ ⟨_, _, _, _, M6, _⟩ => SqL.of M6.tm.h1) ?_ ?_
  · rintro i x σ H6 hx ⟨u, gs, rfl, s6, M6, eR6, r6, eW6, a6⟩
    obtain ⟨b, t, rfl, hb, hy, hB⟩ := M6.tm.rows.ref hx
    have tl := tlen_of g hy
    have hi : i < ts.length := (List.getElem?_eq_some_iff.mp hy).1
    have tsl := g.tsl
    refine ⟨_, rfl, .inl ⟨rfl, _, SqL.of eW6⟩, _, rfl, b, rfl, ⟨_, SqL.of hB⟩, fun acc hacc => ?_⟩
    refine comp_run (run_list hB) (by rw [List.length_map]; omega) hacc (fun j ys σ hp => ys = ((t.map (rho m)).take j).map V.int ∧ ∃ u, σ = [u, some (.int (m : Int))]) ⟨rfl, none, rfl⟩ ?_ ?_
    · rintro j ys σ H7 x H8 hj sm hacc2 ⟨rfl, u, rfl⟩ ⟨rfl, hx⟩ Cc hC
      obtain ⟨e, rfl, he⟩ := int_at hx
      refine ⟨_, rfl, _, _, rfl, rfl, _, rfl, _, _, rfl, rfl, mul2 _, _, _, rfl, rfl, _, _, rfl, rfl, by omega, ?_⟩
      refine hC _ _ _ (Same.refl _) ⟨?_, _, rfl⟩
      have ee : (t.map (rho m))[j]? = some (rho m e) := by rw [List.getElem?_map, he]; rfl
      rw [take_snoc ee, List.map_append]
      rfl
    · rintro ys σ H7 s7 ha7 _ ⟨rfl, u, rfl⟩
      rw [List.length_map, List.take_of_length_le (by rw [List.length_map]; exact Nat.le_refl _)] at ha7
      refine ⟨acc, _, rfl, .inl ⟨SqL.of ha7, fun p hp => ?_⟩⟩
      have sp := same_new hp (.tup ((t.map (rho m)).map V.int))
      have ep : IntsT (upd H7 p (.tup ((t.map (rho m)).map V.int))) p (t.map (rho m)) := upd_same
      have s67 := s7.trans sp
      refine ⟨W, _, _, rfl, rfl, s67 _ _ eW6, by rw [List.length_map, a6.1, List.length_take]; exact szl (by omega), ?_⟩
      generalize upd H7 p (.tup ((t.map (rho m)).map V.int)) = H8 at ep s67
      have ec : (ts.map fun t => t.map (rho m))[i]? = some (t.map (rho m)) := by rw [List.getElem?_map, hy]; rfl
      refine ⟨_, gs ++ [p], rfl, (s6.trans s67).up fW _, (M6.keep s67).far WN, by rw [upd_ne WR]; exact s67 _ _ eR6, ropes_upd (s67 _ _ eW6) (r6.keep mo_rope s67), by rw [upd_same]; simp, ?_⟩
      rw [take_snoc ec]
      exact at_tup_upd (s67 _ _ eW6) ((a6.keep mo_intsT s67).snoc ep)
  · rintro σ H6 ⟨u, gs, rfl, s6, M6, eR6, r6, eW6, a6⟩
    rw [List.length_map, lbs, List.take_of_length_le (by rw [List.length_map]; exact Nat.le_refl _)] at a6
    refine ⟨_, rfl, T, _, rfl, .inl (SqL.of M6.tm.h1), _, rfl, R, _, rfl, .inl ⟨SqL.of eR6, fun p1 hp1 => ?_⟩⟩
    have s7 := same_new hp1 (.tup (cs.map V.ref))
    have e7 : (upd H6 p1 (.tup (cs.map V.ref))) p1 = some (.tup (cs.map V.ref)) := upd_same
    have eW7 := s7 _ _ eW6
    generalize upd H6 p1 (.tup (cs.map V.ref)) = H7 at s7 e7 eW7
    refine ⟨_, rfl, W, _, rfl, .inl ⟨SqL.of eW7, fun p2 hp2 => ?_⟩⟩
    have s8 := same_new hp2 (.tup (gs.map V.ref))
    have e8 : (upd H7 p2 (.tup (gs.map V.ref))) p2 = some (.tup (gs.map V.ref)) := upd_same
    generalize upd H7 p2 (.tup (gs.map V.ref)) = H8 at s8 e8
    refine ⟨by show 3 ≤ sizeLine; decide, fun p hp => ?_⟩
    have s9 := same_new hp (.tup [.int (((bs.map V.ref).length : Nat) : Int), .ref p1, .ref p2])
    have el : (((bs.map V.ref).length : Nat) : Int) = ((ts.length : Nat) : Int) := by rw [List.length_map, lbs]
    refine q p p1 p2 ts.length rs _ _ (s6.trans (s7.trans (s8.trans s9))) ?_ ⟨cs, s9 _ _ (s8 _ _ e7), r6.keep mo_rope (s7.trans (s8.trans s9))⟩ ⟨gs, s9 _ _ e8, a6.keep mo_intsT (s7.trans (s8.trans s9))⟩ N l4 es
    rw [upd_same, el]
inductive SpTurnedR (vs : List V) (H : Hp) (Q : VK) : Prop
  | mk (a : Addr) (ts : List (List Int)) (z : Int) (h_0 : vs = [.ref a, .int z]) (h_1 : TupR IntsT H a ts) (h_2 : ts.length ≤ 1000) (h_3 : (∀ t ∈ ts, t ≠ [] ∧ t.length ≤ 1000)) (h_4 : ∀ p us H', Same H H' → TupR IntsT H' p us → ts.length = us.length → (∀ (i : Nat) (t u : List Int), ts[i]? = some t → us[i]? = some u → Rot t u) → Q (.ref p) H') : SpTurnedR vs H Q
noncomputable def spTurned : Sp := fun vs H Q _ => SpTurnedR vs H Q
theorem scTA : FnScope ["_law_turns", "_law_cell", "_law_found", "_law_k", "_law_turn", "_law_at"] ["_law_turns", "_law_cell"] (defScope s_law_turned_about) := ⟨rfl, rfl, rfl, by decide +kernel, rfl, by decide +kernel, by decide +kernel⟩
theorem ok_turned (F : Fun K "_law_turned_about" "_law_turned_about" s_law_turned_about f fd) (ml : mg "len" = none) (me : mg "enumerate" = none) (mx : mg "max" = none) (mt : mg "tuple" = none) : FnOk P w K mg base CX0 1 f fd ["_law_turns", "_law_cell"] spTurned := by
  refine F.ok scTA (fun vs H Q E h => ?_) (fun cdv A outer s H vs Q E hr h => ?_)
  · obtain ⟨a, ts, z, rfl, _⟩ := h
    rfl
  obtain ⟨a, ts, z, rfl, ⟨bs, ha, hB⟩, hl, ht, q⟩ := h
  refine ⟨_, pss_cons (ps_set (i := 2) scTA.nd rfl (Or.inl rfl) (pe_lst pa_nil))
    (pss_cons (ps_for PassesOwn.never rfl (pi_enum (by rfl) me (pa_cons (pv 0) pa_nil)) (pgTup (n := 2) (K := K) rfl (pgs_cons (pg_name (i := 3) scTA.nd rfl (Or.inl rfl)) (pgs_cons (pg_name (i := 4) scTA.nd rfl (Or.inl rfl)) pgs_nil)))
      (pss_cons (ps_set (i := 5) scTA.nd rfl (Or.inl rfl) (pe_op op_mod (pe_op op_fdiv (pv 1) (pe_op op_add (pv 3) pe_int)) (pe_callB (call_max2 rfl) (by rfl) mx bt_max (pa_cons pe_int (pa_cons (pe_callB (callLen (K := K)) (by rfl) ml bt_len (pa_cons (pv 4) pa_nil)) pa_nil)))))
      (pss_one (ps_expr (pe_bmK K PySem.F.plainAttrs_list PySem.F.slot_list_append PySem.F.type_list_append mt_append (pv 2) (pa_cons (pe_op op_catT (pe_slice (slTA (K := K)) (pv 4) (po_some (pv 5)) po_none) (pe_slice (slTA (K := K)) (pv 4) po_none (po_some (pv 5)))) pa_nil))))))
    (pss_one (ps_ret (pe_callTy (callTup (K := K)) (by rfl) mt bt_tuple (pa_cons (pv 2) pa_nil))))), ?_⟩
  refine ⟨by show 0 ≤ sizeLine; decide, fun L hL => ?_⟩
  have sL := same_new hL (.lst [])
  have eL : (upd H L (.lst [])) L = some (.lst []) := upd_same
  generalize upd H L (.lst []) = H1 at sL eL
  refine ⟨_, rfl, a, _, rfl, sL _ _ ha, ?_⟩
  refine for_enum (xs := bs.map V.ref) (fun i σ H2 => ∃ u v t gs us, σ = [some (.ref a), some (.int z), some (.ref L), u, v, t] ∧ Same H H2 ∧ H2 L = some (.lst (gs.map V.ref)) ∧ At IntsT H2 gs us ∧ us.length = i ∧ ∀ (k : Nat) (t u : List Int), ts[k]? = some t → us[k]? = some u → Rot t u)
    ⟨none, none, none, [], [], rfl, sL, eL, At.nil, rfl, by simp⟩ (fun i σ H2 _ ⟨_, _, _, _, _, _, s2, _⟩ => s2 _ _ ha) ?_ ?_
  · rintro i x σ H2 p2 hx ⟨u, v, t0, gs, us, rfl, s2, e2, a2, l2, hrot⟩ hp2
    obtain ⟨c, t, rfl, hc, hy, hT⟩ := hB.ref hx
    obtain ⟨tn, tl⟩ := ht t (List.mem_of_getElem? hy)
    have hi : i < ts.length := (List.getElem?_eq_some_iff.mp hy).1
    have tp : 0 < t.length := List.length_pos_iff.mpr tn
    have s3 := s2.trans (same_new hp2 (.tup [.int i, .ref c]))
    have e3 := same_new hp2 (.tup [.int i, .ref c]) _ _ e2
    have a3 := a2.keep mo_intsT (same_new hp2 (.tup [.int i, .ref c]))
    refine ⟨p2, _, rfl, SqT.of upd_same, rfl, _, _, rfl, _, _, rfl, rfl, ?_⟩
    generalize upd H2 p2 (.tup [.int i, .ref c]) = H3 at s3 e3 a3
    have mx : ∀ y : Int, (y > 1 → (0 : Int) < y) → (0 : Int) < (if y > 1 then y else 1) := fun y _ => by split <;> omega
    have hT3 := s3 _ _ hT
    refine ⟨_, rfl, _, rfl, _, _, rfl, rfl, _, _, rfl, rfl, ⟨by omega, by omega⟩, _, rfl, c, _, rfl, .inr (SqT.of hT3), 1, _, rfl, _, _, rfl, rfl, by split <;> omega, ?_⟩
    have em : (if (((t.map V.int).length : Nat) : Int) > 1 then (((t.map V.int).length : Nat) : Int) else 1) = (t.length : Int) := by rw [List.length_map]; split <;> omega
    (try dsimp only)
    rw [em]
    have tp' : (0 : Int) < (t.length : Int) := by omega
    have c0 := Int.emod_nonneg (z / ((i : Int) + 1)) (Int.ne_of_gt tp')
    have c1 := Int.emod_lt_of_pos (z / ((i : Int) + 1)) tp'
    obtain ⟨cc, ecc⟩ : ∃ cc : Nat, z / ((i : Int) + 1) % (t.length : Int) = (cc : Int) := ⟨(z / ((i : Int) + 1) % (t.length : Int)).toNat, by omega⟩
    rw [ecc] at c1 ⊢
    refine ⟨_, rfl, .inl ⟨rfl, _, SqL.of e3⟩, ?_⟩
    refine rot_go (a := c) (t := t) (c := cc) (fun _ _ q => ⟨_, rfl, q⟩) (fun _ _ q => ⟨_, rfl, q⟩) hT3 (by omega) tl (fun p H4 s4 hp => ?_)
    refine ⟨L, _, _, rfl, rfl, s4 _ _ e3, by rw [List.length_map, a2.1]; exact szl (by omega), ?_⟩
    refine ⟨_, _, _, gs ++ [p], us ++ [t.drop cc ++ t.take cc], rfl, (s3.trans s4).up hL _, by rw [upd_same]; simp, at_tup_upd (s4 _ _ e3) ((a3.keep mo_intsT s4).snoc hp), by simp [l2], ?_⟩
    intro k t' u' h1 h2
    rcases Nat.lt_or_ge k us.length with w | w
    · rw [List.getElem?_append_left w] at h2
      exact hrot k t' u' h1 h2
    · have hk2 : k < us.length + 1 := by have := (List.getElem?_eq_some_iff.mp h2).1; simpa using this
      have : k = i := by omega
      subst this
      rw [List.getElem?_append_right w, l2, Nat.sub_self] at h2
      cases h2
      rw [hy] at h1
      cases h1
      exact ⟨t.take cc, t.drop cc, (List.take_append_drop cc t).symm, rfl⟩
  · rintro σ H2 ⟨u, v, t0, gs, us, rfl, s2, e2, a2, l2, hrot⟩
    refine ⟨_, rfl, L, _, rfl, .inl ⟨SqL.of e2, fun p hp => ?_⟩⟩
    have sp := same_new hp (.tup (gs.map V.ref))
    exact q p us _ (s2.trans sp) ⟨gs, upd_same, a2.keep mo_intsT sp⟩ (by rw [l2, List.length_map, hB.1]) hrot
theorem scBg : FnScope ["_law_turn", "_law_at"] ["_law_turn"] (defScope s_law_begun) := ⟨rfl, rfl, rfl, by decide +kernel, rfl, by decide +kernel, by decide +kernel⟩
theorem ok_lbeg (F : Fun K "_law_begun" "_law_begun" s_law_begun f fd) (mn : mg "min" = none) : FnOk P w K mg base CX0 1 f fd ["_law_turn"] spBeg := by
  refine F.ok scBg (fun vs H Q E h => ?_) (fun cdv A outer s H vs Q E hr h => ?_)
  · obtain ⟨a, t, rfl, _⟩ := h
    rfl
  obtain ⟨a, t, rfl, ha, ht, hl, q⟩ := h
  refine ⟨_, pss_cons (ps_set (i := 1) scBg.nd rfl (Or.inl rfl) (pe_bmT PySem.F.plainAttrs_tuple PySem.F.slot_tuple_index PySem.F.type_tuple_index mt_indexT (pv 0) (pa_cons (pe_callB (call_minT rfl) (by rfl) mn bt_min (pa_cons (pv 0) pa_nil)) pa_nil)))
    (pss_one (ps_ret (pe_op op_catT (pe_slice (slTA (K := K)) (pv 0) (po_some (pv 1)) po_none) (pe_slice (slTA (K := K)) (pv 0) po_none (po_some (pv 1)))))), ?_⟩
  have tl : 0 < t.length := List.length_pos_iff.mpr ht
  refine ⟨_, rfl, ⟨a, _, rfl, ha⟩, _, rfl, a, t, rfl, ha, tl, fun m mm mle => ?_⟩
  refine ⟨a, t, m, rfl, rfl, ha, mm, ?_⟩
  have em := leastL_is mm mle
  have hc : t.idxOf m < t.length := List.idxOf_lt_length_iff.mpr mm
  have eb : begL t = t.drop (t.idxOf m) ++ t.take (t.idxOf m) := by unfold begL; rw [em]
  generalize t.idxOf m = c at hc eb
  exact rot_go (K := K) (te := tVar 0) (tc := tVar 1) (σ := [some (.ref a), some (.int (c : Int))]) (a := a) (t := t) (c := c) (fun _ _ q => ⟨_, rfl, q⟩) (fun _ _ q => ⟨_, rfl, q⟩) ha hc hl (fun p H' s' hp => q p H' s' (by rw [eb]; exact hp))
end
end My
namespace My
open PySem L2 Mth
noncomputable abbrev txt (n : Int) : Str := Str.ofString (toString n)
theorem txt_list (n : Nat) : (txt (n : Int)).cps.toList = (Nat.toDigits 10 n).map Char.toNat := PySem.W.KIN.signs_num n
theorem txt_dig {n c : Nat} (h : c ∈ (txt (n : Int)).cps.toList) : 48 ≤ c ∧ c ≤ 57 := by
  rw [txt_list] at h
  obtain ⟨ch, hch, rfl⟩ := List.mem_map.mp h
  have r := Nat.isDigit_of_mem_toDigits (by decide) (by decide) hch
  unfold Char.isDigit at r
  rw [Bool.and_eq_true, decide_eq_true_eq, decide_eq_true_eq] at r
  exact ⟨UInt32.le_iff_toNat_le.mp r.1, UInt32.le_iff_toNat_le.mp r.2⟩
theorem txt_len {n k : Nat} (hk : 0 < k) (h : n < 10 ^ k) : (txt (n : Int)).length ≤ k := PyProof.Rows.toString_length_le (by omega) hk (by
  have : ((n : Nat) : Int) < ((10 ^ k : Nat) : Int) := by omega
  rwa [Int.natCast_pow] at this)
theorem dig_ne (n : Nat) : Nat.toDigits 10 n ≠ [] := fun e => by
  have h := Nat.length_toDigits_pos (b := 10) (n := n)
  rw [e] at h
  exact absurd h (by decide)
theorem txt_ne (n : Nat) : (txt (n : Int)).cps.toList ≠ [] := by
  rw [txt_list]
  exact fun e => dig_ne n (List.map_eq_nil_iff.mp e)
theorem txt_reads {n k : Nat} (hk : 0 < k) (k6 : k ≤ 600) (h : n < 10 ^ k) : PySem.intText? (txt (n : Int)) = some (n : Int) := by
  have hl := txt_len hk h
  have e := intText_digits (x := txt (n : Int)) (fun c hc => txt_dig hc) (txt_ne n) (by omega)
  rw [txt_list, PySem.W.KIN.val_back] at e
  exact e
theorem dig_head : ∀ n : Nat, 0 < n → ∃ d, d ≠ '0' ∧ (Nat.toDigits 10 n).head? = some d := by
  intro n
  induction n using Nat.strongRecOn with
  | _ n ih =>
    intro h
    by_cases h1 : n < 10
    · rw [Nat.toDigits_of_lt_base h1]
      refine ⟨_, ?_, rfl⟩
      have : ∀ m : Nat, m < 10 → 0 < m → Nat.digitChar m ≠ '0' := by decide
      exact this n h1 h
    · obtain ⟨d, hd, e⟩ := ih (n / 10) (by omega) (by omega)
      rw [Nat.toDigits_of_base_le (by decide) (by omega)]
      refine ⟨d, hd, ?_⟩
      rw [List.head?_append, e]
      rfl
theorem txt_head {n : Nat} (h : 0 < n) : ∃ c, c ≠ 48 ∧ (txt (n : Int)).cps.toList[0]? = some c := by
  obtain ⟨d, hd, e⟩ := dig_head n h
  refine ⟨d.toNat, fun z => hd (Char.toNat_inj.mp z), ?_⟩
  rw [txt_list, List.getElem?_map, ← List.head?_eq_getElem?, e]
  rfl
theorem slog {n : Nat} (h : n < 10 ^ 64) : ((n : Nat) : Int).natAbs.log2 < 1920 := by
  rw [Int.natAbs_natCast]
  by_cases z : n = 0
  · rw [z]; decide
  · exact (Nat.log2_lt z).mpr (Nat.lt_of_lt_of_le h (by decide))
theorem app_len (a b : Str) : (a ++ b).length = a.length + b.length := by rw [len_l, app_list, List.length_append, ← len_l, ← len_l]
theorem app_assoc (a b c : Str) : a ++ b ++ c = a ++ (b ++ c) := by
  apply PyProof.Rows.ext_toList
  rw [app_list, app_list, app_list, app_list, List.append_assoc]
theorem free_join {c : Nat} {y : Str} (hy : c ∉ y.cps.toList) : ∀ {ts : List Str}, (∀ t ∈ ts, c ∉ t.cps.toList) → c ∉ (Str.join y ts).cps.toList
  | [], _ => by show c ∉ ([] : List Nat); simp
  | [t], h => h t (by simp)
  | t :: u :: r, h => by
    show c ∉ (t ++ y ++ Str.join y (u :: r)).cps.toList
    rw [app_list, app_list, List.mem_append, List.mem_append]
    rintro ((z | z) | z)
    · exact h t (by simp) z
    · exact hy z
    · exact free_join hy (fun v hv => h v (List.mem_cons_of_mem _ hv)) z
theorem free_txt {c n : Nat} (h : c < 48 ∨ 57 < c) : c ∉ (txt (n : Int)).cps.toList := fun z => by
  have := txt_dig z
  omega
theorem sum_le : ∀ {ts : List Str} {b : Nat}, (∀ t ∈ ts, t.length ≤ b) → (ts.map (·.length)).sum ≤ ts.length * b
  | [], _, _ => by simp
  | t :: r, b, h => by
    have h1 := h t (List.mem_cons_self ..)
    have h2 := sum_le (ts := r) (b := b) fun x hx => h x (List.mem_cons_of_mem _ hx)
    simp only [List.map_cons, List.sum_cons, List.length_cons, Nat.add_mul, Nat.one_mul]
    omega
theorem join_len {y : Str} {ts : List Str} {b : Nat} (h : ∀ t ∈ ts, t.length ≤ b) : (Str.join y ts).length ≤ ts.length * (b + y.length) := by
  have h1 := StrLaws.join_length_le y ts
  have h2 := sum_le h
  rw [Nat.mul_add]
  omega
noncomputable def line (n d : Nat) : Str := if d = 1 then txt (n : Int) else txt (n : Int) ++ Str.ofString "/" ++ txt (d : Int)
theorem line_join (n d : Nat) : line n d = Str.join (Str.ofString "/") (if d = 1 then [txt (n : Int)] else [txt (n : Int), txt (d : Int)]) := by
  unfold line
  split <;> rfl
theorem free_line {c n d : Nat} (h : c < 47 ∨ 57 < c) : c ∉ (line n d).cps.toList := by
  rw [line_join]
  refine free_join ?_ fun t ht => ?_
  · show c ∉ [47]
    simp only [List.mem_singleton]
    omega
  · split at ht
    · rw [List.mem_singleton.mp ht]
      exact free_txt (by omega)
    · simp only [List.mem_cons, List.not_mem_nil, or_false] at ht
      rcases ht with rfl | rfl <;> exact free_txt (by omega)
theorem line_len {n d : Nat} (hn : n < 10 ^ 40) (hd : d < 10 ^ 40) : (line n d).length ≤ 81 := by
  have h1 := txt_len (k := 40) (by decide) hn
  have h2 := txt_len (k := 40) (by decide) hd
  unfold line
  split
  · omega
  · rw [app_len, app_len]
    have : (Str.ofString "/").length = 1 := rfl
    omega
noncomputable abbrev sp1 : Str := Str.ofString " "
noncomputable abbrev spC : Str := Str.ofString ", "
noncomputable abbrev spS : Str := Str.ofString "; "
noncomputable abbrev spB : Str := Str.ofString " | "
noncomputable def ropeTx (f : Nat) (r : Rope) : Str := Str.join sp1 [txt (r.1 : Int), txt (r.2.1 : Int), line (r.2.2.num.toNat * f) (r.2.2.den * f)]
noncomputable def turnTx (t : List Int) : Str := Str.join sp1 (t.map txt)
noncomputable def netTx (n f : Nat) (rs : List Rope) (ts : List (List Int)) : Str := Str.join spS [txt (n : Int), Str.join spC (rs.map (ropeTx f)), Str.join spB (ts.map turnTx)]
theorem split_sp {ts : List Str} (hne : ts ≠ []) (h : ∀ t ∈ ts, 32 ∉ t.cps.toList) : Txt.split (Str.join sp1 ts) sp1 = ts := split_join (c := 32) (j := 0) rfl (fun i hi => by have := (List.getElem?_eq_some_iff.mp hi).1; have e : sp1.cps.toList.length = 1 := rfl; omega) (by decide +kernel) hne h
theorem split_sl {ts : List Str} (hne : ts ≠ []) (h : ∀ t ∈ ts, 47 ∉ t.cps.toList) : Txt.split (Str.join (Str.ofString "/") ts) (Str.ofString "/") = ts := split_join (c := 47) (j := 0) rfl (fun i hi => by have := (List.getElem?_eq_some_iff.mp hi).1; have e : (Str.ofString "/").cps.toList.length = 1 := rfl; omega) (by decide +kernel) hne h
theorem two_at {a b i : Nat} (ab : a ≠ b) (h : ([a, b] : List Nat)[i]? = some a) : i = 0 := by
  match i, h with
  | 0, _ => rfl
  | 1, h => exact absurd (Option.some.inj h) (Ne.symm ab)
  | i + 2, h => simp at h
theorem split_sc {ts : List Str} (hne : ts ≠ []) (h : ∀ t ∈ ts, 44 ∉ t.cps.toList) : Txt.split (Str.join spC ts) spC = ts := split_join (c := 44) (j := 0) rfl (fun i hi => two_at (b := 32) (by decide) hi) (by decide +kernel) hne h
theorem split_ss {ts : List Str} (hne : ts ≠ []) (h : ∀ t ∈ ts, 59 ∉ t.cps.toList) : Txt.split (Str.join spS ts) spS = ts := split_join (c := 59) (j := 0) rfl (fun i hi => two_at (b := 32) (by decide) hi) (by decide +kernel) hne h
theorem three_at {i : Nat} (h : ([32, 124, 32] : List Nat)[i]? = some 124) : i = 1 := by
  match i, h with
  | 0, h => exact absurd (Option.some.inj h) (by decide)
  | 1, _ => rfl
  | 2, h => exact absurd (Option.some.inj h) (by decide)
  | i + 3, h => simp at h
theorem split_sb {ts : List Str} (hne : ts ≠ []) (h : ∀ t ∈ ts, 124 ∉ t.cps.toList) : Txt.split (Str.join spB ts) spB = ts := split_join (c := 124) (j := 1) rfl (fun i hi => three_at hi) (by decide +kernel) hne h
theorem free_rope {c f : Nat} {r : Rope} (h : c < 47 ∨ 57 < c) (h2 : c ≠ 32) : c ∉ (ropeTx f r).cps.toList := by
  refine free_join (by show c ∉ [32]; simpa using h2) fun t ht => ?_
  simp only [List.mem_cons, List.not_mem_nil, or_false] at ht
  rcases ht with rfl | rfl | rfl
  · exact free_txt (by omega)
  · exact free_txt (by omega)
  · exact free_line h
theorem free_turn {c : Nat} {t : List Int} (ht : ∀ x ∈ t, 0 ≤ x) (h : c < 48 ∨ 57 < c) (h2 : c ≠ 32) : c ∉ (turnTx t).cps.toList := by
  refine free_join (by show c ∉ [32]; simpa using h2) fun u hu => ?_
  obtain ⟨x, hx, rfl⟩ := List.mem_map.mp hu
  obtain ⟨n, rfl⟩ := Int.eq_ofNat_of_zero_le (ht x hx)
  exact free_txt h
theorem rope_len {f : Nat} {r : Rope} (h1 : r.1 < 1000) (h2 : r.2.1 < 1000) (h3 : r.2.2.num.toNat * f < 10 ^ 40) (h4 : r.2.2.den * f < 10 ^ 40) : (ropeTx f r).length ≤ 100 := by
  have a := txt_len (n := r.1) (k := 3) (by decide) h1
  have b := txt_len (n := r.2.1) (k := 3) (by decide) h2
  have c := line_len h3 h4
  show (txt (r.1 : Int) ++ sp1 ++ (txt (r.2.1 : Int) ++ sp1 ++ line _ _)).length ≤ 100
  rw [app_len, app_len, app_len, app_len]
  have : sp1.length = 1 := rfl
  omega
theorem turn_len {t : List Int} (ht : ∀ x ∈ t, 0 ≤ x ∧ x < 1000) : (turnTx t).length ≤ t.length * 4 := by
  have := join_len (y := sp1) (ts := t.map txt) (b := 3) fun u hu => by
    obtain ⟨x, hx, rfl⟩ := List.mem_map.mp hu
    obtain ⟨h0, h1⟩ := ht x hx
    obtain ⟨n, rfl⟩ := Int.eq_ofNat_of_zero_le h0
    exact txt_len (by decide) (by omega)
  rw [List.length_map] at this
  exact this
end My
namespace My
open PySem L2 Mth
theorem bt_str : bootBuiltins "str" = some (.type "str") := by decide +kernel
theorem bt_int2 : bootBuiltins "int" = some (.type "int") := by decide +kernel
theorem ease_nat {q : Rat} (h : EaseK q) : ∃ n : Nat, q.num = (n : Int) ∧ q.num.toNat = n ∧ 0 < n ∧ n < 10 ^ 40 ∧ q.den < 10 ^ 40 := by
  obtain ⟨h1, h2, h3⟩ := h
  exact ⟨q.num.toNat, by omega, rfl, by omega, by omega, by omega⟩
section
variable {P : Program} {w : World} {K : PySem.W.Frag} {mg : Str → Option Value} {base : Heap} {f g h f1 f2 f3 f4 f5 : Addr} {fd gd hd d1 d2 d3 d4 d5 : FuncData}
inductive SpFigR (vs : List V) (H : Hp) (Q : VK) : Prop
  | mk (n : Nat) (h_0 : vs = [.int (n : Int)]) (h_1 : n < 10 ^ 60) (h_2 : ∀ H', Same H H' → Q (.str (txt (n : Int))) H') : SpFigR vs H Q
noncomputable def spFig : Sp := fun vs H Q _ => SpFigR vs H Q
theorem scFg : FnScope ["number", "piece", "rest", "pieces"] ["number"] (defScope s_figures) := ⟨rfl, rfl, rfl, by decide +kernel, rfl, by decide +kernel, by decide +kernel⟩
theorem p64 : (10 : Int) ^ ((64 : Int).toNat) = ((10 ^ 64 : Nat) : Int) := by decide
set_option maxHeartbeats 4000000 in
theorem ok_figures (F : Fun K "figures" "figures" s_figures f fd) (ma : mg "abs" = none) (mt : mg "str" = none) (mv : mg "reversed" = none) : FnOk P w K mg base CX0 1 f fd ["number"] spFig := by
  refine F.ok scFg (fun vs H Q E h => ?_) (fun cdv A outer s H vs Q E hr h => ?_)
  · obtain ⟨n, rfl, _⟩ := h
    rfl
  obtain ⟨n, rfl, hb, q⟩ := h
  refine ⟨_, pss_cons (ps_set (i := 1) scFg.nd rfl (Or.inl rfl) (pe_op op_pow pe_int pe_int))
    (pss_cons (ps_set (i := 2) scFg.nd rfl (Or.inl rfl) (pe_callB call_abs (by rfl) ma bt_abs (pa_cons (pv 0) pa_nil)))
    (pss_cons (ps_set (i := 3) scFg.nd rfl (Or.inl rfl) (pe_lst pa_nil))
    (pss_cons (ps_while PassesOwn.never (pt_cmpR op_ge (pv 2) (pv 1) (nomark _)) pss_never)
    (pss_cons (ps_expr (pe_bmK K PySem.F.plainAttrs_list PySem.F.slot_list_append PySem.F.type_list_append mt_append (pv 3) (pa_cons (pe_callTy call_str_int (by rfl) mt bt_str (pa_cons (pv 2) pa_nil)) pa_nil)))
    (pss_cons (ps_if (pt_cmpR op_lt (pv 0) pe_int (nomark _)) pss_never pss_nil)
    (pss_one (ps_ret (pe_joinRev rfl (by rfl) mv (pv 3))))))))), ?_⟩
  refine ⟨_, _, rfl, rfl, ⟨by decide, by decide, by decide⟩, _, rfl, _, rfl, by show 0 ≤ sizeLine; decide, fun l hl => ?_⟩
  dsimp only
  have h64 : (10 : Nat) ^ 60 < 10 ^ 64 := by decide
  rw [p64, if_neg (show ¬ ((n : Nat) : Int) < 0 by omega)]
  have s1 := same_new hl (.lst [])
  have e1 : (upd H l (.lst [])) l = some (.lst (([] : List Str).map V.str)) := upd_same
  refine while_by (fun σ H2 => σ = [some (.int (n : Int)), some (.int ((10 ^ 64 : Nat) : Int)), some (.int (n : Int)), some (.ref l)] ∧ H2 = upd H l (.lst [])) (fun _ _ => 0) ⟨rfl, rfl⟩ ?_ ?_
  · rintro σ H2 ⟨rfl, rfl⟩
    refine ⟨_, rfl, _, rfl, _, _, rfl, rfl, _, rfl, iteDF (by omega) ?_⟩
    refine ⟨_, rfl, .inl ⟨rfl, _, SqL.of e1⟩, _, rfl, _, rfl, slog (by omega), l, _, _, rfl, rfl, e1, by show 0 < sizeLine; decide, ?_⟩
    refine ⟨_, rfl, _, _, rfl, rfl, _, rfl, iteDF (by omega) ?_⟩
    refine ⟨_, rfl, l, [txt (n : Int)], rfl, upd_same, ?_, ?_⟩
    · have := txt_len (k := 60) (by decide) hb
      show (txt (n : Int)).length + 0 + 1 * 0 ≤ 16777216
      omega
    · show Q (.str (Builtin.Str.glued _ [txt (n : Int)])) _
      rw [StrLaws.glued_eq_join]
      exact q _ (s1.up hl _)
  · rintro σ H2 Q1 Q2 hq ⟨v, e, v2, e2, i, j, e3, e4, b, eb, z⟩
    exact ⟨v, e, v2, e2, i, j, e3, e4, b, eb, hq _ _ z⟩
inductive SpWrR (vs : List V) (H : Hp) (Q : VK) : Prop
  | mk (p : Addr) (x : Rat) (h_0 : vs = [.ref p]) (h_1 : FrR H p x) (h_2 : EaseK x) (h_3 : ∀ H', Same H H' → Q (.str (line x.num.toNat x.den)) H') : SpWrR vs H Q
noncomputable def spWr : Sp := fun vs H Q _ => SpWrR vs H Q
theorem scWr : FnScope ["one"] ["one"] (defScope sWritten) := ⟨rfl, rfl, rfl, by decide +kernel, rfl, by decide +kernel, by decide +kernel⟩
theorem fit1 {n : Nat} (h : n < 10 ^ 60) (y : Str) (hy : y.length ≤ 1000) : (txt (n : Int)).length + y.length ≤ sizeLine := by
  have := txt_len (k := 60) (by decide) h
  rw [sizeLine_eq]
  omega
theorem fit2 {n d : Nat} (h : n < 10 ^ 60) (h' : d < 10 ^ 60) : (txt (n : Int) ++ Str.ofString "/").length + (txt (d : Int)).length ≤ sizeLine := by
  have a := txt_len (k := 60) (by decide) h
  have b := txt_len (k := 60) (by decide) h'
  have e : (Str.ofString "/").length = 1 := rfl
  rw [sizeLine_eq, app_len, e]
  omega
set_option maxHeartbeats 4000000 in
theorem ok_written (F : Fun K "written" "written" sWritten f fd) (G : FnOk P w K mg base CX0 1 g gd ["number"] spFig) (bG : Binds K gd ["number"] []) (kG : PySem.W.keepIn K (.ref g) = true) (mG : mg "figures" = some (.ref g)) : FnOk P w K mg base CX0 2 f fd ["one"] spWr := by
  refine F.ok scWr (fun vs H Q E h => ?_) (fun cdv A outer s H vs Q E hr h => ?_)
  · obtain ⟨p, x, rfl, _⟩ := h
    rfl
  obtain ⟨p, x, rfl, hp, ek, q⟩ := h
  refine ⟨_, pss_cons (ps_if (pt_cmpR op_eq (pe_ix (ixT (K := K)) (pv 0) pe_int (fun _ _ => rfl)) pe_int (nomark _)) (pss_one (ps_ret (pe_call G hr (by rfl) mG kG bG .nil pass0 (pa_cons (pe_ix (ixT (K := K)) (pv 0) pe_int (fun _ _ => rfl)) pa_nil)))) pss_nil)
    (pss_one (ps_ret (pe_op op_add_str (pe_op op_add_str (pe_call G hr (by rfl) mG kG bG .nil pass0 (pa_cons (pe_ix (ixT (K := K)) (pv 0) pe_int (fun _ _ => rfl)) pa_nil)) pe_str) (pe_call G hr (by rfl) mG kG bG .nil pass0 (pa_cons (pe_ix (ixT (K := K)) (pv 0) pe_int (fun _ _ => rfl)) pa_nil))))), ?_⟩
  obtain ⟨n, e1, e2, _, n40, d40⟩ := ease_nat ek
  have hp' : H p = some (.tup [.int x.num, .int x.den]) := hp
  have n60 : n < 10 ^ 60 := by have : (10 : Nat) ^ 40 < 10 ^ 60 := by decide
                               omega
  have d60 : x.den < 10 ^ 60 := by have : (10 : Nat) ^ 40 < 10 ^ 60 := by decide
                                   omega
  rw [e1] at hp'
  rw [e2] at q
  unfold line at q
  refine ⟨_, rfl, p, _, _, _, rfl, rfl, SqT.of hp', at1, rfl, _, rfl, ?_⟩
  by_cases h1 : x.den = 1
  · refine iteDT (iv (by omega)) ?_
    rw [if_pos h1] at q
    exact ⟨_, rfl, p, _, _, _, rfl, rfl, SqT.of hp', at0, n, rfl, n60, fun H' sm => q H' sm⟩
  · refine iteDF (ivn (by omega)) ?_
    rw [if_neg h1] at q
    refine ⟨_, rfl, p, _, _, _, rfl, rfl, SqT.of hp', at0, n, rfl, n60, fun H1 s1 => ?_⟩
    refine ⟨_, _, rfl, rfl, fit1 n60 _ (by decide), _, rfl, p, _, _, _, rfl, rfl, SqT.of (s1 _ _ hp'), at1, x.den, rfl, d60, fun H2 s2 => ?_⟩
    exact ⟨_, _, rfl, rfl, fit2 n60 d60, q H2 (s1.trans s2)⟩
inductive SpRtR (vs : List V) (H : Hp) (Q : VK) : Prop
  | mk (a : Addr) (r : Rope) (h_0 : vs = [.ref a]) (h_1 : RopeR H a r) (h_2 : EaseK r.2.2) (h_3 : r.1 < 1000) (h_4 : r.2.1 < 1000) (h_5 : ∀ H', Same H H' → Q (.str (ropeTx 1 r)) H') : SpRtR vs H Q
noncomputable def spRt : Sp := fun vs H Q _ => SpRtR vs H Q
theorem scRt : FnScope ["rope"] ["rope"] (defScope s_rope_text) := ⟨rfl, rfl, rfl, by decide +kernel, rfl, by decide +kernel, by decide +kernel⟩
theorem tx4 (a b c : Str) : a ++ sp1 ++ b ++ sp1 ++ c = Str.join sp1 [a, b, c] := by
  show _ = a ++ sp1 ++ (b ++ sp1 ++ c)
  rw [app_assoc (a ++ sp1), app_assoc (a ++ sp1)]
theorem fit4 {i j : Nat} (hi : i < 1000) (hj : j < 1000) {y : Str} (hy : y.length ≤ 81) : (txt (i : Int)).length + sp1.length ≤ sizeLine ∧ (txt (i : Int) ++ sp1).length + (txt (j : Int)).length ≤ sizeLine ∧ (txt (i : Int) ++ sp1 ++ txt (j : Int)).length + sp1.length ≤ sizeLine ∧ (txt (i : Int) ++ sp1 ++ txt (j : Int) ++ sp1).length + y.length ≤ sizeLine := by
  have a := txt_len (n := i) (k := 3) (by decide) hi
  have b := txt_len (n := j) (k := 3) (by decide) hj
  have e : sp1.length = 1 := rfl
  rw [sizeLine_eq]
  simp only [app_len]
  omega
set_option maxHeartbeats 4000000 in
theorem ok_ropeT (F : Fun K "rope_text" "rope_text" s_rope_text f fd) (G : FnOk P w K mg base CX0 2 g gd ["one"] spWr) (bG : Binds K gd ["one"] []) (kG : PySem.W.keepIn K (.ref g) = true) (mG : mg "written" = some (.ref g)) (mt : mg "str" = none) : FnOk P w K mg base CX0 3 f fd ["rope"] spRt := by
  refine F.ok scRt (fun vs H Q E h => ?_) (fun cdv A outer s H vs Q E hr h => ?_)
  · obtain ⟨a, r, rfl, _⟩ := h
    rfl
  obtain ⟨a, r, rfl, ⟨e, ha, he⟩, ek, r1, r2, q⟩ := h
  refine ⟨_, pss_one (ps_ret (pe_op op_add_str (pe_op op_add_str (pe_op op_add_str (pe_op op_add_str (pe_callTy call_str_int (by rfl) mt bt_str (pa_cons (pe_ix (ixT (K := K)) (pv 0) pe_int (fun _ _ => rfl)) pa_nil)) pe_str) (pe_callTy call_str_int (by rfl) mt bt_str (pa_cons (pe_ix (ixT (K := K)) (pv 0) pe_int (fun _ _ => rfl)) pa_nil))) pe_str) (pe_call G hr (by rfl) mG kG bG .nil pass0 (pa_cons (pe_ix (ixT (K := K)) (pv 0) pe_int (fun _ _ => rfl)) pa_nil)))), ?_⟩
  have th : (1000 : Nat) < 10 ^ 64 := by decide
  obtain ⟨n, _, e2, _, n40, d40⟩ := ease_nat ek
  obtain ⟨f1, f2, f3, f4⟩ := fit4 r1 r2 (line_len (n := r.2.2.num.toNat) (by rw [e2]; exact n40) d40)
  refine ⟨_, rfl, a, _, _, _, rfl, rfl, SqT.of ha, t3_0 _ _ _, _, rfl, slog (by omega), _, _, rfl, rfl, f1, _, rfl, a, _, _, _, rfl, rfl, SqT.of ha, t3_1 _ _ _, _, rfl, slog (by omega), _, _, rfl, rfl, f2, _, _, rfl, rfl, f3, _, rfl, a, _, _, _, rfl, rfl, SqT.of ha, t3_2 _ _ _, e, r.2.2, rfl, he, ek, fun H' s' => ?_⟩
  refine ⟨_, _, rfl, rfl, f4, ?_⟩
  rw [tx4]
  have := q H' s'
  unfold ropeTx at this
  rw [Nat.mul_one, Nat.mul_one] at this
  exact this
inductive SpTtR (vs : List V) (H : Hp) (Q : VK) : Prop
  | mk (a : Addr) (t : List Int) (h_0 : vs = [.ref a]) (h_1 : IntsT H a t) (h_2 : ∀ x ∈ t, 0 ≤ x ∧ x < 1000) (h_3 : t.length ≤ 1000) (h_4 : ∀ H', Same H H' → Q (.str (turnTx t)) H') : SpTtR vs H Q
noncomputable def spTt : Sp := fun vs H Q _ => SpTtR vs H Q
theorem scTt : FnScope ["turn"] ["turn"] (defScope s_turn_text) := ⟨rfl, rfl, rfl, by decide +kernel, rfl, by decide +kernel, by decide +kernel⟩
theorem ndEnd : (["end"] : List Str).Nodup := by decide +kernel
theorem ends_sum {t : List Int} (h : ∀ x ∈ t, 0 ≤ x ∧ x < 1000) (hl : t.length ≤ 1000) : ((t.map txt).map (·.length)).sum + (t.map txt).length * sp1.length ≤ 16777216 := by
  have := sum_le (ts := t.map txt) (b := 3) fun u hu => by
    obtain ⟨x, hx, rfl⟩ := List.mem_map.mp hu
    obtain ⟨h0, h1⟩ := h x hx
    obtain ⟨n, rfl⟩ := Int.eq_ofNat_of_zero_le h0
    exact txt_len (by decide) (by omega)
  have e : sp1.length = 1 := rfl
  rw [List.length_map] at this ⊢
  rw [e]
  omega
theorem ends_comp {H1 : Hp} {a acc : Addr} {t : List Int} {G : Hp → Prop} {K : PySem.W.Frag} (ha : H1 a = some (.tup (t.map V.int))) (ht : ∀ x ∈ t, 0 ≤ x ∧ x < 1000) (hl : t.length ≤ 1000) (hacc : H1 acc = none) (fin : ∀ H2, Same H1 H2 → H2 acc = some (.lst ((t.map txt).map V.str)) → G H2) :
    ∃ W : Nat → Nat → List V → St → Hp → Prop, (∃ m, W 0 m [] [none] (upd H1 acc (.lst []))) ∧ ∀ i m ys σc H2, W i m ys σc H2 →
      ((Itt K a).stop i H2 ∧ G H2) ∨ ((Itt K a).go i H2 ∧ ∀ x H3, (Itt K a).yld i H2 x H3 → gName 0 x σc H3 fun σ4 H4 => tCB (fun xs H Q => ∃ i : Int, xs = [.int i] ∧ i.natAbs.log2 < 1920 ∧ Q (.str (toString i)) H) (tCons (tVar 0) tNil) σ4 H4 fun v H6 => H6 acc = some (.lst ys) ∧ ys.length < sizeLine ∧ ∃ m', m' < m ∧ W (i + 1) m' (ys ++ [v]) σ4 (upd H6 acc (.lst (ys ++ [v])))) := by
  refine comp_run (run_tup ha) (by rw [List.length_map]; omega) hacc (fun i ys σ hp => ys = ((t.map txt).take i).map V.str ∧ ∃ u, σ = [u]) ⟨rfl, none, rfl⟩ ?_ ?_
  · rintro i ys σ H3 x H4 hi sm hacc2 ⟨rfl, u, rfl⟩ ⟨rfl, hx⟩ Cc hC
    obtain ⟨e, rfl, he⟩ := int_at hx
    obtain ⟨h0, h1⟩ := ht e (List.mem_of_getElem? he)
    obtain ⟨n, rfl⟩ := Int.eq_ofNat_of_zero_le h0
    have th : (1000 : Nat) < 10 ^ 64 := by decide
    refine ⟨_, rfl, _, rfl, slog (by omega), hC _ _ _ (Same.refl _) ⟨?_, _, rfl⟩⟩
    rw [take_snoc (show (t.map txt)[i]? = some (txt (n : Int)) by rw [List.getElem?_map, he]; rfl), List.map_append]
    rfl
  · rintro ys σ H4 s4 ha4 hl4 ⟨rfl, u, rfl⟩
    rw [List.length_map, List.take_of_length_le (by rw [List.length_map]; exact Nat.le_refl _)] at ha4
    exact fin H4 s4 ha4
set_option maxHeartbeats 4000000 in
theorem ok_turnT (F : Fun K "turn_text" "turn_text" s_turn_text f fd) (mt : mg "str" = none) : FnOk P w K mg base CX0 1 f fd ["turn"] spTt := by
  refine F.ok scTt (fun vs H Q E h => ?_) (fun cdv A outer s H vs Q E hr h => ?_)
  · obtain ⟨a, t, rfl, _⟩ := h
    rfl
  obtain ⟨a, t, rfl, ha, ht, hl, q⟩ := h
  refine ⟨_, pss_one (ps_ret (pe_bmK K PySem.F.plainAttrs_str PySem.F.slot_str_join PySem.F.type_str_join mt_join pe_str (pa_cons (pe_comp (Nc := ["end"]) (cap := []) (g := gName 0) (te := tCB (fun xs H Q => ∃ i : Int, xs = [.int i] ∧ i.natAbs.log2 < 1920 ∧ Q (.str (toString i)) H) (tCons (tVar 0) tNil)) rfl (piTup (K := K) (pv 0))
      (comp_mk rfl rfl (by decide +kernel) (by decide +kernel) (List.forall_mem_nil _) rfl (List.forall_mem_nil _)) (fun C fp pins s' H' => pg_name (i := 0) ndEnd rfl (Or.inl rfl))
      (fun C fp pins s' H' => pe_callTy call_str_int (by rfl) mt bt_str (pa_cons (pv 0) pa_nil))) pa_nil))), ?_⟩
  have ha' : H a = some (.tup (t.map V.int)) := ha
  refine ⟨rfl, _, rfl, a, rfl, ⟨_, SqT.of ha'⟩, fun acc hacc => ?_⟩
  refine ends_comp ha' ht hl hacc fun H2 s2 h2 => ?_
  exact ⟨_, acc, _, rfl, rfl, h2, ends_sum ht hl, q H2 s2⟩
end
end My
namespace My
open PySem L2 Mth
theorem net_ends {n : Nat} {rs : List Rope} {ts : List (List Int)} (N : NetW n rs ts) {t : List Int} (ht : t ∈ ts) : (∀ x ∈ t, 0 ≤ x ∧ x < 1000) ∧ t.length ≤ 30 := by
  have m14 := N.m14
  have := N.tlen ht
  refine ⟨fun x hx => ?_, by omega⟩
  have := (N.tn.mem x).mp (List.mem_flatten.mpr ⟨t, ht, hx⟩)
  obtain ⟨h1, h2⟩ := this
  push_cast at h2
  omega
theorem turns_sum {n : Nat} {rs : List Rope} {ts : List (List Int)} (N : NetW n rs ts) : ((ts.map turnTx).map (·.length)).sum + (ts.map turnTx).length * spB.length ≤ 16777216 ∧ (Str.join spB (ts.map turnTx)).length ≤ 2000 := by
  have n15 := N.n15
  have len := N.len
  have e : spB.length = 3 := rfl
  have b : ∀ u ∈ ts.map turnTx, u.length ≤ 120 := fun u hu => by
    obtain ⟨t, ht, rfl⟩ := List.mem_map.mp hu
    obtain ⟨h1, h2⟩ := net_ends N ht
    have := turn_len h1
    omega
  have h1 := sum_le b
  have h2 := join_len (y := spB) b
  rw [List.length_map] at h1 h2 ⊢
  rw [e] at h2 ⊢
  omega
noncomputable def SmF (f : Nat) (rs : List Rope) : Prop := ∀ r ∈ rs, r.2.2.num.toNat * f < 10 ^ 40 ∧ r.2.2.den * f < 10 ^ 40
theorem ropes_sum {n f : Nat} {rs : List Rope} {ts : List (List Int)} (N : NetW n rs ts) (S : SmF f rs) : ((rs.map (ropeTx f)).map (·.length)).sum + (rs.map (ropeTx f)).length * spC.length ≤ 16777216 ∧ (Str.join spC (rs.map (ropeTx f))).length ≤ 2000 := by
  have n15 := N.n15
  have m14 := N.m14
  have e : spC.length = 2 := rfl
  have b : ∀ u ∈ rs.map (ropeTx f), u.length ≤ 100 := fun u hu => by
    obtain ⟨r, hr, rfl⟩ := List.mem_map.mp hu
    obtain ⟨_, h2, h3⟩ := N.ease r hr
    exact rope_len (by omega) (by omega) (S r hr).1 (S r hr).2
  have h1 := sum_le b
  have h2 := join_len (y := spC) b
  rw [List.length_map] at h1 h2 ⊢
  rw [e] at h2 ⊢
  omega
theorem smf_one {n : Nat} {rs : List Rope} {ts : List (List Int)} (N : NetW n rs ts) : SmF 1 rs := fun r hr => by
  obtain ⟨m, e1, e2, _, h1, h2⟩ := ease_nat (N.ease r hr).1
  rw [Nat.mul_one, Nat.mul_one, e2]
  exact ⟨h1, h2⟩
theorem net_sum {n f : Nat} {rs : List Rope} {ts : List (List Int)} (N : NetW n rs ts) (S : SmF f rs) : (([txt (n : Int), Str.join spC (rs.map (ropeTx f)), Str.join spB (ts.map turnTx)] : List Str).map (·.length)).sum + 3 * spS.length ≤ 16777216 := by
  have n15 := N.n15
  have a := txt_len (n := n) (k := 3) (by decide) (by omega)
  have b := (turns_sum N).2
  have c := (ropes_sum N S).2
  have e : spS.length = 2 := rfl
  simp only [List.map_cons, List.map_nil, List.sum_cons, List.sum_nil]
  omega
section
variable {P : Program} {w : World} {K : PySem.W.Frag} {mg : Str → Option Value} {base : Heap} {f g h f1 f2 f3 f4 f5 : Addr} {fd gd hd d1 d2 d3 d4 d5 : FuncData}
inductive SpNtR (vs : List V) (H : Hp) (Q : VK) : Prop
  | mk (a ra ta : Addr) (n : Nat) (rs : List Rope) (ts : List (List Int)) (h_0 : vs = [.ref a]) (h_1 : H a = some (.tup [.int (n : Int), .ref ra, .ref ta])) (h_2 : NetW n rs ts) (h_3 : TupR RopeR H ra rs) (h_4 : TupR IntsT H ta ts) (h_5 : ∀ H', Same H H' → Q (.str (netTx n 1 rs (ts.map begL))) H') : SpNtR vs H Q
noncomputable def spNt : Sp := fun vs H Q _ => SpNtR vs H Q
theorem scNt : FnScope ["net", "ropes", "turns"] ["net"] (defScope s_net_text) := ⟨rfl, rfl, rfl, by decide +kernel, rfl, by decide +kernel, by decide +kernel⟩
theorem ndRope : (["rope"] : List Str).Nodup := by decide +kernel
set_option maxHeartbeats 4000000 in
theorem ok_netT (F : Fun K "net_text" "net_text" s_net_text f fd) (G1 : FnOk P w K mg base CX0 3 f1 d1 ["rope"] spRt) (b1 : Binds K d1 ["rope"] []) (k1 : PySem.W.keepIn K (.ref f1) = true) (m1 : mg "rope_text" = some (.ref f1))
    (G2 : FnOk P w K mg base CX0 1 f2 d2 ["turn"] spTt) (b2 : Binds K d2 ["turn"] []) (k2 : PySem.W.keepIn K (.ref f2) = true) (m2 : mg "turn_text" = some (.ref f2))
    (G3 : FnOk P w K mg base CX0 2 f3 d3 ["turns"] spTold) (b3 : Binds K d3 ["turns"] []) (k3 : PySem.W.keepIn K (.ref f3) = true) (m3 : mg "told_turns" = some (.ref f3)) (mt : mg "str" = none) : FnOk P w K mg base CX0 4 f fd ["net"] spNt := by
  refine F.ok scNt (fun vs H Q E h => ?_) (fun cdv A outer s H vs Q E hr h => ?_)
  · obtain ⟨a, ra, ta, n, rs, ts, rfl, _⟩ := h
    rfl
  obtain ⟨a, ra, ta, n, rs, ts, rfl, ha, N, ⟨cs, hra, hC⟩, hT, q⟩ := h
  have r1 := hr.mono (show 1 ≤ 3 by decide)
  have r2 := hr.mono (show 2 ≤ 3 by decide)
  refine ⟨_, pss_cons (ps_set (i := 1) scNt.nd rfl (Or.inl rfl) (pe_bmK K PySem.F.plainAttrs_str PySem.F.slot_str_join PySem.F.type_str_join mt_join pe_str (pa_cons (pe_comp (Nc := ["rope"]) (cap := []) (g := gName 0) (te := tCall spRt [] E0 (tCons (tVar 0) tNil)) rfl (piTup (K := K) (pe_ix (ixT (K := K)) (pv 0) pe_int (fun _ _ => rfl)))
      (comp_mk rfl rfl (by decide +kernel) (by decide +kernel) (List.forall_mem_nil _) rfl (List.forall_mem_nil _)) (fun C fp pins s' H' => pg_name (i := 0) ndRope rfl (Or.inl rfl))
      (fun C fp pins s' H' => pe_call G1 hr (by rfl) m1 k1 b1 .nil pass0 (pa_cons (pv 0) pa_nil))) pa_nil)))
    (pss_cons (ps_set (i := 2) scNt.nd rfl (Or.inl rfl) (pe_bmK K PySem.F.plainAttrs_str PySem.F.slot_str_join PySem.F.type_str_join mt_join pe_str (pa_cons (pe_comp (Nc := ["turn"]) (cap := []) (g := gName 0) (te := tCall spTt [] E0 (tCons (tVar 0) tNil)) rfl (piTup (K := K) (pe_call G3 r2 (by rfl) m3 k3 b3 .nil pass0 (pa_cons (pe_ix (ixT (K := K)) (pv 0) pe_int (fun _ _ => rfl)) pa_nil)))
      (comp_mk rfl rfl (by decide +kernel) (by decide +kernel) (List.forall_mem_nil _) rfl (List.forall_mem_nil _)) (fun C fp pins s' H' => pg_name (i := 0) ndTurn rfl (Or.inl rfl))
      (fun C fp pins s' H' => pe_call G2 r1 (by rfl) m2 k2 b2 .nil pass0 (pa_cons (pv 0) pa_nil))) pa_nil)))
    (pss_one (ps_ret (pe_bmK K PySem.F.plainAttrs_str PySem.F.slot_str_join PySem.F.type_str_join mt_join pe_str (pa_cons (pe_lst (pa_cons (pe_callTy call_str_int (by rfl) mt bt_str (pa_cons (pe_ix (ixT (K := K)) (pv 0) pe_int (fun _ _ => rfl)) pa_nil)) (pa_cons (pv 1) (pa_cons (pv 2) pa_nil)))) pa_nil))))), ?_⟩
  have n15 := N.n15
  have m14 := N.m14
  obtain ⟨lb, rb⟩ := rots_beg ts
  have NB := N.rot lb rb
  refine ⟨rfl, _, rfl, a, _, _, _, rfl, rfl, SqT.of ha, t3_1 _ _ _, ra, rfl, ⟨_, SqT.of hra⟩, fun acc hacc => ?_⟩
  refine comp_run (run_tup hra) (by rw [List.length_map, hC.1]; omega) hacc (fun i ys σ hp => ys = ((rs.map (ropeTx 1)).take i).map V.str ∧ ∃ u, σ = [u]) ⟨rfl, none, rfl⟩ ?_ ?_
  · rintro i ys σ H3 x H4 hi sm hacc2 ⟨rfl, u, rfl⟩ ⟨rfl, hx⟩ Cc hCc
    obtain ⟨c, r, rfl, _, hy, hc⟩ := hC.ref hx
    obtain ⟨ek, e1, e2⟩ := N.ease r (List.mem_of_getElem? hy)
    refine ⟨_, rfl, c, r, rfl, mo_rope sm hc, ek, by omega, by omega, fun H5 s5 => ?_⟩
    refine hCc _ _ _ s5 ⟨?_, _, rfl⟩
    rw [take_snoc (show (rs.map (ropeTx 1))[i]? = some (ropeTx 1 r) by rw [List.getElem?_map, hy]; rfl), List.map_append]
    rfl
  rintro ys σ H4 s4 ha4 hl4 ⟨rfl, u, rfl⟩
  rw [List.length_map, hC.1, List.take_of_length_le (by rw [List.length_map]; exact Nat.le_refl _)] at ha4
  refine ⟨_, acc, _, rfl, rfl, ha4, (ropes_sum N (smf_one N)).1, ?_⟩
  refine ⟨rfl, _, rfl, a, _, _, _, rfl, rfl, SqT.of (s4 _ _ ha), t3_2 _ _ _, ta, ts, rfl, mo_tt s4 hT, by rw [N.len]; omega, fun t ht => ⟨N.ne t ht, by have := (net_ends N ht).2; omega⟩, fun tp H5 s5 htp => ?_⟩
  obtain ⟨bs, htp1, hB⟩ := htp
  refine ⟨tp, rfl, ⟨_, SqT.of htp1⟩, fun acc2 hacc2 => ?_⟩
  refine comp_run (run_tup htp1) (by rw [List.length_map, hB.1, List.length_map, N.len]; omega) hacc2 (fun i ys σ hp => ys = (((ts.map begL).map turnTx).take i).map V.str ∧ ∃ u, σ = [u]) ⟨rfl, none, rfl⟩ ?_ ?_
  · rintro i ys σ H6 x H7 hi sm hacc3 ⟨rfl, u, rfl⟩ ⟨rfl, hx⟩ Cc hCc
    obtain ⟨c, t, rfl, _, hy, hc⟩ := hB.ref hx
    obtain ⟨h1, h2⟩ := net_ends NB (List.mem_of_getElem? hy)
    refine ⟨_, rfl, c, t, rfl, sm _ _ hc, h1, by omega, fun H8 s8 => ?_⟩
    refine hCc _ _ _ s8 ⟨?_, _, rfl⟩
    rw [take_snoc (show ((ts.map begL).map turnTx)[i]? = some (turnTx t) by rw [List.getElem?_map, hy]; rfl), List.map_append]
    rfl
  rintro ys σ H6 s6 ha6 hl6 ⟨rfl, u, rfl⟩
  rw [List.length_map, hB.1, List.take_of_length_le (by rw [List.length_map]; exact Nat.le_refl _)] at ha6
  refine ⟨_, acc2, _, rfl, rfl, ha6, (turns_sum NB).1, ?_⟩
  have s46 := s4.trans (s5.trans s6)
  have th : (1000 : Nat) < 10 ^ 64 := by decide
  refine ⟨rfl, _, rfl, a, _, _, _, rfl, rfl, SqT.of (s46 _ _ ha), t3_0 _ _ _, _, rfl, slog (by omega), _, rfl, _, rfl, by show 3 ≤ sizeLine; decide, fun l hl => ?_⟩
  exact ⟨_, l, [txt (n : Int), Str.join spC (rs.map (ropeTx 1)), Str.join spB ((ts.map begL).map turnTx)], rfl, rfl, upd_same, net_sum NB (smf_one N), q _ (s46.trans (same_new hl _))⟩
inductive SpEtR (vs : List V) (H : Hp) (Q : VK) : Prop
  | mk (p : Addr) (x : Rat) (k : Nat) (h_0 : vs = [.ref p, .int (k : Int)]) (h_1 : FrR H p x) (h_2 : EaseS x) (h_3 : 1 ≤ k) (h_4 : k ≤ 9) (h_5 : Q (.str (line (x.num.toNat * k) (x.den * k))) H) : SpEtR vs H Q
noncomputable def spEt : Sp := fun vs H Q _ => SpEtR vs H Q
theorem scEt : FnScope ["_law_ease_here", "_law_factor"] ["_law_ease_here", "_law_factor"] (defScope s_law_ease_text) := ⟨rfl, rfl, rfl, by decide +kernel, rfl, by decide +kernel, by decide +kernel⟩
theorem smf_of {x : Rat} {k : Nat} (h : EaseS x) (h9 : k ≤ 9) : x.num.toNat * k < 10 ^ 40 ∧ x.den * k < 10 ^ 40 := by
  obtain ⟨⟨h1, _, _⟩, h2, h3⟩ := h
  have a := Nat.mul_le_mul_left x.num.toNat h9
  have b := Nat.mul_le_mul_left x.den h9
  omega
set_option maxHeartbeats 4000000 in
theorem ok_easeT (F : Fun K "_law_ease_text" "_law_ease_text" s_law_ease_text f fd) (mt : mg "str" = none) : FnOk P w K mg base CX0 1 f fd ["_law_ease_here", "_law_factor"] spEt := by
  refine F.ok scEt (fun vs H Q E h => ?_) (fun cdv A outer s H vs Q E hr h => ?_)
  · obtain ⟨p, x, k, rfl, _⟩ := h
    rfl
  obtain ⟨p, x, k, rfl, hp, es, k1, k9, q⟩ := h
  refine ⟨_, pss_cons (ps_if (pt_cmpR op_eq (pe_op op_mul (pe_ix (ixT (K := K)) (pv 0) pe_int (fun _ _ => rfl)) (pv 1)) pe_int (nomark _)) (pss_one (ps_ret (pe_callTy call_str_int (by rfl) mt bt_str (pa_cons (pe_ix (ixT (K := K)) (pv 0) pe_int (fun _ _ => rfl)) pa_nil)))) pss_nil)
    (pss_one (ps_ret (pe_op op_add_str (pe_op op_add_str (pe_callTy call_str_int (by rfl) mt bt_str (pa_cons (pe_op op_mul (pe_ix (ixT (K := K)) (pv 0) pe_int (fun _ _ => rfl)) (pv 1)) pa_nil)) pe_str) (pe_callTy call_str_int (by rfl) mt bt_str (pa_cons (pe_op op_mul (pe_ix (ixT (K := K)) (pv 0) pe_int (fun _ _ => rfl)) (pv 1)) pa_nil))))), ?_⟩
  obtain ⟨n, e1, e2, n0, n40, d40⟩ := ease_nat es.k
  obtain ⟨m1, m2⟩ := smf_of es k9
  have hp' : H p = some (.tup [.int x.num, .int x.den]) := hp
  rw [e1] at hp'
  rw [e2] at q m1
  have cm : ∀ i : Int, CMul i (k : Int) := fun i => .inr ⟨by omega, by omega⟩
  have th : (10 : Nat) ^ 40 < 10 ^ 60 := by decide
  have th2 : (10 : Nat) ^ 60 < 10 ^ 64 := by decide
  have en : ((n : Nat) : Int) * (k : Int) = ((n * k : Nat) : Int) := by push_cast; rfl
  have ed : ((x.den : Nat) : Int) * (k : Int) = ((x.den * k : Nat) : Int) := by push_cast; rfl
  unfold line at q
  refine ⟨_, rfl, p, _, _, _, rfl, rfl, SqT.of hp', at1, _, rfl, _, _, rfl, rfl, cm _, rfl, _, rfl, ?_⟩
  by_cases h1 : x.den * k = 1
  · refine iteDT (iv (by rw [ed]; omega)) ?_
    rw [if_pos h1] at q
    have k1' : k = 1 := Nat.eq_one_of_mul_eq_one_left h1
    rw [k1', Nat.mul_one] at q
    exact ⟨_, rfl, p, _, _, _, rfl, rfl, SqT.of hp', at0, _, rfl, slog (by omega), q⟩
  · refine iteDF (ivn (by rw [ed]; omega)) ?_
    rw [if_neg h1] at q
    refine ⟨_, rfl, p, _, _, _, rfl, rfl, SqT.of hp', at0, _, rfl, _, _, rfl, rfl, cm _, _, rfl, ?_⟩
    rw [en]
    refine ⟨slog (by omega), _, _, rfl, rfl, fit1 (by omega) _ (by decide), _, rfl, p, _, _, _, rfl, rfl, SqT.of hp', at1, _, rfl, _, _, rfl, rfl, cm _, _, rfl, ?_⟩
    rw [ed]
    exact ⟨slog (by omega), _, _, rfl, rfl, fit2 (by omega) (by omega), q⟩
inductive SpLtR (vs : List V) (H : Hp) (Q : VK) : Prop
  | mk (ra ta : Addr) (n k : Nat) (rs : List Rope) (ts : List (List Int)) (h_0 : vs = [.int (n : Int), .ref ra, .ref ta, .int (k : Int)]) (h_2 : NetW n rs ts) (h_3 : TupR RopeR H ra rs) (h_4 : TupR IntsT H ta ts) (h_5 : 1 ≤ k) (h_6 : k ≤ 9) (h_7 : ∀ r ∈ rs, EaseS r.2.2) (h_8 : ∀ H', Same H H' → Q (.str (netTx n k rs ts)) H') : SpLtR vs H Q
noncomputable def spLt : Sp := fun vs H Q _ => SpLtR vs H Q
theorem scLt : FnScope ["_law_places", "_law_ropes", "_law_turns", "_law_factor", "_law_rows", "_law_lines"] ["_law_places", "_law_ropes", "_law_turns", "_law_factor"] (defScope s_law_text) := ⟨rfl, rfl, rfl, by decide +kernel, rfl, by decide +kernel, by decide +kernel⟩
theorem ndRF : (["_law_rope", "_law_factor"] : List Str).Nodup := by decide +kernel
theorem ndLTu : (["_law_turn"] : List Str).Nodup := by decide +kernel
theorem ndLEn : (["_law_end"] : List Str).Nodup := by decide +kernel
noncomputable abbrev rStr : List V → Hp → VK → Prop := fun xs H Q => ∃ i : Int, xs = [.int i] ∧ i.natAbs.log2 < 1920 ∧ Q (.str (toString i)) H
noncomputable abbrev rAdd : R2 := fun x y H Q => ∃ i j, x = .str i ∧ y = .str j ∧ i.length + j.length ≤ sizeLine ∧ Q (.str (i ++ j)) H
theorem tx5 (a b c : Str) : a ++ spS ++ b ++ spS ++ c = Str.join spS [a, b, c] := by
  show _ = a ++ spS ++ (b ++ spS ++ c)
  rw [app_assoc (a ++ spS), app_assoc (a ++ spS)]
theorem fit5 {i : Nat} {x y : Str} (h : (txt (i : Int)).length ≤ 3) (hx : x.length ≤ 2000) (hy : y.length ≤ 2000) : (txt (i : Int)).length + spS.length ≤ sizeLine ∧ (txt (i : Int) ++ spS).length + x.length ≤ sizeLine ∧ (txt (i : Int) ++ spS ++ x).length + spS.length ≤ sizeLine ∧ (txt (i : Int) ++ spS ++ x ++ spS).length + y.length ≤ sizeLine := by
  have e : spS.length = 2 := rfl
  rw [sizeLine_eq]
  simp only [app_len]
  omega
set_option maxHeartbeats 4000000 in
theorem ok_lawT (F : Fun K "_law_text" "_law_text" s_law_text f fd) (G1 : FnOk P w K mg base CX0 1 f1 d1 ["_law_ease_here", "_law_factor"] spEt) (b1 : Binds K d1 ["_law_ease_here", "_law_factor"] []) (k1 : PySem.W.keepIn K (.ref f1) = true) (m1 : mg "_law_ease_text" = some (.ref f1)) (mt : mg "str" = none) :
    FnOk P w K mg base CX0 2 f fd ["_law_places", "_law_ropes", "_law_turns", "_law_factor"] spLt := by
  refine F.ok scLt (fun vs H Q E h => ?_) (fun cdv A outer s H vs Q E hr h => ?_)
  · obtain ⟨ra, ta, n, k, rs, ts, rfl, _⟩ := h
    rfl
  obtain ⟨ra, ta, n, k, rs, ts, rfl, N, ⟨cs, hra, hC⟩, ⟨bs, hta, hB⟩, k1', k9, es, q⟩ := h
  refine ⟨_, pss_cons (ps_setComp (i := 4) scLt.nd rfl (Or.inl rfl) (Nc := ["_law_rope", "_law_factor"]) (cap := [(1, 3)]) (g := gName 0)
      (te := tOp rAdd (tOp rAdd (tOp rAdd (tOp rAdd (tCB rStr (tCons (tOp (rIxT K) (tVar 0) (tC (.int 0))) tNil)) (tC (.str sp1))) (tCB rStr (tCons (tOp (rIxT K) (tVar 0) (tC (.int 1))) tNil))) (tC (.str sp1))) (tCall spEt [] E0 (tCons (tOp (rIxT K) (tVar 0) (tC (.int 2))) (tCons (tVar 1) tNil)))) rfl (piTup (K := K) (pv 1))
      (comp_mk rfl rfl (by decide +kernel) (by decide +kernel) (List.forall_mem_cons.mpr ⟨⟨rfl, rfl⟩, List.forall_mem_nil _⟩) rfl (List.forall_mem_cons.mpr ⟨⟨_, _, rfl, rfl, rfl, rfl, rfl⟩, List.forall_mem_nil _⟩)) (fun C fp pins s' H' => pg_name (i := 0) ndRF rfl (Or.inl rfl))
      (fun C fp pins s' H' => pe_op op_add_str (pe_op op_add_str (pe_op op_add_str (pe_op op_add_str (pe_callTy call_str_int (by rfl) mt bt_str (pa_cons (pe_ix (ixT (K := K)) (pv 0) pe_int (fun _ _ => rfl)) pa_nil)) pe_str) (pe_callTy call_str_int (by rfl) mt bt_str (pa_cons (pe_ix (ixT (K := K)) (pv 0) pe_int (fun _ _ => rfl)) pa_nil))) pe_str) (pe_call G1 hr (by rfl) m1 k1 b1 .nil pass0 (pa_cons (pe_ix (ixT (K := K)) (pv 0) pe_int (fun _ _ => rfl)) (pa_cons (pv 1) pa_nil)))))
    (pss_cons (ps_setComp (i := 5) scLt.nd rfl (Or.inl rfl) (Nc := ["_law_turn"]) (cap := []) (g := gName 0)
      (te := tBM K "str" rJoin (tC (.str sp1)) (tCons (tComp 1 [] (iTup K (tVar 0)) (gName 0) (tCB rStr (tCons (tVar 0) tNil))) tNil)) rfl (piTup (K := K) (pv 2))
      (comp_mk rfl rfl (by decide +kernel) (by decide +kernel) (List.forall_mem_nil _) rfl (List.forall_mem_nil _)) (fun C fp pins s' H' => pg_name (i := 0) ndLTu rfl (Or.inl rfl))
      (fun C fp pins s' H' => pe_bmK K PySem.F.plainAttrs_str PySem.F.slot_str_join PySem.F.type_str_join mt_join pe_str (pa_cons (pe_comp (Nc := ["_law_end"]) (cap := []) (g := gName 0) (te := tCB rStr (tCons (tVar 0) tNil)) rfl (piTup (K := K) (pv 0))
        (comp_mk rfl rfl (by decide +kernel) (by decide +kernel) (List.forall_mem_nil _) rfl (List.forall_mem_nil _)) (fun C fp pins s' H' => pg_name (i := 0) ndLEn rfl (Or.inl rfl)) (fun C fp pins s' H' => pe_callTy call_str_int (by rfl) mt bt_str (pa_cons (pv 0) pa_nil))) pa_nil)))
    (pss_one (ps_ret (pe_op op_add_str (pe_op op_add_str (pe_op op_add_str (pe_op op_add_str (pe_callTy call_str_int (by rfl) mt bt_str (pa_cons (pv 0) pa_nil)) pe_str) (pe_bmK K PySem.F.plainAttrs_str PySem.F.slot_str_join PySem.F.type_str_join mt_join pe_str (pa_cons (pv 4) pa_nil))) pe_str) (pe_bmK K PySem.F.plainAttrs_str PySem.F.slot_str_join PySem.F.type_str_join mt_join pe_str (pa_cons (pv 5) pa_nil)))))), ?_⟩
  have n15 := N.n15
  have m14 := N.m14
  have S : SmF k rs := fun r hr => smf_of (es r hr) k9
  have th : (1000 : Nat) < 10 ^ 64 := by decide
  refine ⟨_, rfl, ra, rfl, ⟨_, SqT.of hra⟩, fun acc hacc => ?_⟩
  refine comp_run (run_tup hra) (by rw [List.length_map, hC.1]; omega) hacc (fun i ys σ hp => ys = ((rs.map (ropeTx k)).take i).map V.str ∧ ∃ u, σ = [u, some (.int (k : Int))]) ⟨rfl, none, rfl⟩ ?_ ?_
  · rintro i ys σ H3 x H4 hi sm hacc2 ⟨rfl, u, rfl⟩ ⟨rfl, hx⟩ Cc hCc
    obtain ⟨c, r, rfl, _, hy, e, hc, he⟩ := hC.ref hx
    have rm := List.mem_of_getElem? hy
    obtain ⟨ek, e1, e2⟩ := N.ease r rm
    have hc' := sm _ _ hc
    obtain ⟨f1, f2, f3, f4⟩ := fit4 (i := r.1) (j := r.2.1) (by omega) (by omega) (line_len (S r rm).1 (S r rm).2)
    refine ⟨_, rfl, c, _, _, _, rfl, rfl, SqT.of hc', t3_0 _ _ _, _, rfl, slog (by omega), _, _, rfl, rfl, f1, _, rfl, c, _, _, _, rfl, rfl, SqT.of hc', t3_1 _ _ _, _, rfl, slog (by omega), _, _, rfl, rfl, f2, _, _, rfl, rfl, f3, _, rfl, c, _, _, _, rfl, rfl, SqT.of hc', t3_2 _ _ _, _, rfl, e, r.2.2, k, rfl, mo_fr sm he, es r rm, k1', k9, ?_⟩
    refine ⟨_, _, rfl, rfl, f4, hCc _ _ _ (Same.refl _) ⟨?_, _, rfl⟩⟩
    rw [take_snoc (show (rs.map (ropeTx k))[i]? = some (ropeTx k r) by rw [List.getElem?_map, hy]; rfl), List.map_append, tx4]
    rfl
  rintro ys σ H4 s4 ha4 hl4 ⟨rfl, u, rfl⟩
  rw [List.length_map, hC.1, List.take_of_length_le (by rw [List.length_map]; exact Nat.le_refl _)] at ha4
  have hta4 := s4 _ _ hta
  refine ⟨_, rfl, ta, rfl, ⟨_, SqT.of hta4⟩, fun acc2 hacc2 => ?_⟩
  refine comp_run (run_tup hta4) (by rw [List.length_map, hB.1, N.len]; omega) hacc2 (fun i ys σ hp => ys = ((ts.map turnTx).take i).map V.str ∧ ∃ u, σ = [u]) ⟨rfl, none, rfl⟩ ?_ ?_
  · rintro i ys σ H6 x H7 hi sm hacc3 ⟨rfl, u, rfl⟩ ⟨rfl, hx⟩ Cc hCc
    obtain ⟨c, t, rfl, _, hy, hc⟩ := hB.ref hx
    obtain ⟨h1, h2⟩ := net_ends N (List.mem_of_getElem? hy)
    have hc' : H7 c = some (.tup (t.map V.int)) := (s4.trans sm) _ _ hc
    refine ⟨rfl, _, rfl, c, rfl, ⟨_, SqT.of hc'⟩, fun acc4 hacc4 => ?_⟩
    refine ends_comp hc' h1 (by omega) hacc4 fun H8 s8 h8 => ?_
    refine ⟨_, acc4, _, rfl, rfl, h8, ends_sum h1 (by omega), hCc _ _ _ s8 ⟨?_, _, rfl⟩⟩
    rw [take_snoc (show (ts.map turnTx)[i]? = some (turnTx t) by rw [List.getElem?_map, hy]; rfl), List.map_append]
    rfl
  rintro ys σ H6 s6 ha6 hl6 ⟨rfl, u, rfl⟩
  rw [List.length_map, hB.1, List.take_of_length_le (by rw [List.length_map]; exact Nat.le_refl _)] at ha6
  have a := txt_len (n := n) (k := 3) (by decide) (by omega)
  have b := (turns_sum N).2
  have c := (ropes_sum N S).2
  obtain ⟨f1, f2, f3, f4⟩ := fit5 (i := n) a c b
  refine ⟨_, rfl, _, rfl, slog (by omega), _, _, rfl, rfl, f1, rfl, _, rfl, _, acc, _, rfl, rfl, s6 _ _ ha4, (ropes_sum N S).1, _, _, rfl, rfl, f2, _, _, rfl, rfl, f3, rfl, _, rfl, _, acc2, _, rfl, rfl, ha6, (turns_sum N).1, _, _, rfl, rfl, f4, ?_⟩
  rw [tx5]
  exact q H6 (s4.trans s6)
end
end My
namespace My
open PySem L2 Mth
theorem str_at {ts : List Str} {i : Nat} {x : V} (h : (ts.map V.str)[i]? = some x) : ∃ t, x = .str t ∧ ts[i]? = some t := by
  rw [List.getElem?_map] at h
  obtain ⟨t, h1, h2⟩ := Option.map_eq_some_iff.mp h
  exact ⟨t, h2.symm, h1⟩
theorem txt_asc (n : Nat) : (txt (n : Int)).cps.all (· < 128) = true := by
  rw [← Array.all_toList, List.all_eq_true]
  intro c hc
  have := txt_dig hc
  exact decide_eq_true (by omega)
theorem txt_pos (n : Nat) : 1 ≤ (txt (n : Int)).length := by
  rw [len_l]
  exact List.length_pos_iff.mpr (txt_ne n)
theorem digs : (Str.ofString "0123456789").cps.toList = [48, 49, 50, 51, 52, 53, 54, 55, 56, 57] := by decide +kernel
theorem txt_zero : txt ((0 : Nat) : Int) = Str.ofString "0" := by decide +kernel
theorem one_ne {c : Nat} (h : c ≠ 48) : ¬ V.str ⟨#[c]⟩ = V.str (Str.ofString "0") := fun z => by
  have e : (⟨#[c]⟩ : Str).cps.toList = (Str.ofString "0").cps.toList := by rw [V.str.inj z]
  have e2 : (Str.ofString "0").cps.toList = [48] := by decide +kernel
  rw [e2] at e
  exact h (List.cons.inj e).1
theorem RopeR.del {H : Hp} {a b : Addr} {r : Rope} {ys : List V} (h : RopeR H b r) (e : H a = some (.lst ys)) : RopeR (del H a) b r := by
  obtain ⟨d, h1, h2⟩ := h
  have h2' : H d = some (.tup [.int r.2.2.num, .int r.2.2.den]) := h2
  refine ⟨d, del_at h1 fun z => ?_, del_at h2' fun z => ?_⟩
  · rw [z, e] at h1; cases h1
  · rw [z, e] at h2'; cases h2'
section
variable {P : Program} {w : World} {K : PySem.W.Frag} {mg : Str → Option Value} {base : Heap} {f g h f1 f2 f3 f4 f5 : Addr} {fd gd hd d1 d2 d3 d4 d5 : FuncData}
inductive SpInR (vs : List V) (H : Hp) (Q : VK) : Prop
  | mk (n k : Nat) (h_0 : vs = [.str (txt (n : Int)), .int (k : Int)]) (h_1 : 0 < k) (h_2 : k ≤ 600) (h_3 : n < 10 ^ k) (h_4 : Q (.bl true) H) : SpInR vs H Q
noncomputable def spIn : Sp := fun vs H Q _ => SpInR vs H Q
theorem scIn : FnScope ["text", "most", "sign"] ["text", "most"] (defScope s_is_number) := ⟨rfl, rfl, rfl, by decide +kernel, rfl, by decide +kernel, by decide +kernel⟩
set_option maxHeartbeats 4000000 in
theorem ok_isnum (F : Fun K "is_number" "is_number" s_is_number f fd) (ml : mg "len" = none) : FnOk P w K mg base CX0 1 f fd ["text", "most"] spIn := by
  refine F.ok scIn (fun vs H Q E h => ?_) (fun cdv A outer s H vs Q E hr h => ?_)
  · obtain ⟨n, k, rfl, _⟩ := h
    rfl
  obtain ⟨n, k, rfl, k0, k6, hn, q⟩ := h
  refine ⟨_, pss_cons (ps_if (PW.pt (pw_or (pt_cmpR op_lt (pe_callB call_len_str (by rfl) ml bt_len (pa_cons (pv 0) pa_nil)) pe_int (nomark _)) (pw_or1 (pt_cmpR op_gt (pe_callB call_len_str (by rfl) ml bt_len (pa_cons (pv 0) pa_nil)) (pv 1) (nomark _))))) (pss_one (ps_ret pe_bl)) pss_nil)
    (pss_cons (ps_for PassesOwn.never rfl (pi_str (pv 0)) (pg_name (i := 2) scIn.nd rfl (Or.inl rfl)) (pss_one (ps_if (pt_cmpR op_notin_str (pv 2) pe_str (by with_unfolding_all rfl)) (pss_one (ps_ret pe_bl)) pss_nil)))
    (pss_one (ps_ret (pe_or (pe_cmpR op_eq (pv 0) pe_str (nomark _)) (pe_one (pe_cmpR op_ne (pe_ix ix_str (pv 0) pe_int (fun _ _ => rfl)) pe_str (nomark _))))))), ?_⟩
  have len := txt_len k0 hn
  have pos := txt_pos n
  have zl : (txt (n : Int)).length ≤ sizeLine := by rw [sizeLine_eq]; omega
  have asc := txt_asc n
  have dg : ∀ {i c : Nat}, (txt (n : Int)).cps[i]? = some c → 48 ≤ c ∧ c ≤ 57 := fun {i c} hx => txt_dig (List.mem_of_getElem? (by rw [Array.getElem?_toList]; exact hx))
  have hd : n = 0 ∨ ∃ c, c ≠ 48 ∧ (txt (n : Int)).cps.toList[0]? = some c := by
    rcases Nat.eq_zero_or_pos n with z | z
    · exact .inl z
    · exact .inr (txt_head z)
  have hz : n = 0 → txt (n : Int) = Str.ofString "0" := fun z => by rw [z]; exact txt_zero
  generalize txt (n : Int) = t at *
  refine ⟨_, rfl, _, rfl, zl, _, _, rfl, rfl, _, rfl, iteDF (by omega) ?_⟩
  refine ⟨_, rfl, _, rfl, zl, _, rfl, _, _, rfl, rfl, _, rfl, iteDF (by omega) ?_⟩
  refine ⟨_, rfl, _, rfl, asc, ?_⟩
  refine for_str (fun i σ H2 => ∃ u, σ = [some (.str t), some (.int (k : Int)), u] ∧ H2 = H) ⟨none, rfl, rfl⟩ ?_ ?_
  · rintro i c σ H2 hx ⟨u, rfl, rfl⟩
    have := dg hx
    refine ⟨_, rfl, _, _, rfl, rfl, _, rfl, ?_⟩
    rw [StrLaws.found_one, digs]
    refine iteNS ?_ ⟨_, rfl, rfl⟩
    simp only [List.mem_cons, List.not_mem_nil, or_false]
    omega
  · rintro σ H2 ⟨u, rfl, rfl⟩
    refine ⟨_, rfl, rfl, _, rfl, ?_⟩
    by_cases z : t = Str.ofString "0"
    · exact iteDT (by rw [z]) q
    · refine iteDF (fun e => z (V.str.inj e)) ?_
      rcases hd with hd | ⟨c, c0, hc⟩
      · exact absurd (hz hd) z
      · refine ⟨_, rfl, _, _, c, rfl, rfl, zl, atI_nat (j := 0) hc, rfl, ?_⟩
        rw [decide_eq_false (one_ne c0)]
        exact q
inductive SpNrR (vs : List V) (H : Hp) (Q : VK) : Prop
  | mk (n k : Nat) (p : Int) (h_0 : vs = [.str (txt (n : Int)), .int (k : Int), .int p]) (h_1 : 0 < k) (h_2 : k ≤ 600) (h_3 : n < 10 ^ k) (h_4 : Q (.int (n : Int)) H) : SpNrR vs H Q
noncomputable def spNr : Sp := fun vs H Q _ => SpNrR vs H Q
theorem scNr : FnScope ["text", "most", "part"] ["text", "most", "part"] (defScope s_number_read) := ⟨rfl, rfl, rfl, by decide +kernel, rfl, by decide +kernel, by decide +kernel⟩
set_option maxHeartbeats 4000000 in
theorem ok_numR (F : Fun K "number_read" "number_read" s_number_read f fd) (G : FnOk P w K mg base CX0 1 g gd ["text", "most"] spIn) (bG : Binds K gd ["text", "most"] []) (kG : PySem.W.keepIn K (.ref g) = true) (mG : mg "is_number" = some (.ref g)) (mi : mg "int" = none) : FnOk P w K mg base CX0 2 f fd ["text", "most", "part"] spNr := by
  refine F.ok scNr (fun vs H Q E h => ?_) (fun cdv A outer s H vs Q E hr h => ?_)
  · obtain ⟨n, k, p, rfl, _⟩ := h
    rfl
  obtain ⟨n, k, p, rfl, k0, k6, hn, q⟩ := h
  refine ⟨_, pss_cons (ps_if (pt_not (pt_val (pe_call G hr (by rfl) mG kG bG .nil pass0 (pa_cons (pv 0) (pa_cons (pv 1) pa_nil))))) pss_never pss_nil)
    (pss_one (ps_ret (pe_callTy call_int_txt (by rfl) mi bt_int2 (pa_cons (pv 0) pa_nil)))), ?_⟩
  have len := txt_len k0 hn
  refine ⟨_, rfl, _, rfl, n, k, rfl, k0, k6, hn, _, rfl, iteF ?_⟩
  exact ⟨_, rfl, _, _, rfl, txt_reads k0 k6 hn, by omega, q⟩
theorem scF2 : FnScope ["top", "bottom", "part"] ["top", "bottom"] (defScope sFraction) := ⟨rfl, rfl, rfl, by decide +kernel, rfl, by decide +kernel, by decide +kernel⟩
set_option maxHeartbeats 4000000 in
theorem ok_frac2 (F : Fun K "fraction" "fraction" sFraction f fd) (G : FnOk P w K mg base CX0 1 g gd ["one", "other"] spGcd) (bG : Binds K gd ["one", "other"] []) (kG : PySem.W.keepIn K (.ref g) = true) (mG : mg "common_part" = some (.ref g)) : FnOk P w K mg base CX0 2 f fd ["top", "bottom"] spLow := by
  refine F.ok scF2 (fun vs H Q E h => ?_) (fun cdv A outer s H vs Q E hr h => ?_)
  · obtain ⟨a, b, rfl, _⟩ := h
    rfl
  obtain ⟨t, b, rfl, hb, hz, h1⟩ := h
  refine ⟨_, pss_cons (ps_if (pt_cmpR op_eq (pv 1) pe_int (nomark _)) pss_never pss_nil)
    (pss_cons (ps_set (i := 2) scF2.nd rfl (Or.inl rfl) (pe_call G hr (by rfl) mG kG bG .nil pass0 (pa_cons (pv 0) (pa_cons (pv 1) pa_nil))))
    (pss_cons (ps_if (pt_cmpR op_lt (pv 1) pe_int (nomark _)) (pss_one (ps_set (i := 2) scF2.nd rfl (Or.inl rfl) (pe_un un_neg (pv 2)))) pss_nil)
    (pss_one (ps_ret (pe_tup (pa_cons (pe_op op_fdivB (pv 0) (pv 2)) (pa_cons (pe_op op_fdivB (pv 1) (pv 2)) pa_nil))))))), ?_⟩
  refine ⟨_, rfl, rfl, _, rfl, iteDF (ivn hz) ?_⟩
  refine ⟨_, rfl, _, rfl, t, b, rfl, ?_⟩
  refine ⟨_, rfl, _, _, rfl, rfl, _, rfl, ?_⟩
  have fin : ∀ part, part = Mth.part t b → tRet (tTup (tCons (tOp (rI CDivB fun i j => V.int (i.fdiv j)) (tVar 0) (tVar 2)) (tCons (tOp (rI CDivB fun i j => V.int (i.fdiv j)) (tVar 1) (tVar 2)) tNil)))
      { nx := fun _ H' => Q .non H', rt := Q } [some (.int t), some (.int b), some (.int part)] H := by
    rintro part rfl
    have hp : CDivB t (Mth.part t b) := ⟨part_ne t b hz, Nat.lt_of_le_of_lt (part_le t b hz) hb⟩
    exact ⟨_, rfl, _, rfl, _, _, rfl, rfl, hp, _, rfl, _, rfl, _, _, rfl, rfl, hp, by show 2 ≤ sizeLine; decide, h1⟩
  by_cases hn : b < 0
  · refine iteDT hn ?_
    exact ⟨_, rfl, _, rfl, fin _ (by unfold Mth.part; rw [if_pos hn])⟩
  · refine iteDF hn ?_
    exact fin _ (by unfold Mth.part; rw [if_neg hn])
inductive SpErR (vs : List V) (H : Hp) (Q : VK) : Prop
  | mk (t b : Nat) (h_0 : vs = [.str (line t b)]) (h_1 : t < 10 ^ 40) (h_2 : 0 < b) (h_3 : b < 10 ^ 40) (h_4 : ∀ p H', Same H H' → FrR H' p (((t : Int) : Rat) / ((b : Int) : Rat)) → Q (.ref p) H') : SpErR vs H Q
noncomputable def spEr : Sp := fun vs H Q _ => SpErR vs H Q
theorem scEr : FnScope ["text", "numbers", "top", "bottom"] ["text"] (defScope s_ease_read) := ⟨rfl, rfl, rfl, by decide +kernel, rfl, by decide +kernel, by decide +kernel⟩
set_option maxHeartbeats 4000000 in
theorem ok_easeR (F : Fun K "ease_read" "ease_read" s_ease_read f fd) (G : FnOk P w K mg base CX0 2 g gd ["text", "most", "part"] spNr) (bG : Binds K gd ["text", "most", "part"] []) (kG : PySem.W.keepIn K (.ref g) = true) (mG : mg "number_read" = some (.ref g))
    (G2 : FnOk P w K mg base CX0 2 h hd ["top", "bottom"] spLow) (bG2 : Binds K hd ["top", "bottom"] []) (kG2 : PySem.W.keepIn K (.ref h) = true) (mG2 : mg "fraction" = some (.ref h)) (ml : mg "len" = none) : FnOk P w K mg base CX0 3 f fd ["text"] spEr := by
  refine F.ok scEr (fun vs H Q E h => ?_) (fun cdv A outer s H vs Q E hr h => ?_)
  · obtain ⟨t, b, rfl, _⟩ := h
    rfl
  obtain ⟨t, b, rfl, t4, b0, b4, q⟩ := h
  refine ⟨_, pss_cons (ps_set (i := 1) scEr.nd rfl (Or.inl rfl) (pe_bmK K PySem.F.plainAttrs_str PySem.F.slot_str_split PySem.F.type_str_split mt_split (pv 0) (pa_cons pe_str pa_nil)))
    (pss_cons (ps_if (pt_cmpR op_gt (pe_callB (callLen (K := K)) (by rfl) ml bt_len (pa_cons (pv 1) pa_nil)) pe_int (nomark _)) pss_never pss_nil)
    (pss_cons (ps_set (i := 2) scEr.nd rfl (Or.inl rfl) (pe_call G hr (by rfl) mG kG bG .nil pass0 (pa_cons (pe_ix (ixL (K := K)) (pv 1) pe_int (fun _ _ => rfl)) (pa_cons pe_int (pa_cons pe_int pa_nil)))))
    (pss_cons (ps_set (i := 3) scEr.nd rfl (Or.inl rfl) (pe_ifExp (pt_cmpR op_eq (pe_callB (callLen (K := K)) (by rfl) ml bt_len (pa_cons (pv 1) pa_nil)) pe_int (nomark _)) (pe_call G hr (by rfl) mG kG bG .nil pass0 (pa_cons (pe_ix (ixL (K := K)) (pv 1) pe_int (fun _ _ => rfl)) (pa_cons pe_int (pa_cons pe_int pa_nil)))) pe_int))
    (pss_cons (ps_if (pt_cmpR op_eq (pv 3) pe_int (nomark _)) pss_never pss_nil)
    (pss_one (ps_ret (pe_call G2 hr (by rfl) mG2 kG2 bG2 .nil pass0 (pa_cons (pv 2) (pa_cons (pv 3) pa_nil))))))))), ?_⟩
  have ll := line_len t4 b4
  have sp := split_sl (ts := if b = 1 then [txt (t : Int)] else [txt (t : Int), txt (b : Int)]) (by split <;> simp) (fun u hu => by
    split at hu
    · rw [List.mem_singleton.mp hu]; exact free_txt (by omega)
    · simp only [List.mem_cons, List.not_mem_nil, or_false] at hu
      rcases hu with rfl | rfl <;> exact free_txt (by omega))
  rw [← line_join] at sp
  have fin : ∀ {H1 : Hp}, Same H H1 → spLow [.int (t : Int), .int (b : Int)] H1 Q E := fun {H1} s1 => by
    refine ⟨t, b, rfl, big_of (n := 200) ?_ (by decide), by omega, fun p hp => q p _ (s1.trans (same_new hp _)) ?_⟩
    · have : (10 : Nat) ^ 40 < 2 ^ 200 := by decide
      rw [Int.natAbs_natCast]
      omega
    · unfold FrR
      rw [upd_same, frac_rat t b (by omega)]
  refine ⟨_, rfl, rfl, _, _, rfl, rfl, rfl, by omega, fun l hl => ?_⟩
  rw [sp]
  have s1 := same_new hl (.lst ((if b = 1 then [txt (t : Int)] else [txt (t : Int), txt (b : Int)]).map V.str))
  have e1 : (upd H l (.lst ((if b = 1 then [txt (t : Int)] else [txt (t : Int), txt (b : Int)]).map V.str))) l = some (.lst ((if b = 1 then [txt (t : Int)] else [txt (t : Int), txt (b : Int)]).map V.str)) := upd_same
  generalize upd H l (.lst ((if b = 1 then [txt (t : Int)] else [txt (t : Int), txt (b : Int)]).map V.str)) = H1 at s1 e1
  have k4 : (0 : Nat) < 40 := by decide
  by_cases h1 : b = 1
  · rw [if_pos h1] at e1
    refine ⟨_, rfl, l, _, rfl, .inl (SqL.of e1), _, _, rfl, rfl, _, rfl, iteDF (by show ¬ (2 : Int) < ((1 : Nat) : Int); decide) ?_⟩
    refine ⟨_, rfl, l, _, _, _, rfl, rfl, SqL.of e1, atI_nat (j := 0) rfl, t, 40, 1, rfl, k4, by decide, t4, ?_⟩
    refine ⟨_, rfl, l, _, rfl, .inl (SqL.of e1), rfl, _, rfl, iteDF (ivn (show ((1 : Nat) : Int) ≠ 2 by decide)) ?_⟩
    refine ⟨_, rfl, rfl, _, rfl, iteDF (ivn (by decide)) ?_⟩
    have := fin s1
    rw [h1] at this
    exact ⟨_, rfl, _, rfl, this⟩
  · rw [if_neg h1] at e1
    refine ⟨_, rfl, l, _, rfl, .inl (SqL.of e1), _, _, rfl, rfl, _, rfl, iteDF (by show ¬ (2 : Int) < ((2 : Nat) : Int); decide) ?_⟩
    refine ⟨_, rfl, l, _, _, _, rfl, rfl, SqL.of e1, atI_nat (j := 0) rfl, t, 40, 1, rfl, k4, by decide, t4, ?_⟩
    refine ⟨_, rfl, l, _, rfl, .inl (SqL.of e1), rfl, _, rfl, iteDT (iv (show ((2 : Nat) : Int) = 2 by decide)) ?_⟩
    refine ⟨_, rfl, l, _, _, _, rfl, rfl, SqL.of e1, atI_nat (j := 1) rfl, b, 40, 1, rfl, k4, by decide, b4, ?_⟩
    refine ⟨_, rfl, rfl, _, rfl, iteDF (ivn (by omega)) ?_⟩
    exact ⟨_, rfl, _, rfl, fin s1⟩
theorem rat_back {q : Rat} {k : Nat} (h : 0 < q.num) (hk : 1 ≤ k) : (((q.num.toNat * k : Nat) : Int) : Rat) / (((q.den * k : Nat) : Int) : Rat) = q := by
  rw [← Rat.divInt_eq_div, Int.natCast_mul, Int.natCast_mul, show ((q.num.toNat : Nat) : Int) = q.num by omega, Rat.divInt_mul_right (by omega), Rat.num_divInt_den]
inductive SpRrR (vs : List V) (H : Hp) (Q : VK) : Prop
  | mk (r : Rope) (k : Nat) (h_0 : vs = [.str (ropeTx k r)]) (h_1 : r.1 < 1000) (h_2 : r.2.1 < 1000) (h_3 : EaseK r.2.2) (h_4 : 1 ≤ k) (h_5 : r.2.2.num.toNat * k < 10 ^ 40 ∧ r.2.2.den * k < 10 ^ 40) (h_6 : ∀ p H', Same H H' → RopeR H' p r → Q (.ref p) H') : SpRrR vs H Q
noncomputable def spRr : Sp := fun vs H Q _ => SpRrR vs H Q
theorem scRr : FnScope ["text", "words"] ["text"] (defScope s_rope_read) := ⟨rfl, rfl, rfl, by decide +kernel, rfl, by decide +kernel, by decide +kernel⟩
set_option maxHeartbeats 4000000 in
theorem ok_ropeR (F : Fun K "rope_read" "rope_read" s_rope_read f fd) (G : FnOk P w K mg base CX0 2 g gd ["text", "most", "part"] spNr) (bG : Binds K gd ["text", "most", "part"] []) (kG : PySem.W.keepIn K (.ref g) = true) (mG : mg "number_read" = some (.ref g))
    (G2 : FnOk P w K mg base CX0 3 h hd ["text"] spEr) (bG2 : Binds K hd ["text"] []) (kG2 : PySem.W.keepIn K (.ref h) = true) (mG2 : mg "ease_read" = some (.ref h)) (ml : mg "len" = none) : FnOk P w K mg base CX0 4 f fd ["text"] spRr := by
  refine F.ok scRr (fun vs H Q E h => ?_) (fun cdv A outer s H vs Q E hr h => ?_)
  · obtain ⟨r, k, rfl, _⟩ := h
    rfl
  obtain ⟨r, k, rfl, r1, r2, ek, k1, ⟨z1, z2⟩, q⟩ := h
  have hr2 := hr.mono (show 2 ≤ 3 by decide)
  refine ⟨_, pss_cons (ps_set (i := 1) scRr.nd rfl (Or.inl rfl) (pe_bmK K PySem.F.plainAttrs_str PySem.F.slot_str_split PySem.F.type_str_split mt_split (pv 0) (pa_cons pe_str pa_nil)))
    (pss_cons (ps_if (pt_cmpR op_ne (pe_callB (callLen (K := K)) (by rfl) ml bt_len (pa_cons (pv 1) pa_nil)) pe_int (nomark _)) pss_never pss_nil)
    (pss_one (ps_ret (pe_tup (pa_cons (pe_call G hr2 (by rfl) mG kG bG .nil pass0 (pa_cons (pe_ix (ixL (K := K)) (pv 1) pe_int (fun _ _ => rfl)) (pa_cons pe_int (pa_cons pe_int pa_nil))))
      (pa_cons (pe_call G hr2 (by rfl) mG kG bG .nil pass0 (pa_cons (pe_ix (ixL (K := K)) (pv 1) pe_int (fun _ _ => rfl)) (pa_cons pe_int (pa_cons pe_int pa_nil))))
      (pa_cons (pe_call G2 hr (by rfl) mG2 kG2 bG2 .nil pass0 (pa_cons (pe_ix (ixL (K := K)) (pv 1) pe_int (fun _ _ => rfl)) pa_nil)) pa_nil))))))), ?_⟩
  have ll := rope_len r1 r2 z1 z2
  obtain ⟨e0, _, _⟩ := id ek
  have d0 := r.2.2.den_pos
  have sp := split_sp (ts := [txt (r.1 : Int), txt (r.2.1 : Int), line (r.2.2.num.toNat * k) (r.2.2.den * k)]) (by simp) (fun u hu => by
    simp only [List.mem_cons, List.not_mem_nil, or_false] at hu
    rcases hu with rfl | rfl | rfl
    · exact free_txt (by omega)
    · exact free_txt (by omega)
    · exact free_line (by omega))
  refine ⟨_, rfl, rfl, _, _, rfl, rfl, rfl, by omega, fun l hl => ?_⟩
  rw [show Txt.split (ropeTx k r) (Str.ofString " ") = [txt (r.1 : Int), txt (r.2.1 : Int), line (r.2.2.num.toNat * k) (r.2.2.den * k)] from sp]
  have s1 := same_new hl (.lst (([txt (r.1 : Int), txt (r.2.1 : Int), line (r.2.2.num.toNat * k) (r.2.2.den * k)] : List Str).map V.str))
  have e1 : (upd H l (.lst (([txt (r.1 : Int), txt (r.2.1 : Int), line (r.2.2.num.toNat * k) (r.2.2.den * k)] : List Str).map V.str))) l = some (.lst (([txt (r.1 : Int), txt (r.2.1 : Int), line (r.2.2.num.toNat * k) (r.2.2.den * k)] : List Str).map V.str)) := upd_same
  generalize upd H l (.lst (([txt (r.1 : Int), txt (r.2.1 : Int), line (r.2.2.num.toNat * k) (r.2.2.den * k)] : List Str).map V.str)) = H1 at s1 e1
  have k3 : (0 : Nat) < 3 := by decide
  refine ⟨_, rfl, l, _, rfl, .inl (SqL.of e1), rfl, _, rfl, iteNS (iv (show ((3 : Nat) : Int) = 3 by decide)) ?_⟩
  refine ⟨_, rfl, l, _, _, _, rfl, rfl, SqL.of e1, atI_nat (j := 0) rfl, r.1, 3, 1, rfl, k3, by decide, r1, ?_⟩
  refine ⟨_, rfl, l, _, _, _, rfl, rfl, SqL.of e1, atI_nat (j := 1) rfl, r.2.1, 3, 1, rfl, k3, by decide, r2, ?_⟩
  refine ⟨_, rfl, l, _, _, _, rfl, rfl, SqL.of e1, atI_nat (j := 2) rfl, _, _, rfl, z1, Nat.mul_pos d0 k1, z2, fun p H2 s2 hp => ?_⟩
  rw [rat_back e0 k1] at hp
  refine ⟨by show 3 ≤ sizeLine; decide, fun t ht => q t _ ((s1.trans s2).trans (same_new ht _)) ⟨p, upd_same, mo_fr (same_new ht _) hp⟩⟩
inductive SpTrR (vs : List V) (H : Hp) (Q : VK) : Prop
  | mk (t : List Int) (h_0 : vs = [.str (turnTx t)]) (h_1 : t ≠ []) (h_2 : ∀ x ∈ t, 0 ≤ x ∧ x < 1000) (h_3 : t.length ≤ 1000) (h_4 : ∀ p H', Same H H' → IntsT H' p t → Q (.ref p) H') : SpTrR vs H Q
noncomputable def spTr : Sp := fun vs H Q _ => SpTrR vs H Q
theorem scTr : FnScope ["text"] ["text"] (defScope s_turn_read) := ⟨rfl, rfl, rfl, by decide +kernel, rfl, by decide +kernel, by decide +kernel⟩
set_option maxHeartbeats 4000000 in
theorem ok_turnR (F : Fun K "turn_read" "turn_read" s_turn_read f fd) (G : FnOk P w K mg base CX0 2 g gd ["text", "most", "part"] spNr) (bG : Binds K gd ["text", "most", "part"] []) (kG : PySem.W.keepIn K (.ref g) = true) (mG : mg "number_read" = some (.ref g)) (mt : mg "tuple" = none) : FnOk P w K mg base CX0 3 f fd ["text"] spTr := by
  refine F.ok scTr (fun vs H Q E h => ?_) (fun cdv A outer s H vs Q E hr h => ?_)
  · obtain ⟨t, rfl, _⟩ := h
    rfl
  obtain ⟨t, rfl, tn, hx, hl, q⟩ := h
  refine ⟨_, pss_one (ps_ret (pe_callTy (callTup (K := K)) (by rfl) mt bt_tuple (pa_cons (pe_comp (Nc := ["end"]) (cap := []) (g := gName 0) (te := tCall spNr [] E0 (tCons (tVar 0) (tCons (tC (.int 3)) (tCons (tC (.int 2)) tNil)))) rfl (piLst (K := K) (pe_bmK K PySem.F.plainAttrs_str PySem.F.slot_str_split PySem.F.type_str_split mt_split (pv 0) (pa_cons pe_str pa_nil)))
      (comp_mk rfl rfl (by decide +kernel) (by decide +kernel) (List.forall_mem_nil _) rfl (List.forall_mem_nil _)) (fun C fp pins s' H' => pg_name (i := 0) ndEnd rfl (Or.inl rfl))
      (fun C fp pins s' H' => pe_call G hr (by rfl) mG kG bG .nil pass0 (pa_cons (pv 0) (pa_cons pe_int (pa_cons pe_int pa_nil))))) pa_nil))), ?_⟩
  have ll := turn_len hx
  have sp := split_sp (ts := t.map txt) (by simpa using tn) (fun u hu => by
    obtain ⟨x, hx', rfl⟩ := List.mem_map.mp hu
    obtain ⟨n, rfl⟩ := Int.eq_ofNat_of_zero_le (hx x hx').1
    exact free_txt (by omega))
  refine ⟨_, rfl, rfl, _, _, rfl, rfl, rfl, by omega, fun l hl' => ?_⟩
  rw [show Txt.split (turnTx t) (Str.ofString " ") = t.map txt from sp]
  have s1 := same_new hl' (.lst ((t.map txt).map V.str))
  have e1 : (upd H l (.lst ((t.map txt).map V.str))) l = some (.lst ((t.map txt).map V.str)) := upd_same
  generalize upd H l (.lst ((t.map txt).map V.str)) = H1 at s1 e1
  refine ⟨l, rfl, ⟨_, SqL.of e1⟩, fun acc hacc => ?_⟩
  refine comp_run (run_list e1) (by rw [List.length_map, List.length_map]; omega) hacc (fun i ys σ hp => ys = (t.take i).map V.int ∧ ∃ u, σ = [u]) ⟨rfl, none, rfl⟩ ?_ ?_
  · rintro i ys σ H3 x H4 hi sm hacc2 ⟨rfl, u, rfl⟩ ⟨rfl, hxi⟩ Cc hC
    obtain ⟨z, rfl, hz⟩ := str_at hxi
    rw [List.getElem?_map] at hz
    obtain ⟨y, hy, rfl⟩ := Option.map_eq_some_iff.mp hz
    obtain ⟨h0, h1⟩ := hx y (List.mem_of_getElem? hy)
    obtain ⟨n, rfl⟩ := Int.eq_ofNat_of_zero_le h0
    refine ⟨_, rfl, n, 3, 2, rfl, by decide, by decide, by omega, hC _ _ _ (Same.refl _) ⟨?_, _, rfl⟩⟩
    rw [take_snoc hy, List.map_append]
    rfl
  · rintro ys σ H4 s4 ha4 hl4 ⟨rfl, u, rfl⟩
    rw [List.length_map, List.length_map, List.take_length] at ha4
    exact ⟨acc, _, rfl, .inl ⟨SqL.of ha4, fun p hp => q p _ ((s1.trans s4).trans (same_new hp _)) upd_same⟩⟩
inductive SpNdR (vs : List V) (H : Hp) (Q : VK) : Prop
  | mk (n k : Nat) (rs : List Rope) (us : List (List Int)) (h_0 : vs = [.str (netTx n k rs us)]) (h_1 : NetW n rs us) (h_2 : 1 ≤ k) (h_3 : SmF k rs) (h_4 : ∀ p ra c H', Same H H' → H' p = some (.tup [.int (n : Int), .ref ra, .ref c]) → TupR RopeR H' ra rs → TupR IntsT H' c (us.map begL) → Q (.ref p) H') : SpNdR vs H Q
noncomputable def spNd : Sp := fun vs H Q _ => SpNdR vs H Q
theorem scNd : FnScope ["text", "parts", "places", "ropes", "turns"] ["text"] (defScope s_net_read) := ⟨rfl, rfl, rfl, by decide +kernel, rfl, by decide +kernel, by decide +kernel⟩
set_option maxHeartbeats 4000000 in
theorem ok_netR (F : Fun K "net_read" "net_read" s_net_read f fd) (G : FnOk P w K mg base CX0 2 f1 d1 ["text", "most", "part"] spNr) (bG : Binds K d1 ["text", "most", "part"] []) (kG : PySem.W.keepIn K (.ref f1) = true) (mG : mg "number_read" = some (.ref f1))
    (G2 : FnOk P w K mg base CX0 4 f2 d2 ["text"] spRr) (b2 : Binds K d2 ["text"] []) (k2 : PySem.W.keepIn K (.ref f2) = true) (m2 : mg "rope_read" = some (.ref f2))
    (G3 : FnOk P w K mg base CX0 3 f3 d3 ["text"] spTr) (b3 : Binds K d3 ["text"] []) (k3 : PySem.W.keepIn K (.ref f3) = true) (m3 : mg "turn_read" = some (.ref f3))
    (G4 : FnOk P w K mg base CX0 5 f4 d4 ["places", "ropes", "turns"] spChecked) (b4 : Binds K d4 ["places", "ropes", "turns"] []) (k4 : PySem.W.keepIn K (.ref f4) = true) (m4 : mg "checked" = some (.ref f4)) (ml : mg "len" = none) (mt : mg "tuple" = none) : FnOk P w K mg base CX0 6 f fd ["text"] spNd := by
  refine F.ok scNd (fun vs H Q E h => ?_) (fun cdv A outer s H vs Q E hr h => ?_)
  · obtain ⟨n, k, rs, us, rfl, _⟩ := h
    rfl
  obtain ⟨n, k, rs, us, rfl, N, k1, S, q⟩ := h
  have r2 := hr.mono (show 2 ≤ 5 by decide)
  have r3 := hr.mono (show 3 ≤ 5 by decide)
  have r4 := hr.mono (show 4 ≤ 5 by decide)
  refine ⟨_, pss_cons (ps_set (i := 1) scNd.nd rfl (Or.inl rfl) (pe_bmK K PySem.F.plainAttrs_str PySem.F.slot_str_split PySem.F.type_str_split mt_split (pv 0) (pa_cons pe_str pa_nil)))
    (pss_cons (ps_if (pt_cmpR op_ne (pe_callB (callLen (K := K)) (by rfl) ml bt_len (pa_cons (pv 1) pa_nil)) pe_int (nomark _)) pss_never pss_nil)
    (pss_cons (ps_set (i := 2) scNd.nd rfl (Or.inl rfl) (pe_call G r2 (by rfl) mG kG bG .nil pass0 (pa_cons (pe_ix (ixL (K := K)) (pv 1) pe_int (fun _ _ => rfl)) (pa_cons pe_int (pa_cons pe_int pa_nil)))))
    (pss_cons (ps_set (i := 3) scNd.nd rfl (Or.inl rfl) (pe_callTy (callTup (K := K)) (by rfl) mt bt_tuple (pa_cons (pe_comp (Nc := ["rope"]) (cap := []) (g := gName 0) (te := tCall spRr [] E0 (tCons (tVar 0) tNil)) rfl (piLst (K := K) (pe_bmK K PySem.F.plainAttrs_str PySem.F.slot_str_split PySem.F.type_str_split mt_split (pe_ix (ixL (K := K)) (pv 1) pe_int (fun _ _ => rfl)) (pa_cons pe_str pa_nil)))
      (comp_mk rfl rfl (by decide +kernel) (by decide +kernel) (List.forall_mem_nil _) rfl (List.forall_mem_nil _)) (fun C fp pins s' H' => pg_name (i := 0) ndRope rfl (Or.inl rfl))
      (fun C fp pins s' H' => pe_call G2 r4 (by rfl) m2 k2 b2 .nil pass0 (pa_cons (pv 0) pa_nil))) pa_nil)))
    (pss_cons (ps_set (i := 4) scNd.nd rfl (Or.inl rfl) (pe_callTy (callTup (K := K)) (by rfl) mt bt_tuple (pa_cons (pe_comp (Nc := ["turn"]) (cap := []) (g := gName 0) (te := tCall spTr [] E0 (tCons (tVar 0) tNil)) rfl (piLst (K := K) (pe_bmK K PySem.F.plainAttrs_str PySem.F.slot_str_split PySem.F.type_str_split mt_split (pe_ix (ixL (K := K)) (pv 1) pe_int (fun _ _ => rfl)) (pa_cons pe_str pa_nil)))
      (comp_mk rfl rfl (by decide +kernel) (by decide +kernel) (List.forall_mem_nil _) rfl (List.forall_mem_nil _)) (fun C fp pins s' H' => pg_name (i := 0) ndTurn rfl (Or.inl rfl))
      (fun C fp pins s' H' => pe_call G3 r3 (by rfl) m3 k3 b3 .nil pass0 (pa_cons (pv 0) pa_nil))) pa_nil)))
    (pss_one (ps_ret (pe_call G4 hr (by rfl) m4 k4 b4 .nil pass0 (pa_cons (pv 2) (pa_cons (pv 3) (pa_cons (pv 4) pa_nil)))))))))), ?_⟩
  have n15 := N.n15
  have m14 := N.m14
  have m1 := N.m1
  have len := N.len
  have n2 := N.n2
  have a := txt_len (n := n) (k := 3) (by decide) (by omega)
  have b := (turns_sum N).2
  have c := (ropes_sum N S).2
  have nn : ∀ t ∈ us, ∀ x ∈ t, (0 : Int) ≤ x := fun t ht x hx => ((net_ends N ht).1 x hx).1
  have spl := split_ss (ts := [txt (n : Int), Str.join spC (rs.map (ropeTx k)), Str.join spB (us.map turnTx)]) (by simp) (fun u hu => by
    simp only [List.mem_cons, List.not_mem_nil, or_false] at hu
    rcases hu with rfl | rfl | rfl
    · exact free_txt (by omega)
    · refine free_join (by decide) fun t ht => ?_
      obtain ⟨r, _, rfl⟩ := List.mem_map.mp ht
      exact free_rope (by omega) (by omega)
    · refine free_join (by decide) fun t ht => ?_
      obtain ⟨u, hu, rfl⟩ := List.mem_map.mp ht
      exact free_turn (nn u hu) (by omega) (by omega))
  have spr := split_sc (ts := rs.map (ropeTx k)) (by intro e; have := List.map_eq_nil_iff.mp e; rw [this] at m1; exact absurd m1 (by decide)) (fun t ht => by
    obtain ⟨r, _, rfl⟩ := List.mem_map.mp ht
    exact free_rope (by omega) (by omega))
  have spt := split_sb (ts := us.map turnTx) (by intro e; have := List.map_eq_nil_iff.mp e; rw [this] at len; have : n = 0 := len.symm; omega) (fun t ht => by
    obtain ⟨u, hu, rfl⟩ := List.mem_map.mp ht
    exact free_turn (nn u hu) (by omega) (by omega))
  have ln : (netTx n k rs us).length ≤ 5000 := by
    show (txt (n : Int) ++ spS ++ (Str.join spC (rs.map (ropeTx k)) ++ spS ++ Str.join spB (us.map turnTx))).length ≤ 5000
    rw [app_len, app_len, app_len, app_len]
    have e : spS.length = 2 := rfl
    omega
  refine ⟨_, rfl, rfl, _, _, rfl, rfl, rfl, by omega, fun l hl => ?_⟩
  rw [show Txt.split (netTx n k rs us) (Str.ofString "; ") = [txt (n : Int), Str.join spC (rs.map (ropeTx k)), Str.join spB (us.map turnTx)] from spl]
  generalize Str.join spC (rs.map (ropeTx k)) = tr at spr c
  generalize Str.join spB (us.map turnTx) = tt at spt b
  have s1 := same_new hl (.lst (([txt (n : Int), tr, tt] : List Str).map V.str))
  have e1 : (upd H l (.lst (([txt (n : Int), tr, tt] : List Str).map V.str))) l = some (.lst (([txt (n : Int), tr, tt] : List Str).map V.str)) := upd_same
  generalize upd H l (.lst (([txt (n : Int), tr, tt] : List Str).map V.str)) = H1 at s1 e1
  refine ⟨_, rfl, l, _, rfl, .inl (SqL.of e1), rfl, _, rfl, iteNS (iv (show ((3 : Nat) : Int) = 3 by decide)) ?_⟩
  refine ⟨_, rfl, l, _, _, _, rfl, rfl, SqL.of e1, atI_nat (j := 0) rfl, n, 3, 0, rfl, by decide, by decide, by omega, ?_⟩
  refine ⟨_, rfl, l, _, _, _, rfl, rfl, SqL.of e1, atI_nat (j := 1) rfl, rfl, tr, spC, rfl, rfl, rfl, by omega, fun l2 hl2 => ?_⟩
  rw [spr]
  have s2 := same_new hl2 (.lst ((rs.map (ropeTx k)).map V.str))
  have e2 : (upd H1 l2 (.lst ((rs.map (ropeTx k)).map V.str))) l2 = some (.lst ((rs.map (ropeTx k)).map V.str)) := upd_same
  generalize upd H1 l2 (.lst ((rs.map (ropeTx k)).map V.str)) = H2 at s2 e2
  refine ⟨l2, rfl, ⟨_, SqL.of e2⟩, fun acc hacc => ?_⟩
  refine comp_run (run_list e2) (by rw [List.length_map, List.length_map]; omega) hacc (fun i ys σ hp => ∃ ds : List Addr, ys = ds.map V.ref ∧ At RopeR hp ds (rs.take i) ∧ ∃ u, σ = [u]) ⟨[], rfl, At.nil, none, rfl⟩ ?_ ?_
  · rintro i ys σ H3 x H4 hi sm hacc2 ⟨ds, rfl, hD, u, rfl⟩ ⟨rfl, hxi⟩ Cc hC
    obtain ⟨z, rfl, hz⟩ := str_at hxi
    rw [List.getElem?_map] at hz
    obtain ⟨r, hy, rfl⟩ := Option.map_eq_some_iff.mp hz
    have rm := List.mem_of_getElem? hy
    obtain ⟨ek, p1, p2⟩ := N.ease r rm
    refine ⟨_, rfl, r, k, rfl, by omega, by omega, ek, k1, S r rm, fun p H5 s5 hp => ?_⟩
    refine hC _ _ _ s5 ⟨ds ++ [p], by simp, ?_, _, rfl⟩
    rw [take_snoc hy]
    exact (hD.keep mo_rope (del_mono acc s5)).snoc (RopeR.del hp (s5 _ _ hacc2))
  rintro ys σ H4 s4 ha4 hl4 ⟨ds, rfl, hD, u, rfl⟩
  rw [List.length_map, List.length_map, List.take_length] at hD
  refine ⟨acc, _, rfl, .inl ⟨SqL.of ha4, fun rp hrp => ?_⟩⟩
  have s5 := same_new hrp (.tup (ds.map V.ref))
  have e5 : TupR RopeR (upd H4 rp (.tup (ds.map V.ref))) rp rs := ⟨ds, upd_same, (hD.keep mo_rope (del_sub H4 acc)).keep mo_rope s5⟩
  generalize upd H4 rp (.tup (ds.map V.ref)) = H5 at s5 e5
  have s15 := s2.trans (s4.trans s5)
  refine ⟨_, rfl, l, _, _, _, rfl, rfl, SqL.of (s15 _ _ e1), atI_nat (j := 2) rfl, rfl, tt, spB, rfl, rfl, rfl, by omega, fun l3 hl3 => ?_⟩
  rw [spt]
  have s6 := same_new hl3 (.lst ((us.map turnTx).map V.str))
  have e6 : (upd H5 l3 (.lst ((us.map turnTx).map V.str))) l3 = some (.lst ((us.map turnTx).map V.str)) := upd_same
  generalize upd H5 l3 (.lst ((us.map turnTx).map V.str)) = H6 at s6 e6
  refine ⟨l3, rfl, ⟨_, SqL.of e6⟩, fun acc2 hacc2 => ?_⟩
  refine comp_run (run_list e6) (by rw [List.length_map, List.length_map]; omega) hacc2 (fun i ys σ hp => ∃ ds : List Addr, ys = ds.map V.ref ∧ At IntsT hp ds (us.take i) ∧ ∃ u, σ = [u]) ⟨[], rfl, At.nil, none, rfl⟩ ?_ ?_
  · rintro i ys σ H7 x H8 hi sm hacc3 ⟨es, rfl, hE, u, rfl⟩ ⟨rfl, hxi⟩ Cc hC
    obtain ⟨z, rfl, hz⟩ := str_at hxi
    rw [List.getElem?_map] at hz
    obtain ⟨t, hy, rfl⟩ := Option.map_eq_some_iff.mp hz
    have tm := List.mem_of_getElem? hy
    obtain ⟨p1, p2⟩ := net_ends N tm
    refine ⟨_, rfl, t, rfl, N.ne t tm, p1, by omega, fun p H9 s9 hp => ?_⟩
    refine hC _ _ _ s9 ⟨es ++ [p], by simp, ?_, _, rfl⟩
    rw [take_snoc hy]
    exact (hE.keep mo_intsT (del_mono acc2 s9)).snoc (IntsT.del hp (s9 _ _ hacc3))
  rintro ys σ H7 s7 ha7 hl7 ⟨es, rfl, hE, u, rfl⟩
  rw [List.length_map, List.length_map, List.take_length] at hE
  refine ⟨acc2, _, rfl, .inl ⟨SqL.of ha7, fun tp htp => ?_⟩⟩
  have s8 := same_new htp (.tup (es.map V.ref))
  have e8 : TupR IntsT (upd H7 tp (.tup (es.map V.ref))) tp us := ⟨es, upd_same, (hE.keep mo_intsT (del_sub H7 acc2)).keep mo_intsT s8⟩
  generalize upd H7 tp (.tup (es.map V.ref)) = H8 at s8 e8
  have s58 := s6.trans (s7.trans s8)
  have hR8 : TupR RopeR H8 rp rs := mo_tup (R := RopeR) (fun s h => mo_rope s h) s58 e5
  refine ⟨_, rfl, _, rfl, _, rfl, n, rp, tp, rs, us, rfl, N, hR8, e8, fun p cc H9 s9 h9 hc9 => ?_⟩
  exact q p rp cc H9 (((s1.trans s15).trans s58).trans s9) h9 (mo_tup (R := RopeR) (fun s h => mo_rope s h) s9 hR8) hc9
end
end My
namespace My
open PySem L2 Mth
theorem alk_int (H : Hp) (n : Nat) (i : Int) : AlkD H n (.int i) (.int i) := by cases n <;> first | exact ⟨i, rfl, rfl⟩ | exact .inl ⟨i, rfl, rfl⟩
theorem alk_ints {H : Hp} {p q : Addr} {t : List Int} (n : Nat) (hp : IntsT H p t) (hq : IntsT H q t) (hl : t.length ≤ 1000) : AlkD H (n + 1) (.ref p) (.ref q) := by
  refine .inr ⟨p, q, _, _, rfl, rfl, hp, hq, rfl, by rw [List.length_map]; exact hl, fun i x y e1 e2 => ?_⟩
  rw [e1] at e2
  cases e2
  obtain ⟨e, rfl, _⟩ := int_at e1
  exact alk_int H n e
theorem alk_rope {H : Hp} {p q : Addr} {r : Rope} (n : Nat) (h : RopeR H p r) (h' : RopeR H q r) : AlkD H (n + 2) (.ref p) (.ref q) := by
  obtain ⟨e, h1, h2⟩ := h
  obtain ⟨e', h1', h2'⟩ := h'
  refine .inr ⟨p, q, _, _, rfl, rfl, h1, h1', rfl, by show 3 ≤ 1000; decide, fun i x y e1 e2 => ?_⟩
  match i, e1, e2 with
  | 0, e1, e2 => cases e1; cases e2; exact alk_int _ _ _
  | 1, e1, e2 => cases e1; cases e2; exact alk_int _ _ _
  | 2, e1, e2 =>
    cases e1; cases e2
    exact alk_ints (t := [r.2.2.num, r.2.2.den]) n h2 h2' (by show 2 ≤ 1000; decide)
theorem alk_ropes {H : Hp} {p q : Addr} {rs : List Rope} (n : Nat) (h : TupR RopeR H p rs) (h' : TupR RopeR H q rs) (hl : rs.length ≤ 1000) : AlkD H (n + 3) (.ref p) (.ref q) := by
  obtain ⟨bs, h1, hB⟩ := h
  obtain ⟨cs, h2, hC⟩ := h'
  refine .inr ⟨p, q, _, _, rfl, rfl, h1, h2, by rw [List.length_map, List.length_map, hB.1, hC.1], by rw [List.length_map, hB.1]; exact hl, fun i x y e1 e2 => ?_⟩
  obtain ⟨c, r, rfl, _, e3, hr⟩ := hB.ref e1
  obtain ⟨d, r', rfl, _, e4, hr'⟩ := hC.ref e2
  rw [e3] at e4
  cases e4
  exact alk_rope n hr hr'
theorem alk_turns {H : Hp} {p q : Addr} {ts : List (List Int)} (n : Nat) (hp : TupR IntsT H p ts) (hq : TupR IntsT H q ts) (hl : ts.length ≤ 1000) (ht : ∀ t ∈ ts, t.length ≤ 1000) : AlkD H (n + 2) (.ref p) (.ref q) := by
  obtain ⟨bs, h1, hB⟩ := hp
  obtain ⟨cs, h2, hC⟩ := hq
  refine .inr ⟨p, q, _, _, rfl, rfl, h1, h2, by rw [List.length_map, List.length_map, hB.1, hC.1], by rw [List.length_map, hB.1]; exact hl, fun i x y e1 e2 => ?_⟩
  obtain ⟨c, t, rfl, _, e3, hc⟩ := hB.ref e1
  obtain ⟨d, t', rfl, _, e4, hd⟩ := hC.ref e2
  rw [e3] at e4
  cases e4
  exact alk_ints n hc hd (ht t (List.mem_of_getElem? e3))
theorem alk_net {H : Hp} {p q ra rb c d : Addr} {n : Int} {rs : List Rope} {ts : List (List Int)} (hp : H p = some (.tup [.int n, .ref ra, .ref c])) (hq : H q = some (.tup [.int n, .ref rb, .ref d])) (hr : TupR RopeR H ra rs) (hr' : TupR RopeR H rb rs) (hrl : rs.length ≤ 1000) (hc : TupR IntsT H c ts) (hd : TupR IntsT H d ts) (hl : ts.length ≤ 1000) (ht : ∀ t ∈ ts, t.length ≤ 1000) : AlkD H 4 (.ref p) (.ref q) := by
  refine .inr ⟨p, q, _, _, rfl, rfl, hp, hq, rfl, by show 3 ≤ 1000; decide, fun i x y e1 e2 => ?_⟩
  match i, e1, e2 with
  | 0, e1, e2 => cases e1; cases e2; exact alk_int _ _ _
  | 1, e1, e2 => cases e1; cases e2; exact alk_ropes 0 hr hr' hrl
  | 2, e1, e2 => cases e1; cases e2; exact alk_turns 1 hc hd hl ht
theorem begL_len (t : List Int) : (begL t).length = t.length := (rot_beg t).perm.length_eq.symm
theorem mo_rr {H H' : Hp} {a : Addr} {rs : List Rope} (s : Same H H') (h : TupR RopeR H a rs) : TupR RopeR H' a rs := mo_tup (R := RopeR) (fun s h => mo_rope s h) s h
section
variable {P : Program} {w : World} {K : PySem.W.Frag} {mg : Str → Option Value} {base : Heap} {f f1 f2 f3 f4 f5 f6 f7 f8 : Addr} {fd d1 d2 d3 d4 d5 d6 d7 d8 : FuncData}
noncomputable def spLaw (K : PySem.W.Frag) : Sp := fun vs H Q _ => ∃ (a : Addr) (ns : List Int), vs = [.ref a] ∧ SqL K H a (ns.map V.int) ∧ ns.length ≤ 63 ∧ ∀ H', Q (.bl true) H'
theorem scLw : FnScope ["_law_script", "_law_cell", "_law_places", "_law_ropes", "_law_turns", "_law_seats", "_law_due", "_law_at", "_law_text_here", "_law_other"] ["_law_script"] (defScope sLaw) := ⟨rfl, rfl, rfl, by decide +kernel, rfl, by decide +kernel, by decide +kernel⟩
theorem ndLT : (["_law_turn"] : List Str).Nodup := by decide +kernel
set_option maxHeartbeats 1000000 in
theorem ok_law (F : Fun K "law" "law" sLaw f fd) (G1 : FnOk P w K mg base CX0 2 f1 d1 ["_law_script", "_law_k"] (spDrawn K)) (b1 : Binds K d1 ["_law_script", "_law_k"] []) (k1 : PySem.W.keepIn K (.ref f1) = true) (m1 : mg "_law_drawn" = some (.ref f1))
    (G2 : FnOk P w K mg base CX0 4 f2 d2 ["_law_script", "_law_start", "_law_many"] (spGrown K)) (b2 : Binds K d2 ["_law_script", "_law_start", "_law_many"] []) (k2 : PySem.W.keepIn K (.ref f2) = true) (m2 : mg "_law_grown" = some (.ref f2))
    (G3 : FnOk P w K mg base CX0 1 f3 d3 ["_law_turn"] spBeg) (b3 : Binds K d3 ["_law_turn"] []) (k3 : PySem.W.keepIn K (.ref f3) = true) (m3 : mg "_law_begun" = some (.ref f3))
    (G4 : FnOk P w K mg base CX0 1 f4 d4 ["_law_turns", "_law_cell"] spTurned) (b4 : Binds K d4 ["_law_turns", "_law_cell"] []) (k4 : PySem.W.keepIn K (.ref f4) = true) (m4 : mg "_law_turned_about" = some (.ref f4))
    (G5 : FnOk P w K mg base CX0 2 f5 d5 ["_law_places", "_law_ropes", "_law_turns", "_law_factor"] spLt) (b5 : Binds K d5 ["_law_places", "_law_ropes", "_law_turns", "_law_factor"] []) (k5 : PySem.W.keepIn K (.ref f5) = true) (m5 : mg "_law_text" = some (.ref f5))
    (G6 : FnOk P w K mg base CX0 6 f6 d6 ["_law_found", "_law_due"] (spAlk 4)) (b6 : Binds K d6 ["_law_found", "_law_due"] []) (k6 : PySem.W.keepIn K (.ref f6) = true) (m6 : mg "_law_alike" = some (.ref f6))
    (G7 : FnOk P w K mg base CX0 4 f7 d7 ["net"] spNt) (b7 : Binds K d7 ["net"] []) (k7 : PySem.W.keepIn K (.ref f7) = true) (m7 : mg "net_text" = some (.ref f7))
    (G8 : FnOk P w K mg base CX0 6 f8 d8 ["text"] spNd) (b8 : Binds K d8 ["text"] []) (k8 : PySem.W.keepIn K (.ref f8) = true) (m8 : mg "net_read" = some (.ref f8)) (mt : mg "tuple" = none) (ms : mg "isinstance" = none) (mst : mg "str" = none) :
    FnOk P w K mg base CX0 7 f fd ["_law_script"] (spLaw K) := by
  refine F.ok scLw (fun vs H Q E h => ?_) (fun cdv A outer s H vs Q E hr h => ?_)
  · obtain ⟨a, ns, rfl, _⟩ := h
    rfl
  obtain ⟨a, ns, rfl, hS, hn, q⟩ := h
  have r1 := hr.mono (show 1 ≤ 6 by decide)
  have r2 := hr.mono (show 2 ≤ 6 by decide)
  have r4 := hr.mono (show 4 ≤ 6 by decide)
  refine ⟨_, pss_cons (ps_set (i := 1) scLw.nd rfl (Or.inl rfl) (pe_call G1 r2 (by rfl) m1 k1 b1 .nil pass0 (pa_cons (pv 0) (pa_cons pe_int pa_nil))))
    (pss_cons (ps_asg (pe_call G2 r4 (by rfl) m2 k2 b2 .nil pass0 (pa_cons (pv 0) (pa_cons pe_int (pa_cons (pe_op op_add pe_int (pe_op op_mod (pv 1) pe_int)) pa_nil)))) (pgTup (n := 3) (K := K) rfl (pgs_cons (pg_name (i := 2) scLw.nd rfl (Or.inl rfl)) (pgs_cons (pg_name (i := 3) scLw.nd rfl (Or.inl rfl)) (pgs_cons (pg_name (i := 4) scLw.nd rfl (Or.inl rfl)) pgs_nil)))))
    (pss_cons (ps_set (i := 5) scLw.nd rfl (Or.inl rfl) (pe_callTy (callTup (K := K)) (by rfl) mt bt_tuple (pa_cons (pe_comp (Nc := ["_law_turn"]) (cap := []) (g := gName 0) (te := tCall spBeg [] E0 (tCons (tVar 0) tNil)) rfl (piTup (K := K) (pv 4))
        (comp_mk rfl rfl (by decide +kernel) (by decide +kernel) (List.forall_mem_nil _) rfl (List.forall_mem_nil _)) (fun C fp pins s' H' => pg_name (i := 0) ndLT rfl (Or.inl rfl)) (fun C fp pins s' H' => pe_call G3 r1 (by rfl) m3 k3 b3 .nil pass0 (pa_cons (pv 0) pa_nil))) pa_nil)))
    (pss_cons (ps_set (i := 6) scLw.nd rfl (Or.inl rfl) (pe_call G5 r2 (by rfl) m5 k5 b5 .nil pass0 (pa_cons (pv 2) (pa_cons (pv 3) (pa_cons (pv 5) (pa_cons pe_int pa_nil))))))
    (pss_cons (ps_for PassesOwn.never rfl (piLst (K := K) (pe_lst (pa_cons pe_int (pa_cons (pe_op op_fdiv (pv 1) pe_int) pa_nil)))) (pg_name (i := 7) scLw.nd rfl (Or.inl rfl))
      (pss_cons (ps_set (i := 8) scLw.nd rfl (Or.inl rfl) (pe_call G7 r4 (by rfl) m7 k7 b7 .nil pass0 (pa_cons (pe_tup (pa_cons (pv 2) (pa_cons (pv 3) (pa_cons (pe_call G4 r1 (by rfl) m4 k4 b4 .nil pass0 (pa_cons (pv 4) (pa_cons (pv 7) pa_nil))) pa_nil)))) pa_nil)))
      (pss_cons (ps_if (PW.pt (pw_or (pt_not (pt_val (pe_callB (call_isi (c := .ty "str") (cv := .type "str") fun _ z => z) (by rfl) ms bt_isinstance (pa_cons (pv 8) (pa_cons (pe_bltn (v := .ty "str") (by rfl) mst bt_str rfl) pa_nil))))) (pw_or1 (pt_cmpR op_ne (pv 8) (pv 6) (nomark _))))) (pss_one (ps_ret pe_bl)) pss_nil)
      (pss_cons (ps_set (i := 9) scLw.nd rfl (Or.inl rfl) (pe_call G5 r2 (by rfl) m5 k5 b5 .nil pass0 (pa_cons (pv 2) (pa_cons (pv 3) (pa_cons (pe_call G4 r1 (by rfl) m4 k4 b4 .nil pass0 (pa_cons (pv 4) (pa_cons (pv 7) pa_nil))) (pa_cons (pe_op op_add pe_int (pe_op op_mod (pe_op op_fdiv (pv 1) pe_int) pe_int)) pa_nil))))))
      (pss_one (ps_if (pt_not (pt_val (pe_call G6 hr (by rfl) m6 k6 b6 .nil pass0 (pa_cons (pe_call G8 hr (by rfl) m8 k8 b8 .nil pass0 (pa_cons (pv 9) pa_nil)) (pa_cons (pe_tup (pa_cons (pv 2) (pa_cons (pv 3) (pa_cons (pv 5) pa_nil)))) pa_nil))))) (pss_one (ps_ret pe_bl)) pss_nil))))))
    (pss_one (ps_ret (pe_call G6 hr (by rfl) m6 k6 b6 .nil pass0 (pa_cons (pe_call G8 hr (by rfl) m8 k8 b8 .nil pass0 (pa_cons (pv 6) pa_nil)) (pa_cons (pe_tup (pa_cons (pv 2) (pa_cons (pv 3) (pa_cons (pv 5) pa_nil)))) pa_nil))))))))), ?_⟩
  refine ⟨_, rfl, a, ns, 0, rfl, ⟨hS, hn⟩, by decide, by decide, fun z H1 s1 dz => ?_⟩
  have z0 := dz.1
  obtain ⟨m, em⟩ : ∃ m : Nat, 1 + z % 14 = (m : Int) := ⟨(1 + z % 14).toNat, by omega⟩
  refine ⟨_, rfl, _, rfl, _, _, rfl, rfl, (show (0 : Int) < 14 by decide), _, _, rfl, rfl, a, ns, 1, m, by rw [← em]; rfl, ⟨s1.seq hS, hn⟩, by decide, by omega, by omega, fun p ra ta n rs ts H2 s2 hp hR hT N rl es => ?_⟩
  refine ⟨p, _, rfl, SqT.of hp, rfl, _, _, rfl, _, _, rfl, _, _, rfl, rfl, ?_⟩
  have n15 := N.n15
  have m14 := N.m14
  have tslen : ts.length ≤ 1000 := by rw [N.len]; omega
  have bts : (ts.map begL).length ≤ 1000 := by rw [List.length_map]; exact tslen
  have btl : ∀ t ∈ ts.map begL, t.length ≤ 1000 := fun t ht => by
    obtain ⟨t', ht', rfl⟩ := List.mem_map.mp ht
    rw [begL_len]
    have := N.tlen ht'
    omega
  obtain ⟨bs, ha, hB⟩ := id hT
  refine ⟨_, rfl, ta, rfl, ⟨_, SqT.of ha⟩, fun acc hacc => ?_⟩
  refine comp_run (run_tup ha) (by rw [List.length_map, hB.1]; omega) hacc (fun i ys σ hp => ∃ ds : List Addr, ys = ds.map V.ref ∧ At IntsT hp ds ((ts.map begL).take i) ∧ ∃ u, σ = [u]) ⟨[], rfl, At.nil, none, rfl⟩ ?_ ?_
  · rintro i ys σ H3 x H4 hi sm hacc2 ⟨ds, rfl, hD, u, rfl⟩ ⟨rfl, hx⟩ Cc hC
    obtain ⟨c, t, rfl, _, hy, hc⟩ := hB.ref hx
    have tm := List.mem_of_getElem? hy
    refine ⟨_, rfl, c, t, rfl, sm _ _ hc, N.ne t tm, by have := N.tlen tm; omega, fun p H5 s5 hp => ?_⟩
    refine hC _ _ _ s5 ⟨ds ++ [p], by simp, ?_, _, rfl⟩
    have ec : (ts.map begL)[i]? = some (begL t) := by rw [List.getElem?_map, hy]; rfl
    rw [take_snoc ec]
    exact (hD.keep mo_intsT (del_mono acc s5)).snoc (IntsT.del (t := begL t) hp (s5 _ _ hacc2))
  rintro ys σ H4 s4 ha4 hl4 ⟨gs, rfl, hG, u, rfl⟩
  rw [List.length_map, hB.1, List.take_of_length_le (by rw [List.length_map]; exact Nat.le_refl _)] at hG
  refine ⟨acc, _, rfl, .inl ⟨SqL.of ha4, fun pd hpd => ?_⟩⟩
  have s5 := same_new hpd (.tup (gs.map V.ref))
  have h5 : TupR IntsT (upd H4 pd (.tup (gs.map V.ref))) pd (ts.map begL) := ⟨gs, upd_same, (hG.keep mo_intsT (del_sub H4 acc)).keep mo_intsT s5⟩
  dsimp only
  refine name_goH ?_
  generalize upd H4 pd (.tup (gs.map V.ref)) = H5 at s5 h5
  have s25 := s4.trans s5
  obtain ⟨lb, rb⟩ := rots_beg ts
  have NB := N.rot lb rb
  have hR5 := mo_rr s25 hR
  have hT5 := mo_tt s25 hT
  refine ⟨_, rfl, _, rfl, _, rfl, ra, pd, n, 1, rs, ts.map begL, rfl, NB, hR5, h5, by decide, by decide, es, fun H6 s6 => ?_⟩
  have hR6 := mo_rr s6 hR5
  have hT6 := mo_tt s6 hT5
  have hd6 := mo_tt s6 h5
  -- what is read is as it is due
  have key : ∀ {H7 : Hp} {p7 r7 c7 D : Addr} {us : List (List Int)}, Same H6 H7 → H7 p7 = some (.tup [.int (n : Int), .ref r7, .ref c7]) → TupR RopeR H7 r7 rs → TupR IntsT H7 c7 (us.map begL) → us.map begL = ts.map begL → H7 D = some (.tup [.int (n : Int), .ref ra, .ref pd]) → AlkD H7 4 (.ref p7) (.ref D) := by
    intro H7 p7 r7 c7 D us s7 h7 hr7 hc e hD
    rw [e] at hc
    exact alk_net h7 hD hr7 (mo_rr s7 hR6) (by omega) hc (mo_tt s7 hd6) bts btl
  generalize hk9 : 1 + z / 21 % 9 = k9
  have k91 : 1 ≤ k9 := by omega
  have k99 : k9 ≤ 9 := by omega
  obtain ⟨k, rfl⟩ := Int.eq_ofNat_of_zero_le (show 0 ≤ k9 by omega)
  have eB : (ts.map begL).map begL = ts.map begL := begs_eq N.tn.nd N.ne lb rb
  generalize hdue : netTx n 1 rs (ts.map begL) = due
  refine ⟨_, rfl, _, _, rfl, rfl, ⟨by decide, by decide⟩, by show 2 ≤ sizeLine; decide, fun L hL => ?_⟩
  have sL := same_new hL (.lst [.int 0, .int (z / 14)])
  have eL : (upd H6 L (.lst [.int 0, .int (z / 14)])) L = some (.lst [.int 0, .int (z / 14)]) := upd_same
  refine ⟨L, rfl, ⟨_, SqL.of eL⟩, ?_⟩
  refine for_list (xs := ([0, z / 14] : List Int).map V.int) (fun i σ H7 => ∃ u v w, σ = [some (.ref a), some (.int z), some (.int (n : Int)), some (.ref ra), some (.ref ta), some (.ref pd), some (.str due), u, v, w] ∧ Same H6 H7 ∧ H7 L = some (.lst [.int 0, .int (z / 14)])) ⟨none, none, none, rfl, sL, eL⟩ (fun i σ H7 _ ⟨_, _, _, _, _, e7⟩ => SqL.of e7) ?_ ?_
  · rintro i x σ H7 hx ⟨u, v', w', rfl, s7, e7⟩
    obtain ⟨v, rfl, _⟩ := int_at hx
    have tok : ∀ t ∈ ts, t ≠ [] ∧ t.length ≤ 1000 := fun t ht => ⟨N.ne t ht, by have := N.tlen ht; omega⟩
    refine ⟨_, rfl, _, rfl, _, rfl, _, rfl, ta, ts, v, rfl, mo_tt s7 hT6, tslen, tok, fun pu us H8 s8 hu lu ru => ?_⟩
    have s68 := s7.trans s8
    refine ⟨by show 3 ≤ sizeLine; decide, fun pn hpn => ?_⟩
    have s9 := same_new hpn (.tup [.int (n : Int), .ref ra, .ref pu])
    have e9 : (upd H8 pn (.tup [.int (n : Int), .ref ra, .ref pu])) pn = some (.tup [.int (n : Int), .ref ra, .ref pu]) := upd_same
    generalize upd H8 pn (.tup [.int (n : Int), .ref ra, .ref pu]) = H9 at s9 e9
    have s69 := s68.trans s9
    have NU := N.rot lu ru
    have eU : us.map begL = ts.map begL := begs_eq N.tn.nd N.ne lu ru
    refine ⟨pn, ra, pu, n, rs, us, rfl, e9, NU, mo_rr s69 hR6, mo_tt s9 hu, fun HA sA => ?_⟩
    rw [eU, hdue]
    have s6A := s69.trans sA
    refine ⟨_, rfl, _, _, _, rfl, TyOf.str _, kit_self K _, _, rfl, iteF ?_⟩
    refine ⟨_, rfl, _, rfl, rfl, _, rfl, iteNS rfl ?_⟩
    refine ⟨_, rfl, _, rfl, _, rfl, _, rfl, ta, ts, v, rfl, mo_tt s6A hT6, tslen, tok, fun pu2 us2 HB sB hu2 lu2 ru2 => ?_⟩
    have NU2 := N.rot lu2 ru2
    have eU2 : us2.map begL = ts.map begL := begs_eq N.tn.nd N.ne lu2 ru2
    have s6B := s6A.trans sB
    refine ⟨_, rfl, _, _, rfl, rfl, ⟨by decide, by decide⟩, _, _, rfl, rfl, (show (0 : Int) < 9 by decide), _, _, rfl, rfl, ?_⟩
    refine ⟨ra, pu2, n, k, rs, us2, by rw [hk9]; rfl, NU2, mo_rr s6B hR6, hu2, by omega, by omega, es, fun HC sC => ?_⟩
    refine ⟨_, rfl, n, k, rs, us2, rfl, NU2, by omega, fun r hr => smf_of (es r hr) (by omega), fun p7 r7 c7 HD sD h7 hr7 hc7 => ?_⟩
    have s6D := s6B.trans (sC.trans sD)
    refine ⟨_, rfl, _, rfl, _, rfl, by show 3 ≤ sizeLine; decide, fun D hD => ?_⟩
    have sE := same_new hD (.tup [.int (n : Int), .ref ra, .ref pd])
    have eD : (upd HD D (.tup [.int (n : Int), .ref ra, .ref pd])) D = some (.tup [.int (n : Int), .ref ra, .ref pd]) := upd_same
    generalize upd HD D (.tup [.int (n : Int), .ref ra, .ref pd]) = HE at sE eD
    have s6E := s6D.trans sE
    refine ⟨_, _, rfl, key s6E (sE _ _ h7) (mo_rr sE hr7) (mo_tt sE hc7) eU2 eD, fun HF sF => ?_⟩
    refine ⟨_, rfl, iteF ?_⟩
    exact ⟨_, _, _, rfl, s6E.trans sF, sF _ _ (sE _ _ (sD _ _ (sC _ _ (sB _ _ (sA _ _ (s9 _ _ (s8 _ _ e7)))))))⟩
  · rintro σ H7 ⟨u, v', w', rfl, s7, e7⟩
    refine ⟨_, rfl, n, 1, rs, ts.map begL, by rw [hdue]; rfl, NB, by decide, smf_one N, fun p7 r7 c7 HD sD h7 hr7 hc7 => ?_⟩
    refine ⟨_, rfl, _, rfl, _, rfl, by show 3 ≤ sizeLine; decide, fun D hD => ?_⟩
    have sE := same_new hD (.tup [.int (n : Int), .ref ra, .ref pd])
    have eD : (upd HD D (.tup [.int (n : Int), .ref ra, .ref pd])) D = some (.tup [.int (n : Int), .ref ra, .ref pd]) := upd_same
    generalize upd HD D (.tup [.int (n : Int), .ref ra, .ref pd]) = HE at sE eD
    have s6E := (s7.trans sD).trans sE
    exact ⟨_, _, rfl, key s6E (sE _ _ h7) (mo_rr sE hr7) (mo_tt sE hc7) eB eD, fun HF sF => q _⟩
end
end My
namespace My
open PySem L2 Mth
theorem len_1 {α : Type} {us : List α} (h : us.length = 1) : ∃ a0, us = [a0] := by
  match us, h with
  | [a0], _ => exact ⟨a0, rfl⟩
theorem len_2 {α : Type} {us : List α} (h : us.length = 2) : ∃ a0 a1, us = [a0, a1] := by
  match us, h with
  | [a0, a1], _ => exact ⟨a0, a1, rfl⟩
theorem len_3 {α : Type} {us : List α} (h : us.length = 3) : ∃ a0 a1 a2, us = [a0, a1, a2] := by
  match us, h with
  | [a0, a1, a2], _ => exact ⟨a0, a1, a2, rfl⟩
theorem len_4 {α : Type} {us : List α} (h : us.length = 4) : ∃ a0 a1 a2 a3, us = [a0, a1, a2, a3] := by
  match us, h with
  | [a0, a1, a2, a3], _ => exact ⟨a0, a1, a2, a3, rfl⟩
set_option maxHeartbeats 4000000 in
theorem all_mk {l : PySem.W.OpenLaw} {w : World} {K : PySem.W.Frag} {h : Heap} {mg : Str → Option Value} {fa f1 f2 f3 f4 f5 f6 f7 f8 f9 f10 f11 f12 f13 f14 f15 f16 f17 f18 f19 f20 f21 f22 f23 f24 f25 f26 f27 f28 f29 f30 f31 f32 f33 f34 f35 f36 f37 f38 f39 f40 f41 f42 f43 f44 f45 : Addr} (X : K.In h) (G : h.Ns mainGlobals mg) (hfa : mg "law" = some (.ref fa))
    {od1 an1 od2 an2 od3 an3 od4 an4 od5 an5 od6 an6 od7 an7 od8 an8 od9 an9 od10 an10 od11 an11 od12 an12 od13 an13 od14 an14 od15 an15 od16 an16 od17 an17 od18 an18 od19 an19 od20 an20 od21 an21 od22 an22 od23 an23 od24 an24 od25 an25 od26 an26 od27 an27 od28 an28 od29 an29 od30 an30 od31 an31 od32 an32 od33 an33 od34 an34 od35 an35 od36 an36 od37 an37 od38 an38 od39 an39 od40 an40 od41 an41 od42 an42 od43 an43 od44 an44 od45 an45 : Option Addr}
    {sl1 sl2 sl3 sl4 sl5 sl6 sl7 sl8 sl9 sl10 sl11 sl12 sl13 sl14 sl15 sl16 sl17 sl18 sl19 sl20 sl21 sl22 sl23 sl24 sl25 sl26 sl27 sl28 sl29 sl30 sl31 sl32 sl33 sl34 sl35 sl36 sl37 sl38 sl39 sl40 sl41 sl42 sl43 sl44 sl45 : Array (Option Value)}
    {oc1 kV1 dc1 pm1 cd1 ct1 oc2 kV2 dc2 pm2 cd2 ct2 oc3 kV3 dc3 pm3 cd3 ct3 oc4 kV4 dc4 pm4 cd4 ct4 oc5 kV5 dc5 pm5 cd5 ct5 oc6 kV6 dc6 pm6 cd6 ct6 oc7 kV7 dc7 pm7 cd7 ct7 oc8 kV8 dc8 pm8 cd8 ct8 oc9 kV9 dc9 pm9 cd9 ct9 oc10 kV10 dc10 pm10 cd10 ct10 oc11 kV11 dc11 pm11 cd11 ct11 oc12 kV12 dc12 pm12 cd12 ct12 oc13 kV13 dc13 pm13 cd13 ct13 oc14 kV14 dc14 pm14 cd14 ct14 oc15 kV15 dc15 pm15 cd15 ct15 oc16 kV16 dc16 pm16 cd16 ct16 oc17 kV17 dc17 pm17 cd17 ct17 oc18 kV18 dc18 pm18 cd18 ct18 oc19 kV19 dc19 pm19 cd19 ct19 oc20 kV20 dc20 pm20 cd20 ct20 oc21 kV21 dc21 pm21 cd21 ct21 oc22 kV22 dc22 pm22 cd22 ct22 oc23 kV23 dc23 pm23 cd23 ct23 oc24 kV24 dc24 pm24 cd24 ct24 oc25 kV25 dc25 pm25 cd25 ct25 oc26 kV26 dc26 pm26 cd26 ct26 oc27 kV27 dc27 pm27 cd27 ct27 oc28 kV28 dc28 pm28 cd28 ct28 oc29 kV29 dc29 pm29 cd29 ct29 oc30 kV30 dc30 pm30 cd30 ct30 oc31 kV31 dc31 pm31 cd31 ct31 oc32 kV32 dc32 pm32 cd32 ct32 oc33 kV33 dc33 pm33 cd33 ct33 oc34 kV34 dc34 pm34 cd34 ct34 oc35 kV35 dc35 pm35 cd35 ct35 oc36 kV36 dc36 pm36 cd36 ct36 oc37 kV37 dc37 pm37 cd37 ct37 oc38 kV38 dc38 pm38 cd38 ct38 oc39 kV39 dc39 pm39 cd39 ct39 oc40 kV40 dc40 pm40 cd40 ct40 oc41 kV41 dc41 pm41 cd41 ct41 oc42 kV42 dc42 pm42 cd42 ct42 oc43 kV43 dc43 pm43 cd43 ct43 oc44 kV44 dc44 pm44 cd44 ct44 oc45 kV45 dc45 pm45 cd45 ct45 : Value}
    (a1 : PySem.W.nsIn K mainGlobals "common_part" = some (some (.ref f1))) (l1 : K.lookup f1 = some ⟨oc1, od1, .func (PySem.W.fnOf "common_part" "common_part" (defArgs sCommon) (defBody sCommon) (defScope sCommon) .none kV1 dc1 pm1 an1 cd1 ct1), sl1⟩) (c1 : PySem.W.codeIn K cd1 "common_part" = true) (k1 : PySem.W.keepIn K (.ref f1) = true)
    (a2 : PySem.W.nsIn K mainGlobals "fraction" = some (some (.ref f2))) (l2 : K.lookup f2 = some ⟨oc2, od2, .func (PySem.W.fnOf "fraction" "fraction" (defArgs sFraction) (defBody sFraction) (defScope sFraction) .none kV2 dc2 pm2 an2 cd2 ct2), sl2⟩) (c2 : PySem.W.codeIn K cd2 "fraction" = true) (k2 : PySem.W.keepIn K (.ref f2) = true)
    (a3 : PySem.W.nsIn K mainGlobals "figures" = some (some (.ref f3))) (l3 : K.lookup f3 = some ⟨oc3, od3, .func (PySem.W.fnOf "figures" "figures" (defArgs s_figures) (defBody s_figures) (defScope s_figures) .none kV3 dc3 pm3 an3 cd3 ct3), sl3⟩) (c3 : PySem.W.codeIn K cd3 "figures" = true) (k3 : PySem.W.keepIn K (.ref f3) = true)
    (a4 : PySem.W.nsIn K mainGlobals "written" = some (some (.ref f4))) (l4 : K.lookup f4 = some ⟨oc4, od4, .func (PySem.W.fnOf "written" "written" (defArgs sWritten) (defBody sWritten) (defScope sWritten) .none kV4 dc4 pm4 an4 cd4 ct4), sl4⟩) (c4 : PySem.W.codeIn K cd4 "written" = true) (k4 : PySem.W.keepIn K (.ref f4) = true)
    (a5 : PySem.W.nsIn K mainGlobals "other_end" = some (some (.ref f5))) (l5 : K.lookup f5 = some ⟨oc5, od5, .func (PySem.W.fnOf "other_end" "other_end" (defArgs sOther) (defBody sOther) (defScope sOther) .none kV5 dc5 pm5 an5 cd5 ct5), sl5⟩) (c5 : PySem.W.codeIn K cd5 "other_end" = true) (k5 : PySem.W.keepIn K (.ref f5) = true)
    (a6 : PySem.W.nsIn K mainGlobals "ends_ahead" = some (some (.ref f6))) (l6 : K.lookup f6 = some ⟨oc6, od6, .func (PySem.W.fnOf "ends_ahead" "ends_ahead" (defArgs sAhead) (defBody sAhead) (defScope sAhead) .none kV6 dc6 pm6 an6 cd6 ct6), sl6⟩) (c6 : PySem.W.codeIn K cd6 "ends_ahead" = true) (k6 : PySem.W.keepIn K (.ref f6) = true)
    (a7 : PySem.W.nsIn K mainGlobals "ring_from" = some (some (.ref f7))) (l7 : K.lookup f7 = some ⟨oc7, od7, .func (PySem.W.fnOf "ring_from" "ring_from" (defArgs sRingFrom) (defBody sRingFrom) (defScope sRingFrom) .none kV7 dc7 pm7 an7 cd7 ct7), sl7⟩) (c7 : PySem.W.codeIn K cd7 "ring_from" = true) (k7 : PySem.W.keepIn K (.ref f7) = true)
    (a8 : PySem.W.nsIn K mainGlobals "rings" = some (some (.ref f8))) (l8 : K.lookup f8 = some ⟨oc8, od8, .func (PySem.W.fnOf "rings" "rings" (defArgs sRings) (defBody sRings) (defScope sRings) .none kV8 dc8 pm8 an8 cd8 ct8), sl8⟩) (c8 : PySem.W.codeIn K cd8 "rings" = true) (k8 : PySem.W.keepIn K (.ref f8) = true)
    (a9 : PySem.W.nsIn K mainGlobals "is_ease" = some (some (.ref f9))) (l9 : K.lookup f9 = some ⟨oc9, od9, .func (PySem.W.fnOf "is_ease" "is_ease" (defArgs s_is_ease) (defBody s_is_ease) (defScope s_is_ease) .none kV9 dc9 pm9 an9 cd9 ct9), sl9⟩) (c9 : PySem.W.codeIn K cd9 "is_ease" = true) (k9 : PySem.W.keepIn K (.ref f9) = true)
    (a10 : PySem.W.nsIn K mainGlobals "check_numbers" = some (some (.ref f10))) (l10 : K.lookup f10 = some ⟨oc10, od10, .func (PySem.W.fnOf "check_numbers" "check_numbers" (defArgs s_check_numbers) (defBody s_check_numbers) (defScope s_check_numbers) .none kV10 dc10 pm10 an10 cd10 ct10), sl10⟩) (c10 : PySem.W.codeIn K cd10 "check_numbers" = true) (k10 : PySem.W.keepIn K (.ref f10) = true)
    (a11 : PySem.W.nsIn K mainGlobals "check_rope" = some (some (.ref f11))) (l11 : K.lookup f11 = some ⟨oc11, od11, .func (PySem.W.fnOf "check_rope" "check_rope" (defArgs s_check_rope) (defBody s_check_rope) (defScope s_check_rope) .none kV11 dc11 pm11 an11 cd11 ct11), sl11⟩) (c11 : PySem.W.codeIn K cd11 "check_rope" = true) (k11 : PySem.W.keepIn K (.ref f11) = true)
    (a12 : PySem.W.nsIn K mainGlobals "ends_at" = some (some (.ref f12))) (l12 : K.lookup f12 = some ⟨oc12, od12, .func (PySem.W.fnOf "ends_at" "ends_at" (defArgs s_ends_at) (defBody s_ends_at) (defScope s_ends_at) .none kV12 dc12 pm12 an12 cd12 ct12), sl12⟩) (c12 : PySem.W.codeIn K cd12 "ends_at" = true) (k12 : PySem.W.keepIn K (.ref f12) = true)
    (a13 : PySem.W.nsIn K mainGlobals "check_turns" = some (some (.ref f13))) (l13 : K.lookup f13 = some ⟨oc13, od13, .func (PySem.W.fnOf "check_turns" "check_turns" (defArgs s_check_turns) (defBody s_check_turns) (defScope s_check_turns) .none kV13 dc13 pm13 an13 cd13 ct13), sl13⟩) (c13 : PySem.W.codeIn K cd13 "check_turns" = true) (k13 : PySem.W.keepIn K (.ref f13) = true)
    (a14 : PySem.W.nsIn K mainGlobals "led_to" = some (some (.ref f14))) (l14 : K.lookup f14 = some ⟨oc14, od14, .func (PySem.W.fnOf "led_to" "led_to" (defArgs s_led_to) (defBody s_led_to) (defScope s_led_to) .none kV14 dc14 pm14 an14 cd14 ct14), sl14⟩) (c14 : PySem.W.codeIn K cd14 "led_to" = true) (k14 : PySem.W.keepIn K (.ref f14) = true)
    (a15 : PySem.W.nsIn K mainGlobals "check_hanging" = some (some (.ref f15))) (l15 : K.lookup f15 = some ⟨oc15, od15, .func (PySem.W.fnOf "check_hanging" "check_hanging" (defArgs s_check_hanging) (defBody s_check_hanging) (defScope s_check_hanging) .none kV15 dc15 pm15 an15 cd15 ct15), sl15⟩) (c15 : PySem.W.codeIn K cd15 "check_hanging" = true) (k15 : PySem.W.keepIn K (.ref f15) = true)
    (a16 : PySem.W.nsIn K mainGlobals "check_flat" = some (some (.ref f16))) (l16 : K.lookup f16 = some ⟨oc16, od16, .func (PySem.W.fnOf "check_flat" "check_flat" (defArgs s_check_flat) (defBody s_check_flat) (defScope s_check_flat) .none kV16 dc16 pm16 an16 cd16 ct16), sl16⟩) (c16 : PySem.W.codeIn K cd16 "check_flat" = true) (k16 : PySem.W.keepIn K (.ref f16) = true)
    (a17 : PySem.W.nsIn K mainGlobals "begun_least" = some (some (.ref f17))) (l17 : K.lookup f17 = some ⟨oc17, od17, .func (PySem.W.fnOf "begun_least" "begun_least" (defArgs s_begun_least) (defBody s_begun_least) (defScope s_begun_least) .none kV17 dc17 pm17 an17 cd17 ct17), sl17⟩) (c17 : PySem.W.codeIn K cd17 "begun_least" = true) (k17 : PySem.W.keepIn K (.ref f17) = true)
    (a18 : PySem.W.nsIn K mainGlobals "told_turns" = some (some (.ref f18))) (l18 : K.lookup f18 = some ⟨oc18, od18, .func (PySem.W.fnOf "told_turns" "told_turns" (defArgs s_told_turns) (defBody s_told_turns) (defScope s_told_turns) .none kV18 dc18 pm18 an18 cd18 ct18), sl18⟩) (c18 : PySem.W.codeIn K cd18 "told_turns" = true) (k18 : PySem.W.keepIn K (.ref f18) = true)
    (a19 : PySem.W.nsIn K mainGlobals "checked" = some (some (.ref f19))) (l19 : K.lookup f19 = some ⟨oc19, od19, .func (PySem.W.fnOf "checked" "checked" (defArgs s_checked) (defBody s_checked) (defScope s_checked) .none kV19 dc19 pm19 an19 cd19 ct19), sl19⟩) (c19 : PySem.W.codeIn K cd19 "checked" = true) (k19 : PySem.W.keepIn K (.ref f19) = true)
    (a20 : PySem.W.nsIn K mainGlobals "rope_text" = some (some (.ref f20))) (l20 : K.lookup f20 = some ⟨oc20, od20, .func (PySem.W.fnOf "rope_text" "rope_text" (defArgs s_rope_text) (defBody s_rope_text) (defScope s_rope_text) .none kV20 dc20 pm20 an20 cd20 ct20), sl20⟩) (c20 : PySem.W.codeIn K cd20 "rope_text" = true) (k20 : PySem.W.keepIn K (.ref f20) = true)
    (a21 : PySem.W.nsIn K mainGlobals "turn_text" = some (some (.ref f21))) (l21 : K.lookup f21 = some ⟨oc21, od21, .func (PySem.W.fnOf "turn_text" "turn_text" (defArgs s_turn_text) (defBody s_turn_text) (defScope s_turn_text) .none kV21 dc21 pm21 an21 cd21 ct21), sl21⟩) (c21 : PySem.W.codeIn K cd21 "turn_text" = true) (k21 : PySem.W.keepIn K (.ref f21) = true)
    (a22 : PySem.W.nsIn K mainGlobals "net_text" = some (some (.ref f22))) (l22 : K.lookup f22 = some ⟨oc22, od22, .func (PySem.W.fnOf "net_text" "net_text" (defArgs s_net_text) (defBody s_net_text) (defScope s_net_text) .none kV22 dc22 pm22 an22 cd22 ct22), sl22⟩) (c22 : PySem.W.codeIn K cd22 "net_text" = true) (k22 : PySem.W.keepIn K (.ref f22) = true)
    (a23 : PySem.W.nsIn K mainGlobals "is_number" = some (some (.ref f23))) (l23 : K.lookup f23 = some ⟨oc23, od23, .func (PySem.W.fnOf "is_number" "is_number" (defArgs s_is_number) (defBody s_is_number) (defScope s_is_number) .none kV23 dc23 pm23 an23 cd23 ct23), sl23⟩) (c23 : PySem.W.codeIn K cd23 "is_number" = true) (k23 : PySem.W.keepIn K (.ref f23) = true)
    (a24 : PySem.W.nsIn K mainGlobals "number_read" = some (some (.ref f24))) (l24 : K.lookup f24 = some ⟨oc24, od24, .func (PySem.W.fnOf "number_read" "number_read" (defArgs s_number_read) (defBody s_number_read) (defScope s_number_read) .none kV24 dc24 pm24 an24 cd24 ct24), sl24⟩) (c24 : PySem.W.codeIn K cd24 "number_read" = true) (k24 : PySem.W.keepIn K (.ref f24) = true)
    (a25 : PySem.W.nsIn K mainGlobals "ease_read" = some (some (.ref f25))) (l25 : K.lookup f25 = some ⟨oc25, od25, .func (PySem.W.fnOf "ease_read" "ease_read" (defArgs s_ease_read) (defBody s_ease_read) (defScope s_ease_read) .none kV25 dc25 pm25 an25 cd25 ct25), sl25⟩) (c25 : PySem.W.codeIn K cd25 "ease_read" = true) (k25 : PySem.W.keepIn K (.ref f25) = true)
    (a26 : PySem.W.nsIn K mainGlobals "rope_read" = some (some (.ref f26))) (l26 : K.lookup f26 = some ⟨oc26, od26, .func (PySem.W.fnOf "rope_read" "rope_read" (defArgs s_rope_read) (defBody s_rope_read) (defScope s_rope_read) .none kV26 dc26 pm26 an26 cd26 ct26), sl26⟩) (c26 : PySem.W.codeIn K cd26 "rope_read" = true) (k26 : PySem.W.keepIn K (.ref f26) = true)
    (a27 : PySem.W.nsIn K mainGlobals "turn_read" = some (some (.ref f27))) (l27 : K.lookup f27 = some ⟨oc27, od27, .func (PySem.W.fnOf "turn_read" "turn_read" (defArgs s_turn_read) (defBody s_turn_read) (defScope s_turn_read) .none kV27 dc27 pm27 an27 cd27 ct27), sl27⟩) (c27 : PySem.W.codeIn K cd27 "turn_read" = true) (k27 : PySem.W.keepIn K (.ref f27) = true)
    (a28 : PySem.W.nsIn K mainGlobals "net_read" = some (some (.ref f28))) (l28 : K.lookup f28 = some ⟨oc28, od28, .func (PySem.W.fnOf "net_read" "net_read" (defArgs s_net_read) (defBody s_net_read) (defScope s_net_read) .none kV28 dc28 pm28 an28 cd28 ct28), sl28⟩) (c28 : PySem.W.codeIn K cd28 "net_read" = true) (k28 : PySem.W.keepIn K (.ref f28) = true)
    (a29 : PySem.W.nsIn K mainGlobals "_law_cell_at" = some (some (.ref f29))) (l29 : K.lookup f29 = some ⟨oc29, od29, .func (PySem.W.fnOf "_law_cell_at" "_law_cell_at" (defArgs s_law_cell_at) (defBody s_law_cell_at) (defScope s_law_cell_at) .none kV29 dc29 pm29 an29 cd29 ct29), sl29⟩) (c29 : PySem.W.codeIn K cd29 "_law_cell_at" = true) (k29 : PySem.W.keepIn K (.ref f29) = true)
    (a30 : PySem.W.nsIn K mainGlobals "_law_drawn" = some (some (.ref f30))) (l30 : K.lookup f30 = some ⟨oc30, od30, .func (PySem.W.fnOf "_law_drawn" "_law_drawn" (defArgs s_law_drawn) (defBody s_law_drawn) (defScope s_law_drawn) .none kV30 dc30 pm30 an30 cd30 ct30), sl30⟩) (c30 : PySem.W.codeIn K cd30 "_law_drawn" = true) (k30 : PySem.W.keepIn K (.ref f30) = true)
    (a31 : PySem.W.nsIn K mainGlobals "_law_whole" = some (some (.ref f31))) (l31 : K.lookup f31 = some ⟨oc31, od31, .func (PySem.W.fnOf "_law_whole" "_law_whole" (defArgs sWhole) (defBody sWhole) (defScope sWhole) .none kV31 dc31 pm31 an31 cd31 ct31), sl31⟩) (c31 : PySem.W.codeIn K cd31 "_law_whole" = true) (k31 : PySem.W.keepIn K (.ref f31) = true)
    (a32 : PySem.W.nsIn K mainGlobals "_law_common" = some (some (.ref f32))) (l32 : K.lookup f32 = some ⟨oc32, od32, .func (PySem.W.fnOf "_law_common" "_law_common" (defArgs s_law_common) (defBody s_law_common) (defScope s_law_common) .none kV32 dc32 pm32 an32 cd32 ct32), sl32⟩) (c32 : PySem.W.codeIn K cd32 "_law_common" = true) (k32 : PySem.W.keepIn K (.ref f32) = true)
    (a33 : PySem.W.nsIn K mainGlobals "_law_lowest" = some (some (.ref f33))) (l33 : K.lookup f33 = some ⟨oc33, od33, .func (PySem.W.fnOf "_law_lowest" "_law_lowest" (defArgs s_law_lowest) (defBody s_law_lowest) (defScope s_law_lowest) .none kV33 dc33 pm33 an33 cd33 ct33), sl33⟩) (c33 : PySem.W.codeIn K cd33 "_law_lowest" = true) (k33 : PySem.W.keepIn K (.ref f33) = true)
    (a34 : PySem.W.nsIn K mainGlobals "_law_alike" = some (some (.ref f34))) (l34 : K.lookup f34 = some ⟨oc34, od34, .func (PySem.W.fnOf "_law_alike" "_law_alike" (defArgs s_law_alike) (defBody s_law_alike) (defScope s_law_alike) .none kV34 dc34 pm34 an34 cd34 ct34), sl34⟩) (c34 : PySem.W.codeIn K cd34 "_law_alike" = true) (k34 : PySem.W.keepIn K (.ref f34) = true)
    (a35 : PySem.W.nsIn K mainGlobals "_law_next" = some (some (.ref f35))) (l35 : K.lookup f35 = some ⟨oc35, od35, .func (PySem.W.fnOf "_law_next" "_law_next" (defArgs sNext) (defBody sNext) (defScope sNext) .none kV35 dc35 pm35 an35 cd35 ct35), sl35⟩) (c35 : PySem.W.codeIn K cd35 "_law_next" = true) (k35 : PySem.W.keepIn K (.ref f35) = true)
    (a36 : PySem.W.nsIn K mainGlobals "_law_ring" = some (some (.ref f36))) (l36 : K.lookup f36 = some ⟨oc36, od36, .func (PySem.W.fnOf "_law_ring" "_law_ring" (defArgs s_law_ring) (defBody s_law_ring) (defScope s_law_ring) .none kV36 dc36 pm36 an36 cd36 ct36), sl36⟩) (c36 : PySem.W.codeIn K cd36 "_law_ring" = true) (k36 : PySem.W.keepIn K (.ref f36) = true)
    (a37 : PySem.W.nsIn K mainGlobals "_law_put_ahead" = some (some (.ref f37))) (l37 : K.lookup f37 = some ⟨oc37, od37, .func (PySem.W.fnOf "_law_put_ahead" "_law_put_ahead" (defArgs s_law_put_ahead) (defBody s_law_put_ahead) (defScope s_law_put_ahead) .none kV37 dc37 pm37 an37 cd37 ct37), sl37⟩) (c37 : PySem.W.codeIn K cd37 "_law_put_ahead" = true) (k37 : PySem.W.keepIn K (.ref f37) = true)
    (a38 : PySem.W.nsIn K mainGlobals "_law_one_more" = some (some (.ref f38))) (l38 : K.lookup f38 = some ⟨oc38, od38, .func (PySem.W.fnOf "_law_one_more" "_law_one_more" (defArgs s_law_one_more) (defBody s_law_one_more) (defScope s_law_one_more) .none kV38 dc38 pm38 an38 cd38 ct38), sl38⟩) (c38 : PySem.W.codeIn K cd38 "_law_one_more" = true) (k38 : PySem.W.keepIn K (.ref f38) = true)
    (a39 : PySem.W.nsIn K mainGlobals "_law_ease" = some (some (.ref f39))) (l39 : K.lookup f39 = some ⟨oc39, od39, .func (PySem.W.fnOf "_law_ease" "_law_ease" (defArgs sLEase) (defBody sLEase) (defScope sLEase) .none kV39 dc39 pm39 an39 cd39 ct39), sl39⟩) (c39 : PySem.W.codeIn K cd39 "_law_ease" = true) (k39 : PySem.W.keepIn K (.ref f39) = true)
    (a40 : PySem.W.nsIn K mainGlobals "_law_grown" = some (some (.ref f40))) (l40 : K.lookup f40 = some ⟨oc40, od40, .func (PySem.W.fnOf "_law_grown" "_law_grown" (defArgs s_law_grown) (defBody s_law_grown) (defScope s_law_grown) .none kV40 dc40 pm40 an40 cd40 ct40), sl40⟩) (c40 : PySem.W.codeIn K cd40 "_law_grown" = true) (k40 : PySem.W.keepIn K (.ref f40) = true)
    (a41 : PySem.W.nsIn K mainGlobals "_law_begun" = some (some (.ref f41))) (l41 : K.lookup f41 = some ⟨oc41, od41, .func (PySem.W.fnOf "_law_begun" "_law_begun" (defArgs s_law_begun) (defBody s_law_begun) (defScope s_law_begun) .none kV41 dc41 pm41 an41 cd41 ct41), sl41⟩) (c41 : PySem.W.codeIn K cd41 "_law_begun" = true) (k41 : PySem.W.keepIn K (.ref f41) = true)
    (a42 : PySem.W.nsIn K mainGlobals "_law_turned_about" = some (some (.ref f42))) (l42 : K.lookup f42 = some ⟨oc42, od42, .func (PySem.W.fnOf "_law_turned_about" "_law_turned_about" (defArgs s_law_turned_about) (defBody s_law_turned_about) (defScope s_law_turned_about) .none kV42 dc42 pm42 an42 cd42 ct42), sl42⟩) (c42 : PySem.W.codeIn K cd42 "_law_turned_about" = true) (k42 : PySem.W.keepIn K (.ref f42) = true)
    (a43 : PySem.W.nsIn K mainGlobals "_law_ease_text" = some (some (.ref f43))) (l43 : K.lookup f43 = some ⟨oc43, od43, .func (PySem.W.fnOf "_law_ease_text" "_law_ease_text" (defArgs s_law_ease_text) (defBody s_law_ease_text) (defScope s_law_ease_text) .none kV43 dc43 pm43 an43 cd43 ct43), sl43⟩) (c43 : PySem.W.codeIn K cd43 "_law_ease_text" = true) (k43 : PySem.W.keepIn K (.ref f43) = true)
    (a44 : PySem.W.nsIn K mainGlobals "_law_text" = some (some (.ref f44))) (l44 : K.lookup f44 = some ⟨oc44, od44, .func (PySem.W.fnOf "_law_text" "_law_text" (defArgs s_law_text) (defBody s_law_text) (defScope s_law_text) .none kV44 dc44 pm44 an44 cd44 ct44), sl44⟩) (c44 : PySem.W.codeIn K cd44 "_law_text" = true) (k44 : PySem.W.keepIn K (.ref f44) = true)
    (a45 : PySem.W.nsIn K mainGlobals "law" = some (some (.ref f45))) (l45 : K.lookup f45 = some ⟨oc45, od45, .func (PySem.W.fnOf "law" "law" (defArgs sLaw) (defBody sLaw) (defScope sLaw) .none kV45 dc45 pm45 an45 cd45 ct45), sl45⟩) (c45 : PySem.W.codeIn K cd45 "law" = true) (k45 : PySem.W.keepIn K (.ref f45) = true)
    (z_abs : PySem.W.nsIn K mainGlobals "abs" = some none)
    (z_len : PySem.W.nsIn K mainGlobals "len" = some none)
    (z_range : PySem.W.nsIn K mainGlobals "range" = some none)
    (z_tuple : PySem.W.nsIn K mainGlobals "tuple" = some none)
    (z_enumerate : PySem.W.nsIn K mainGlobals "enumerate" = some none)
    (z_sorted : PySem.W.nsIn K mainGlobals "sorted" = some none)
    (z_min : PySem.W.nsIn K mainGlobals "min" = some none)
    (z_max : PySem.W.nsIn K mainGlobals "max" = some none)
    (z_all : PySem.W.nsIn K mainGlobals "all" = some none)
    (z_isinstance : PySem.W.nsIn K mainGlobals "isinstance" = some none)
    (z_int : PySem.W.nsIn K mainGlobals "int" = some none)
    (z_bool : PySem.W.nsIn K mainGlobals "bool" = some none)
    (z_str : PySem.W.nsIn K mainGlobals "str" = some none)
    (z_reversed : PySem.W.nsIn K mainGlobals "reversed" = some none)
    : ∃ fd : FuncData, (∀ (s : Shared) (v : Value), BindsTo s fd ⟨[v], []⟩ [("_law_script", v)]) ∧ ∀ base : Heap, K.In base → base.Ns mainGlobals mg → FnOk l.prog w K mg base CX0 7 fa fd ["_law_script"] (spLaw K) := by
  have e := hfa.symm.trans (PySem.W.mg_of X G a45)
  cases e
  have F1 := fun_mk (st := sCommon) l1 c1 k1
  have b1 := F1.binds (ps := ["one", "other"]) fun _ _ _ _ _ _ us hl => by obtain ⟨_, _, rfl⟩ := len_2 hl; rfl
  have m1 := PySem.W.mg_of X G a1
  have F2 := fun_mk (st := sFraction) l2 c2 k2
  have b2 := F2.binds (ps := ["top", "bottom"]) fun _ _ _ _ _ _ us hl => by obtain ⟨_, _, rfl⟩ := len_2 hl; rfl
  have m2 := PySem.W.mg_of X G a2
  have F3 := fun_mk (st := s_figures) l3 c3 k3
  have b3 := F3.binds (ps := ["number"]) fun _ _ _ _ _ _ us hl => by obtain ⟨_, rfl⟩ := len_1 hl; rfl
  have m3 := PySem.W.mg_of X G a3
  have F4 := fun_mk (st := sWritten) l4 c4 k4
  have b4 := F4.binds (ps := ["one"]) fun _ _ _ _ _ _ us hl => by obtain ⟨_, rfl⟩ := len_1 hl; rfl
  have m4 := PySem.W.mg_of X G a4
  have F5 := fun_mk (st := sOther) l5 c5 k5
  have b5 := F5.binds (ps := ["end"]) fun _ _ _ _ _ _ us hl => by obtain ⟨_, rfl⟩ := len_1 hl; rfl
  have m5 := PySem.W.mg_of X G a5
  have F6 := fun_mk (st := sAhead) l6 c6 k6
  have b6 := F6.binds (ps := ["turns"]) fun _ _ _ _ _ _ us hl => by obtain ⟨_, rfl⟩ := len_1 hl; rfl
  have m6 := PySem.W.mg_of X G a6
  have F7 := fun_mk (st := sRingFrom) l7 c7 k7
  have b7 := F7.binds (ps := ["start", "ahead"]) fun _ _ _ _ _ _ us hl => by obtain ⟨_, _, rfl⟩ := len_2 hl; rfl
  have m7 := PySem.W.mg_of X G a7
  have F8 := fun_mk (st := sRings) l8 c8 k8
  have b8 := F8.binds (ps := ["turns"]) fun _ _ _ _ _ _ us hl => by obtain ⟨_, rfl⟩ := len_1 hl; rfl
  have m8 := PySem.W.mg_of X G a8
  have F9 := fun_mk (st := s_is_ease) l9 c9 k9
  have b9 := F9.binds (ps := ["ease"]) fun _ _ _ _ _ _ us hl => by obtain ⟨_, rfl⟩ := len_1 hl; rfl
  have m9 := PySem.W.mg_of X G a9
  have F10 := fun_mk (st := s_check_numbers) l10 c10 k10
  have b10 := F10.binds (ps := ["places", "ropes"]) fun _ _ _ _ _ _ us hl => by obtain ⟨_, _, rfl⟩ := len_2 hl; rfl
  have m10 := PySem.W.mg_of X G a10
  have F11 := fun_mk (st := s_check_rope) l11 c11 k11
  have b11 := F11.binds (ps := ["places", "number", "rope"]) fun _ _ _ _ _ _ us hl => by obtain ⟨_, _, _, rfl⟩ := len_3 hl; rfl
  have m11 := PySem.W.mg_of X G a11
  have F12 := fun_mk (st := s_ends_at) l12 c12 k12
  have b12 := F12.binds (ps := ["places", "ropes"]) fun _ _ _ _ _ _ us hl => by obtain ⟨_, _, rfl⟩ := len_2 hl; rfl
  have m12 := PySem.W.mg_of X G a12
  have F13 := fun_mk (st := s_check_turns) l13 c13 k13
  have b13 := F13.binds (ps := ["places", "ropes", "turns"]) fun _ _ _ _ _ _ us hl => by obtain ⟨_, _, _, rfl⟩ := len_3 hl; rfl
  have m13 := PySem.W.mg_of X G a13
  have F14 := fun_mk (st := s_led_to) l14 c14 k14
  have b14 := F14.binds (ps := ["start", "ropes"]) fun _ _ _ _ _ _ us hl => by obtain ⟨_, _, rfl⟩ := len_2 hl; rfl
  have m14 := PySem.W.mg_of X G a14
  have F15 := fun_mk (st := s_check_hanging) l15 c15 k15
  have b15 := F15.binds (ps := ["places", "ropes"]) fun _ _ _ _ _ _ us hl => by obtain ⟨_, _, rfl⟩ := len_2 hl; rfl
  have m15 := PySem.W.mg_of X G a15
  have F16 := fun_mk (st := s_check_flat) l16 c16 k16
  have b16 := F16.binds (ps := ["places", "ropes", "turns"]) fun _ _ _ _ _ _ us hl => by obtain ⟨_, _, _, rfl⟩ := len_3 hl; rfl
  have m16 := PySem.W.mg_of X G a16
  have F17 := fun_mk (st := s_begun_least) l17 c17 k17
  have b17 := F17.binds (ps := ["turn"]) fun _ _ _ _ _ _ us hl => by obtain ⟨_, rfl⟩ := len_1 hl; rfl
  have m17 := PySem.W.mg_of X G a17
  have F18 := fun_mk (st := s_told_turns) l18 c18 k18
  have b18 := F18.binds (ps := ["turns"]) fun _ _ _ _ _ _ us hl => by obtain ⟨_, rfl⟩ := len_1 hl; rfl
  have m18 := PySem.W.mg_of X G a18
  have F19 := fun_mk (st := s_checked) l19 c19 k19
  have b19 := F19.binds (ps := ["places", "ropes", "turns"]) fun _ _ _ _ _ _ us hl => by obtain ⟨_, _, _, rfl⟩ := len_3 hl; rfl
  have m19 := PySem.W.mg_of X G a19
  have F20 := fun_mk (st := s_rope_text) l20 c20 k20
  have b20 := F20.binds (ps := ["rope"]) fun _ _ _ _ _ _ us hl => by obtain ⟨_, rfl⟩ := len_1 hl; rfl
  have m20 := PySem.W.mg_of X G a20
  have F21 := fun_mk (st := s_turn_text) l21 c21 k21
  have b21 := F21.binds (ps := ["turn"]) fun _ _ _ _ _ _ us hl => by obtain ⟨_, rfl⟩ := len_1 hl; rfl
  have m21 := PySem.W.mg_of X G a21
  have F22 := fun_mk (st := s_net_text) l22 c22 k22
  have b22 := F22.binds (ps := ["net"]) fun _ _ _ _ _ _ us hl => by obtain ⟨_, rfl⟩ := len_1 hl; rfl
  have m22 := PySem.W.mg_of X G a22
  have F23 := fun_mk (st := s_is_number) l23 c23 k23
  have b23 := F23.binds (ps := ["text", "most"]) fun _ _ _ _ _ _ us hl => by obtain ⟨_, _, rfl⟩ := len_2 hl; rfl
  have m23 := PySem.W.mg_of X G a23
  have F24 := fun_mk (st := s_number_read) l24 c24 k24
  have b24 := F24.binds (ps := ["text", "most", "part"]) fun _ _ _ _ _ _ us hl => by obtain ⟨_, _, _, rfl⟩ := len_3 hl; rfl
  have m24 := PySem.W.mg_of X G a24
  have F25 := fun_mk (st := s_ease_read) l25 c25 k25
  have b25 := F25.binds (ps := ["text"]) fun _ _ _ _ _ _ us hl => by obtain ⟨_, rfl⟩ := len_1 hl; rfl
  have m25 := PySem.W.mg_of X G a25
  have F26 := fun_mk (st := s_rope_read) l26 c26 k26
  have b26 := F26.binds (ps := ["text"]) fun _ _ _ _ _ _ us hl => by obtain ⟨_, rfl⟩ := len_1 hl; rfl
  have m26 := PySem.W.mg_of X G a26
  have F27 := fun_mk (st := s_turn_read) l27 c27 k27
  have b27 := F27.binds (ps := ["text"]) fun _ _ _ _ _ _ us hl => by obtain ⟨_, rfl⟩ := len_1 hl; rfl
  have m27 := PySem.W.mg_of X G a27
  have F28 := fun_mk (st := s_net_read) l28 c28 k28
  have b28 := F28.binds (ps := ["text"]) fun _ _ _ _ _ _ us hl => by obtain ⟨_, rfl⟩ := len_1 hl; rfl
  have m28 := PySem.W.mg_of X G a28
  have F29 := fun_mk (st := s_law_cell_at) l29 c29 k29
  have b29 := F29.binds (ps := ["_law_script", "_law_k"]) fun _ _ _ _ _ _ us hl => by obtain ⟨_, _, rfl⟩ := len_2 hl; rfl
  have m29 := PySem.W.mg_of X G a29
  have F30 := fun_mk (st := s_law_drawn) l30 c30 k30
  have b30 := F30.binds (ps := ["_law_script", "_law_k"]) fun _ _ _ _ _ _ us hl => by obtain ⟨_, _, rfl⟩ := len_2 hl; rfl
  have m30 := PySem.W.mg_of X G a30
  have F31 := fun_mk (st := sWhole) l31 c31 k31
  have b31 := F31.binds (ps := ["_law_found"]) fun _ _ _ _ _ _ us hl => by obtain ⟨_, rfl⟩ := len_1 hl; rfl
  have m31 := PySem.W.mg_of X G a31
  have F32 := fun_mk (st := s_law_common) l32 c32 k32
  have b32 := F32.binds (ps := ["_law_one", "_law_other"]) fun _ _ _ _ _ _ us hl => by obtain ⟨_, _, rfl⟩ := len_2 hl; rfl
  have m32 := PySem.W.mg_of X G a32
  have F33 := fun_mk (st := s_law_lowest) l33 c33 k33
  have b33 := F33.binds (ps := ["_law_top", "_law_bottom"]) fun _ _ _ _ _ _ us hl => by obtain ⟨_, _, rfl⟩ := len_2 hl; rfl
  have m33 := PySem.W.mg_of X G a33
  have F34 := fun_mk (st := s_law_alike) l34 c34 k34
  have b34 := F34.binds (ps := ["_law_found", "_law_due"]) fun _ _ _ _ _ _ us hl => by obtain ⟨_, _, rfl⟩ := len_2 hl; rfl
  have m34 := PySem.W.mg_of X G a34
  have F35 := fun_mk (st := sNext) l35 c35 k35
  have b35 := F35.binds (ps := ["_law_turns", "_law_homes", "_law_end"]) fun _ _ _ _ _ _ us hl => by obtain ⟨_, _, _, rfl⟩ := len_3 hl; rfl
  have m35 := PySem.W.mg_of X G a35
  have F36 := fun_mk (st := s_law_ring) l36 c36 k36
  have b36 := F36.binds (ps := ["_law_turns", "_law_homes", "_law_start"]) fun _ _ _ _ _ _ us hl => by obtain ⟨_, _, _, rfl⟩ := len_3 hl; rfl
  have m36 := PySem.W.mg_of X G a36
  have F37 := fun_mk (st := s_law_put_ahead) l37 c37 k37
  have b37 := F37.binds (ps := ["_law_turns", "_law_homes", "_law_spot", "_law_end"]) fun _ _ _ _ _ _ us hl => by obtain ⟨_, _, _, _, rfl⟩ := len_4 hl; rfl
  have m37 := PySem.W.mg_of X G a37
  have F38 := fun_mk (st := s_law_one_more) l38 c38 k38
  have b38 := F38.binds (ps := ["_law_turns", "_law_homes", "_law_cell"]) fun _ _ _ _ _ _ us hl => by obtain ⟨_, _, _, rfl⟩ := len_3 hl; rfl
  have m38 := PySem.W.mg_of X G a38
  have F39 := fun_mk (st := sLEase) l39 c39 k39
  have b39 := F39.binds (ps := ["_law_cell"]) fun _ _ _ _ _ _ us hl => by obtain ⟨_, rfl⟩ := len_1 hl; rfl
  have m39 := PySem.W.mg_of X G a39
  have F40 := fun_mk (st := s_law_grown) l40 c40 k40
  have b40 := F40.binds (ps := ["_law_script", "_law_start", "_law_many"]) fun _ _ _ _ _ _ us hl => by obtain ⟨_, _, _, rfl⟩ := len_3 hl; rfl
  have m40 := PySem.W.mg_of X G a40
  have F41 := fun_mk (st := s_law_begun) l41 c41 k41
  have b41 := F41.binds (ps := ["_law_turn"]) fun _ _ _ _ _ _ us hl => by obtain ⟨_, rfl⟩ := len_1 hl; rfl
  have m41 := PySem.W.mg_of X G a41
  have F42 := fun_mk (st := s_law_turned_about) l42 c42 k42
  have b42 := F42.binds (ps := ["_law_turns", "_law_cell"]) fun _ _ _ _ _ _ us hl => by obtain ⟨_, _, rfl⟩ := len_2 hl; rfl
  have m42 := PySem.W.mg_of X G a42
  have F43 := fun_mk (st := s_law_ease_text) l43 c43 k43
  have b43 := F43.binds (ps := ["_law_ease_here", "_law_factor"]) fun _ _ _ _ _ _ us hl => by obtain ⟨_, _, rfl⟩ := len_2 hl; rfl
  have m43 := PySem.W.mg_of X G a43
  have F44 := fun_mk (st := s_law_text) l44 c44 k44
  have b44 := F44.binds (ps := ["_law_places", "_law_ropes", "_law_turns", "_law_factor"]) fun _ _ _ _ _ _ us hl => by obtain ⟨_, _, _, _, rfl⟩ := len_4 hl; rfl
  have m44 := PySem.W.mg_of X G a44
  have F45 := fun_mk (st := sLaw) l45 c45 k45
  have m_abs := PySem.W.mg_none_of X G z_abs
  have m_len := PySem.W.mg_none_of X G z_len
  have m_range := PySem.W.mg_none_of X G z_range
  have m_tuple := PySem.W.mg_none_of X G z_tuple
  have m_enumerate := PySem.W.mg_none_of X G z_enumerate
  have m_sorted := PySem.W.mg_none_of X G z_sorted
  have m_min := PySem.W.mg_none_of X G z_min
  have m_max := PySem.W.mg_none_of X G z_max
  have m_all := PySem.W.mg_none_of X G z_all
  have m_isinstance := PySem.W.mg_none_of X G z_isinstance
  have m_int := PySem.W.mg_none_of X G z_int
  have m_bool := PySem.W.mg_none_of X G z_bool
  have m_str := PySem.W.mg_none_of X G z_str
  have m_reversed := PySem.W.mg_none_of X G z_reversed
  refine ⟨PySem.W.fnOf "law" "law" (defArgs sLaw) (defBody sLaw) (defScope sLaw) .none kV45 dc45 pm45 an45 cd45 ct45, fun s v => .of_eq rfl, fun base _ _ => ?_⟩
  have O1 : FnOk l.prog w K mg base CX0 1 f1 _ ["one", "other"] spGcd := ok_common F1  m_abs
  have O2 : FnOk l.prog w K mg base CX0 2 f2 _ ["top", "bottom"] spLow := ok_frac2 F2 O1 b1 k1 m1 
  have O3 : FnOk l.prog w K mg base CX0 1 f3 _ ["number"] spFig := ok_figures F3  m_abs m_str m_reversed
  have O4 : FnOk l.prog w K mg base CX0 2 f4 _ ["one"] spWr := ok_written F4 O3 b3 k3 m3 
  have O5 : FnOk l.prog w K mg base CX0 1 f5 _ ["end"] spOth := ok_other F5  
  have O6 : FnOk l.prog w K mg base CX0 1 f6 _ ["turns"] spAhead := ok_ahead F6  m_enumerate
  have O7 : FnOk l.prog w K mg base CX0 2 f7 _ ["start", "ahead"] spRing := ok_ringFrom F7 O5 b5 k5 m5 m_tuple
  have O8 : FnOk l.prog w K mg base CX0 3 f8 _ ["turns"] spRings := ok_rings F8 O6 b6 k6 m6 O7 b7 k7 m7 m_len m_range m_tuple
  have O9 : FnOk l.prog w K mg base CX0 2 f9 _ ["ease"] spIsE := ok_isEase F9 O1 b1 k1 m1 m_len
  have O10 : FnOk l.prog w K mg base CX0 1 f10 _ ["places", "ropes"] spChkN := ok_chkN F10  m_len
  have O11 : FnOk l.prog w K mg base CX0 3 f11 _ ["places", "number", "rope"] spChkR := ok_chkR F11 O9 b9 k9 m9 
  have O12 : FnOk l.prog w K mg base CX0 1 f12 _ ["places", "ropes"] spEnds := ok_ends F12  m_len m_range m_enumerate
  have O13 : FnOk l.prog w K mg base CX0 2 f13 _ ["places", "ropes", "turns"] spTurns := ok_turns F13 O12 b12 k12 m12 m_len m_enumerate m_sorted
  have O14 : FnOk l.prog w K mg base CX0 1 f14 _ ["start", "ropes"] spLed := ok_led F14  m_len
  have O15 : FnOk l.prog w K mg base CX0 2 f15 _ ["places", "ropes"] spHang := ok_hang F15 O14 b14 k14 m14 m_range
  have O16 : FnOk l.prog w K mg base CX0 4 f16 _ ["places", "ropes", "turns"] spFlat := ok_flat F16 O8 b8 k8 m8 m_len
  have O17 : FnOk l.prog w K mg base CX0 1 f17 _ ["turn"] spBeg := ok_beg F17  m_min
  have O18 : FnOk l.prog w K mg base CX0 2 f18 _ ["turns"] spTold := ok_told F18 O17 b17 k17 m17 m_tuple
  have O19 : FnOk l.prog w K mg base CX0 5 f19 _ ["places", "ropes", "turns"] spChecked := ok_checked F19 O10 b10 k10 m10 O11 b11 k11 m11 O13 b13 k13 m13 O15 b15 k15 m15 O16 b16 k16 m16 O18 b18 k18 m18 m_enumerate
  have O20 : FnOk l.prog w K mg base CX0 3 f20 _ ["rope"] spRt := ok_ropeT F20 O4 b4 k4 m4 m_str
  have O21 : FnOk l.prog w K mg base CX0 1 f21 _ ["turn"] spTt := ok_turnT F21  m_str
  have O22 : FnOk l.prog w K mg base CX0 4 f22 _ ["net"] spNt := ok_netT F22 O20 b20 k20 m20 O21 b21 k21 m21 O18 b18 k18 m18 m_str
  have O23 : FnOk l.prog w K mg base CX0 1 f23 _ ["text", "most"] spIn := ok_isnum F23  m_len
  have O24 : FnOk l.prog w K mg base CX0 2 f24 _ ["text", "most", "part"] spNr := ok_numR F24 O23 b23 k23 m23 m_int
  have O25 : FnOk l.prog w K mg base CX0 3 f25 _ ["text"] spEr := ok_easeR F25 O24 b24 k24 m24 O2 b2 k2 m2 m_len
  have O26 : FnOk l.prog w K mg base CX0 4 f26 _ ["text"] spRr := ok_ropeR F26 O24 b24 k24 m24 O25 b25 k25 m25 m_len
  have O27 : FnOk l.prog w K mg base CX0 3 f27 _ ["text"] spTr := ok_turnR F27 O24 b24 k24 m24 m_tuple
  have O28 : FnOk l.prog w K mg base CX0 6 f28 _ ["text"] spNd := ok_netR F28 O24 b24 k24 m24 O26 b26 k26 m26 O27 b27 k27 m27 O19 b19 k19 m19 m_len m_tuple
  have O29 : FnOk l.prog w K mg base CX0 1 f29 _ ["_law_script", "_law_k"] (spCell K) := ok_cell F29  m_len
  have O30 : FnOk l.prog w K mg base CX0 2 f30 _ ["_law_script", "_law_k"] (spDrawn K) := ok_drawn F30 O29 b29 k29 m29 m_int
  have O31 : FnOk l.prog w K mg base CX0 1 f31 _ ["_law_found"] spWhole := ok_whole F31  m_isinstance m_int m_bool
  have O32 : FnOk l.prog w K mg base CX0 1 f32 _ ["_law_one", "_law_other"] spGcd := ok_lcommon F32  m_abs
  have O33 : FnOk l.prog w K mg base CX0 2 f33 _ ["_law_top", "_law_bottom"] spLow := ok_lowest F33 O32 b32 k32 m32 
  have A0 : FnOk l.prog w K mg base CX0 2 f34 _ ["_law_found", "_law_due"] (spAlk 0) := ok_alk0 F34 O31 b31 k31 m31 m_isinstance m_tuple
  have A1 : FnOk l.prog w K mg base CX0 3 f34 _ ["_law_found", "_law_due"] (spAlk 1) := ok_alkS 0 F34  O31 b31 k31 m31 A0 b34 m34 m_isinstance m_tuple m_len m_range m_all
  have A2 : FnOk l.prog w K mg base CX0 4 f34 _ ["_law_found", "_law_due"] (spAlk 2) := ok_alkS 1 F34  O31 b31 k31 m31 A1 b34 m34 m_isinstance m_tuple m_len m_range m_all
  have A3 : FnOk l.prog w K mg base CX0 5 f34 _ ["_law_found", "_law_due"] (spAlk 3) := ok_alkS 2 F34  O31 b31 k31 m31 A2 b34 m34 m_isinstance m_tuple m_len m_range m_all
  have A4 : FnOk l.prog w K mg base CX0 6 f34 _ ["_law_found", "_law_due"] (spAlk 4) := ok_alkS 3 F34  O31 b31 k31 m31 A3 b34 m34 m_isinstance m_tuple m_len m_range m_all
  have O35 : FnOk l.prog w K mg base CX0 1 f35 _ ["_law_turns", "_law_homes", "_law_end"] spNext := ok_next F35  
  have O36 : FnOk l.prog w K mg base CX0 2 f36 _ ["_law_turns", "_law_homes", "_law_start"] spLRing := ok_lring F36 O35 b35 k35 m35 
  have O37 : FnOk l.prog w K mg base CX0 1 f37 _ ["_law_turns", "_law_homes", "_law_spot", "_law_end"] spPut := ok_put F37  
  have O38 : FnOk l.prog w K mg base CX0 3 f38 _ ["_law_turns", "_law_homes", "_law_cell"] spMore := ok_more F38 O36 b36 k36 m36 O37 b37 k37 m37 m_len
  have O39 : FnOk l.prog w K mg base CX0 3 f39 _ ["_law_cell"] spLEase := ok_lease F39 O33 b33 k33 m33 
  have O40 : FnOk l.prog w K mg base CX0 4 f40 _ ["_law_script", "_law_start", "_law_many"] (spGrown K) := ok_grown F40 O38 b38 k38 m38 O30 b30 k30 m30 O39 b39 k39 m39 m_len m_range m_tuple
  have O41 : FnOk l.prog w K mg base CX0 1 f41 _ ["_law_turn"] spBeg := ok_lbeg F41  m_min
  have O42 : FnOk l.prog w K mg base CX0 1 f42 _ ["_law_turns", "_law_cell"] spTurned := ok_turned F42  m_len m_enumerate m_max m_tuple
  have O43 : FnOk l.prog w K mg base CX0 1 f43 _ ["_law_ease_here", "_law_factor"] spEt := ok_easeT F43  m_str
  have O44 : FnOk l.prog w K mg base CX0 2 f44 _ ["_law_places", "_law_ropes", "_law_turns", "_law_factor"] spLt := ok_lawT F44 O43 b43 k43 m43 m_str
  exact ok_law F45 O30 b30 k30 m30 O40 b40 k40 m40 O41 b41 k41 m41 O42 b42 k42 m42 O44 b44 k44 m44 A4 b34 k34 m34 O22 b22 k22 m22 O28 b28 k28 m28 m_tuple m_isinstance m_str
theorem walk {l : PySem.W.OpenLaw} {q : Program} {loose : List Str} {XP : (Str → Option Value) → Heap → Prop} {YP : World → Heap → Prop} {d : DefRec} {K : Params → PySem.W.Frag} (hn : l.most = some 63) (hdf : d.params.defaults = [])
    (hY : ∀ (w : World) (h : Heap), YP w h → (K w.params).In h)
    (F : ∀ (w : World) (mg : Str → Option Value) (fa : Addr) (h : Heap), (K w.params).In h → h.Ns mainGlobals mg → mg d.name = some (.ref fa) →
      ∃ fd : FuncData, (∀ (s : Shared) (u : Value), BindsTo s fd ⟨[u], []⟩ [("_law_script", u)]) ∧ ∀ base : Heap, (K w.params).In base → base.Ns mainGlobals mg → FnOk l.prog w (K w.params) mg base CX0 7 fa fd ["_law_script"] (spLaw (K w.params))) :
    PySem.W.WalkO q loose XP YP l.row.toRowW d [] (fun f vs => PySem.call f vs) :=
  L2.walk_of (n := 63) (k := 7) (x := "_law_script") (CX := fun _ => CX0) (sp := fun w => spLaw (K w.params)) hn (by decide) hdf ⟨rfl, by decide, by decide⟩ hY F (fun _ _ a ns hl _ hS => ⟨a, ns, rfl, hS, hl, fun _ => rfl⟩) fun _ _ _ _ _ z => z
end My
theorem PySem.W.Fast.tw336633794224704196:True:=trivial
theorem PySem.W.Fast.tw4825012014001530333:True:=trivial
theorem PySem.W.Fast.tw12167985125959001356:True:=trivial
theorem PySem.W.Fast.tw2440884707212091762:True:=trivial
theorem PySem.W.Fast.tw15299426225933809659:True:=trivial
theorem PySem.W.Fast.tw7877244656365061613:True:=trivial
theorem PySem.W.Fast.tw10804850125663435704:True:=trivial
theorem PySem.W.Fast.tw9350263558669806889:True:=trivial
theorem PySem.W.Fast.tw8588505245729020528:True:=trivial
theorem PySem.W.Fast.tw12704286890255423551:True:=trivial
theorem PySem.W.Fast.tw15465759297200532775:True:=trivial
theorem PySem.W.Fast.tw2700381681692645459:True:=trivial
theorem PySem.W.Fast.tw11219142542156873608:True:=trivial
theorem PySem.W.Fast.tw15377918490031717807:True:=trivial
theorem PySem.W.Fast.tw4457471288268810599:True:=trivial
theorem PySem.W.Fast.tw11360760101081595096:True:=trivial
theorem PySem.W.Fast.tw3226661118435039512:True:=trivial
theorem PySem.W.Fast.tw17851211158905999223:True:=trivial
theorem PySem.W.Fast.tw11122352169615077637:True:=trivial
theorem PySem.W.Fast.tw12963219234714127699:True:=trivial
theorem PySem.W.Fast.tw13082459233367853260:True:=trivial
theorem PySem.W.Fast.tw5203697457246210093:True:=trivial
theorem PySem.W.Fast.tw10281061737576116836:True:=trivial
theorem PySem.W.Fast.te17001011145523845574:True:=trivial
theorem PySem.W.Fast.tw9087502411579958422:True:=trivial
theorem PySem.W.Fast.tw1651757219121803566:True:=trivial
theorem PySem.W.Fast.tw617573414691303746:True:=trivial
theorem PySem.W.Fast.tw3969658125114231591:True:=trivial
theorem PySem.W.Fast.tw14318565590233921817:True:=trivial
theorem PySem.W.Fast.tw11968711930277684781:True:=trivial
theorem PySem.W.Fast.tw1070644354234527635:True:=trivial
theorem PySem.W.Fast.tw11856107164273112084:True:=trivial
theorem PySem.W.Fast.tw2530679251519643982:True:=trivial
theorem PySem.W.Fast.tw17692930133896881771:True:=trivial
theorem PySem.W.Fast.tw3368435701026029875:True:=trivial
theorem PySem.W.Fast.tw6018418381392281308:True:=trivial
theorem PySem.W.Fast.tw6074452217774919538:True:=trivial
theorem PySem.W.Fast.tw13756999819793136046:True:=trivial
theorem PySem.W.Fast.tw7483621480722401686:True:=trivial
theorem PySem.W.Fast.tw18401055199633978380:True:=trivial
theorem PySem.W.Fast.tw10780235139443573338:True:=trivial
theorem PySem.W.Fast.tw18173746321546333154:True:=trivial
theorem PySem.W.Fast.tw15371769145013943618:True:=trivial
theorem PySem.W.Fast.tw6074258294380795290:True:=trivial
theorem PySem.W.Fast.tw2874043730467903638:True:=trivial
theorem PySem.W.Fast.tw9552374723290605376:True:=trivial
theorem PySem.W.Fast.tw8913513456323432203:True:=trivial
theorem PySem.W.Fast.tw11646868913526274977:True:=trivial
theorem PySem.W.Fast.tw15607999781997199061:True:=trivial
theorem PySem.W.Fast.tw15271289650311673275:True:=trivial
theorem PySem.W.Fast.tw15662810650422482046:True:=trivial
theorem PySem.W.Fast.tw33373366195869939:True:=trivial
theorem PySem.W.Fast.tw16016404497736091305:True:=trivial
theorem PySem.W.Fast.tw13942354530031992630:True:=trivial
theorem PySem.W.Fast.tw10601314008367091896:True:=trivial
theorem PySem.W.Fast.tw5368127823007657230:True:=trivial
theorem PySem.W.Fast.tw10607638929082878050:True:=trivial
theorem PySem.W.Fast.tw9243527042061584537:True:=trivial
theorem PySem.W.Fast.tw4577069388006523517:True:=trivial
theorem PySem.W.Fast.tw11196899615950574599:True:=trivial
theorem PySem.W.Fast.tw11463948902998692146:True:=trivial
theorem PySem.W.Fast.tw12389107810675742767:True:=trivial
theorem PySem.W.Fast.tw5775954779751834711:True:=trivial
theorem PySem.W.Fast.tw18191458100723247610:True:=trivial
theorem PySem.W.Fast.tw17974337168130730471:True:=trivial
theorem PySem.W.Fast.tw1945916081327137787:True:=trivial
theorem PySem.W.Fast.tw12018439390318042163:True:=trivial
theorem PySem.W.Fast.tw419783398301270619:True:=trivial
theorem PySem.W.Fast.tw16953557148750717470:True:=trivial
theorem PySem.W.Fast.tw9649603414028636973:True:=trivial
theorem PySem.W.Fast.tw7641557456385788888:True:=trivial
theorem PySem.W.Fast.tw1156063027830238619:True:=trivial
theorem PySem.W.Fast.tw14555741289351294022:True:=trivial
theorem PySem.W.Fast.tw15077116598549395117:True:=trivial
theorem PySem.W.Fast.tw13458538484808167485:True:=trivial
theorem PySem.W.Fast.tw98320181551874011:True:=trivial
theorem PySem.W.Fast.tw17186483715703474283:True:=trivial
theorem PySem.W.Fast.tw3226900539851328326:True:=trivial
theorem PySem.W.Fast.tw16682638656397189592:True:=trivial
theorem PySem.W.Fast.tw596624656341860811:True:=trivial
theorem PySem.W.Fast.tw9566157999248635325:True:=trivial
theorem PySem.W.Fast.tw8585151225999450949:True:=trivial
theorem PySem.W.Fast.tw11501372126979806188:True:=trivial
theorem PySem.W.Fast.tw16867017275859854730:True:=trivial
theorem PySem.W.Fast.tw1924346981539251039:True:=trivial
theorem PySem.W.Fast.tw10168809457394115174:True:=trivial
theorem PySem.W.Fast.tw13040156414133675850:True:=trivial
theorem PySem.W.Fast.tw7805916946041359846:True:=trivial
theorem PySem.W.Fast.tw7196459888665784950:True:=trivial
theorem PySem.W.Fast.tw1757699630319994490:True:=trivial
theorem PySem.W.Fast.tw11487923699687455419:True:=trivial
theorem PySem.W.Fast.tw1708347472960719469:True:=trivial
theorem PySem.W.Fast.tw9543603423790004099:True:=trivial
theorem PySem.W.Fast.tw11546514243280648690:True:=trivial
theorem PySem.W.Fast.tw6779499537775674150:True:=trivial
theorem PySem.W.Fast.tw6567316754318779644:True:=trivial
theorem PySem.W.Fast.tw16738461155840624451:True:=trivial
theorem PySem.W.Fast.tw15918751990227108586:True:=trivial
theorem PySem.W.Fast.tw13452862349277407875:True:=trivial
theorem PySem.W.Fast.tw5007373832962967339:True:=trivial
theorem PySem.W.Fast.tw4904633577039009282:True:=trivial
theorem PySem.W.Fast.tw2269795819572810992:True:=trivial
theorem PySem.W.Fast.tw13507009322141260145:True:=trivial
theorem PySem.W.Fast.tw8736990027813157434:True:=trivial
theorem PySem.W.Fast.tw1115087668149456768:True:=trivial
theorem PySem.W.Fast.tw241336435683781374:True:=trivial
theorem PySem.W.Fast.tw4059802600828390472:True:=trivial
theorem PySem.W.Fast.tw171263879341190957:True:=trivial
theorem PySem.W.Fast.tw9085480628814633573:True:=trivial
theorem PySem.W.Fast.tw10018721625148930082:True:=trivial
theorem PySem.W.Fast.tw1843649920794469404:True:=trivial
theorem PySem.W.Fast.tw11185851207256306146:True:=trivial
theorem PySem.W.Fast.tw7015239104362391177:True:=trivial
theorem PySem.W.Fast.tw677881326201317852:True:=trivial
theorem PySem.W.Fast.tw11447997492470347219:True:=trivial
theorem PySem.W.Fast.tw11970519335297248565:True:=trivial
theorem PySem.W.Fast.tw11386479448349888309:True:=trivial
theorem PySem.W.Fast.tw12305304440505830646:True:=trivial
theorem PySem.W.Fast.tw2898688291307531784:True:=trivial
theorem PySem.W.Fast.tw3410562208978235133:True:=trivial
theorem PySem.W.Fast.tw14472383265467970570:True:=trivial
theorem PySem.W.Fast.tw16450405847074923168:True:=trivial
theorem PySem.W.Fast.tw5576607495967363732:True:=trivial
theorem PySem.W.Fast.tw2068853927268715034:True:=trivial
theorem PySem.W.Fast.tw105816906411656018:True:=trivial
theorem PySem.W.Fast.tw4071326604817648647:True:=trivial
theorem PySem.W.Fast.tw8336002130827816018:True:=trivial
theorem PySem.W.Fast.tw1958703512831658726:True:=trivial
theorem PySem.W.Fast.tw1211602670001897835:True:=trivial
theorem PySem.W.Fast.tw12643712253044484240:True:=trivial
theorem PySem.W.Fast.tw7960573125806401478:True:=trivial
theorem PySem.W.Fast.tw40252726584982470:True:=trivial
theorem PySem.W.Fast.tw6472500237756443791:True:=trivial
theorem PySem.W.Fast.tw1810237290312133392:True:=trivial
theorem PySem.W.Fast.tw5259073078852676227:True:=trivial
theorem PySem.W.Fast.tw12978810691764435445:True:=trivial
theorem PySem.W.Fast.tw5828871445661732383:True:=trivial
theorem PySem.W.Fast.tw8493388960696143722:True:=trivial
theorem PySem.W.Fast.tw4916389351320450568:True:=trivial
theorem PySem.W.Fast.tw17204734728153401804:True:=trivial
theorem PySem.W.Fast.tw487999735017729700:True:=trivial
theorem PySem.W.Fast.tw7551479139055152667:True:=trivial
theorem PySem.W.Fast.tw465352868082981412:True:=trivial
theorem PySem.W.Fast.tw10917512841486830473:True:=trivial
theorem PySem.W.Fast.tw8420286820533654031:True:=trivial
theorem PySem.W.Fast.tw12621625877094970065:True:=trivial
theorem PySem.W.Fast.tw8927288801395429058:True:=trivial
theorem PySem.W.Fast.tw7917283975556782427:True:=trivial
theorem PySem.W.Fast.tw6939286352744465906:True:=trivial
theorem PySem.W.Fast.tw967910252223223296:True:=trivial
theorem PySem.W.Fast.tw17525778984417551675:True:=trivial
theorem PySem.W.Fast.tw3607054919454678899:True:=trivial
theorem PySem.W.Fast.tw3380151278880834309:True:=trivial
theorem PySem.W.Fast.tw11126105697695780711:True:=trivial
theorem PySem.W.Fast.tw16764110840205014442:True:=trivial
theorem PySem.W.Fast.tw4263343251725810197:True:=trivial
theorem PySem.W.Fast.tw1638010780037392226:True:=trivial
theorem PySem.W.Fast.tw6236680087465325718:True:=trivial
theorem PySem.W.Fast.tw587604106605341844:True:=trivial
theorem PySem.W.Fast.tw5500018504603622727:True:=trivial
theorem PySem.W.Fast.tw2030866587832430033:True:=trivial
theorem PySem.W.Fast.tw5146224945594276570:True:=trivial
theorem PySem.W.Fast.tw11612598720536319191:True:=trivial
theorem PySem.W.Fast.tw9768212682499250269:True:=trivial
theorem PySem.W.Fast.tw15688496956900150092:True:=trivial
theorem PySem.W.Fast.tw14674365717423952635:True:=trivial
theorem PySem.W.Fast.tw9536891078834563137:True:=trivial
theorem PySem.W.Fast.tw15936867070350878351:True:=trivial
theorem PySem.W.Fast.tw15280533357571622024:True:=trivial
theorem PySem.W.Fast.tw15035484657130360701:True:=trivial
theorem PySem.W.Fast.tw214224652492035024:True:=trivial
theorem PySem.W.Fast.tw10751849394957139400:True:=trivial
theorem PySem.W.Fast.tw6633087617112016910:True:=trivial
theorem PySem.W.Fast.tw9487218648728671035:True:=trivial
theorem PySem.W.Fast.tw3827159868462897337:True:=trivial
theorem PySem.W.Fast.tw17025095637518666746:True:=trivial
theorem PySem.W.Fast.tw2198968456076291088:True:=trivial
theorem PySem.W.Fast.tw13767095416866502421:True:=trivial
theorem PySem.W.Fast.tw1161386923639887165:True:=trivial
theorem PySem.W.Fast.tw1544326864695051242:True:=trivial
theorem PySem.W.Fast.tw10840720675876083833:True:=trivial
theorem PySem.W.Fast.tw3363821386787250651:True:=trivial
theorem PySem.W.Fast.tw12828052309627102310:True:=trivial
theorem PySem.W.Fast.tw9548841745797416283:True:=trivial
theorem PySem.W.Fast.tw8191548010432840234:True:=trivial
theorem PySem.W.Fast.tw4161166626705600461:True:=trivial
theorem PySem.W.Fast.tw16694924262980048734:True:=trivial
theorem PySem.W.Fast.tw1787686234484712232:True:=trivial
theorem PySem.W.Fast.tw9592840379093137598:True:=trivial
theorem PySem.W.Fast.tw6075626927117958817:True:=trivial
theorem PySem.W.Fast.tw16698101892758442054:True:=trivial
theorem PySem.W.Fast.tw9445189260271850086:True:=trivial
theorem PySem.W.Fast.tw4706541880810968814:True:=trivial
theorem PySem.W.Fast.tw6336292312648166698:True:=trivial
theorem PySem.W.Fast.tw3404142924572659006:True:=trivial
theorem PySem.W.Fast.tw7945455549044933723:True:=trivial
theorem PySem.W.Fast.tw17324437741695241567:True:=trivial
theorem PySem.W.Fast.tw8018947075158703431:True:=trivial
theorem PySem.W.Fast.tw17041386180661094411:True:=trivial
theorem PySem.W.Fast.tw5768870896490950707:True:=trivial
theorem PySem.W.Fast.tw6157154701306764866:True:=trivial
theorem PySem.W.Fast.tw12486170862825541626:True:=trivial
theorem PySem.W.Fast.tw14648499629805248545:True:=trivial
theorem PySem.W.Fast.tw18404272875224852372:True:=trivial
theorem PySem.W.Fast.tw6058911068516874444:True:=trivial
theorem PySem.W.Fast.tw9646229044952259259:True:=trivial
theorem PySem.W.Fast.tw25730221005007156:True:=trivial
theorem PySem.W.Fast.tw3483449480127566440:True:=trivial
theorem PySem.W.Fast.tw5649089112940706822:True:=trivial
theorem PySem.W.Fast.tw13529985759699381789:True:=trivial
theorem PySem.W.Fast.tw16760647623180789490:True:=trivial
theorem PySem.W.Fast.tw6215188872169360139:True:=trivial
theorem PySem.W.Fast.tw7422749788311195051:True:=trivial
theorem PySem.W.Fast.tw4101202726906980774:True:=trivial
theorem PySem.W.Fast.tw13002787519750326632:True:=trivial
theorem PySem.W.Fast.tw12912240604542537977:True:=trivial
theorem PySem.W.Fast.tw1481330238312527450:True:=trivial
theorem PySem.W.Fast.tw4915879478435981537:True:=trivial
theorem PySem.W.Fast.tw6220270566746777964:True:=trivial
theorem PySem.W.Fast.tw17642055106572169349:True:=trivial
theorem PySem.W.Fast.tw3716759312299887787:True:=trivial
theorem PySem.W.Fast.tw15173392740348204848:True:=trivial
theorem PySem.W.Fast.tw8942194479226758949:True:=trivial
theorem PySem.W.Fast.tw6571348021987629447:True:=trivial
theorem PySem.W.Fast.tw16835212643519890308:True:=trivial
theorem PySem.W.Fast.tw8030149545666704009:True:=trivial
theorem PySem.W.Fast.tw9452838253966530322:True:=trivial
theorem PySem.W.Fast.tw1919892333421040748:True:=trivial
theorem PySem.W.Fast.tw16147156067914007933:True:=trivial
theorem PySem.W.Fast.tw4465438023176987001:True:=trivial
theorem PySem.W.Fast.tw2583977975405018532:True:=trivial
theorem PySem.W.Fast.tw7674181919609343011:True:=trivial
theorem PySem.W.Fast.tw3410515639707570912:True:=trivial
theorem PySem.W.Fast.tw9374228048731131755:True:=trivial
theorem PySem.W.Fast.tw11139815662476111565:True:=trivial
theorem PySem.W.Fast.tw5752798856655336185:True:=trivial
theorem PySem.W.Fast.tw6335810506046451527:True:=trivial
theorem PySem.W.Fast.tw11721364634197978724:True:=trivial
theorem PySem.W.Fast.tw8894917940578274735:True:=trivial
theorem PySem.W.Fast.tw7758640229205364356:True:=trivial
theorem PySem.W.Fast.tw1137345695015008054:True:=trivial
theorem PySem.W.Fast.tw6381531833135248961:True:=trivial
theorem PySem.W.Fast.tw4939828980972161656:True:=trivial
theorem PySem.W.Fast.tw16114118418752824212:True:=trivial
theorem PySem.W.Fast.tw11362569632807696504:True:=trivial
theorem PySem.W.Fast.tw3733877775213573136:True:=trivial
theorem PySem.W.Fast.tw18211885469814652486:True:=trivial
theorem PySem.W.Fast.tw17886478161939965893:True:=trivial
theorem PySem.W.Fast.tw1058736583841301064:True:=trivial
theorem PySem.W.Fast.tw8848941893091669194:True:=trivial
theorem PySem.W.Fast.tw15209675064315442651:True:=trivial
theorem PySem.W.Fast.tw5448625304110207999:True:=trivial
theorem PySem.W.Fast.tw12064561817568347161:True:=trivial
theorem PySem.W.Fast.tw3257732738847024111:True:=trivial
theorem PySem.W.Fast.tw13305714290415928812:True:=trivial
theorem PySem.W.Fast.tw4556079768721223330:True:=trivial
theorem PySem.W.Fast.tw4040394884464700022:True:=trivial
theorem PySem.W.Fast.tw3264080488970241758:True:=trivial
theorem PySem.W.Fast.tw8617890691882475065:True:=trivial
theorem PySem.W.Fast.tw15297160454196075410:True:=trivial
theorem PySem.W.Fast.tw15388858570891250599:True:=trivial
theorem PySem.W.Fast.tw5967972642198521353:True:=trivial
theorem PySem.W.Fast.tw2555288545542609331:True:=trivial
theorem PySem.W.Fast.tw12867094764270888391:True:=trivial
theorem PySem.W.Fast.tw11729832303891848724:True:=trivial
theorem PySem.W.Fast.tw13625804556580571373:True:=trivial
theorem PySem.W.Fast.tw7799397635867492625:True:=trivial
theorem PySem.W.Fast.tw7896992651383811194:True:=trivial
theorem PySem.W.Fast.tw1222574645200084785:True:=trivial
theorem PySem.W.Fast.tw2673295996425880110:True:=trivial
theorem PySem.W.Fast.tw8183098327217077698:True:=trivial
theorem PySem.W.Fast.tw15655233837493071097:True:=trivial
theorem PySem.W.Fast.tw9304810124054261177:True:=trivial
theorem PySem.W.Fast.tw3089541784145778947:True:=trivial
theorem PySem.W.Fast.tw1681887293105239535:True:=trivial
theorem PySem.W.Fast.tw14942866208392151125:True:=trivial
theorem PySem.W.Fast.tw2264467860510667267:True:=trivial
theorem PySem.W.Fast.tw4283127424063874024:True:=trivial
theorem PySem.W.Fast.tw14019849210725406051:True:=trivial
theorem PySem.W.Fast.tw11267851633374121813:True:=trivial
theorem PySem.W.Fast.tw9535790695163175779:True:=trivial
theorem PySem.W.Fast.tw13720125518156950410:True:=trivial
theorem PySem.W.Fast.tw17468607190831412350:True:=trivial
theorem PySem.W.Fast.tw18182682318098362420:True:=trivial
theorem PySem.W.Fast.tw9316896467264964875:True:=trivial
theorem PySem.W.Fast.tw435128491039766079:True:=trivial
theorem PySem.W.Fast.tw2062683183100766921:True:=trivial
theorem PySem.W.Fast.tw16875415834803248638:True:=trivial
theorem PySem.W.Fast.tw1441693162292398160:True:=trivial
theorem PySem.W.Fast.tw1788806001721763414:True:=trivial
theorem PySem.W.Fast.tw2436929686495861357:True:=trivial
theorem PySem.W.Fast.tw1877228826524911897:True:=trivial
theorem PySem.W.Fast.tw1529574977731728793:True:=trivial
theorem PySem.W.Fast.tw15598725375400126798:True:=trivial
theorem PySem.W.Fast.tw3833595943665482043:True:=trivial
theorem PySem.W.Fast.tw741988870332308567:True:=trivial
theorem PySem.W.Fast.tw7827474763331954839:True:=trivial
theorem PySem.W.Fast.tw10379156038587126754:True:=trivial
theorem PySem.W.Fast.tw4749442813176770444:True:=trivial
theorem PySem.W.Fast.tw2668148313031989294:True:=trivial
theorem PySem.W.Fast.tw6836239807199812229:True:=trivial
theorem PySem.W.Fast.tw11060352916062808978:True:=trivial
theorem PySem.W.Fast.tw4001385764225524866:True:=trivial
theorem PySem.W.Fast.tw17285234497547643992:True:=trivial
theorem PySem.W.Fast.tw11967907711943229544:True:=trivial
theorem PySem.W.Fast.tw1943369900330306088:True:=trivial
theorem PySem.W.Fast.tw4662255717551771576:True:=trivial
theorem PySem.W.Fast.tw2052353120936768234:True:=trivial
theorem PySem.W.Fast.tw17085619462466048:True:=trivial
theorem PySem.W.Fast.tw4539592581697084330:True:=trivial
theorem PySem.W.Fast.tw6722595166876050498:True:=trivial
theorem PySem.W.Fast.tw380884317262147730:True:=trivial
theorem PySem.W.Fast.tw4532206904931256952:True:=trivial
theorem PySem.W.Fast.tw13279575956245991289:True:=trivial
theorem PySem.W.Fast.tw8310988574412177022:True:=trivial
theorem PySem.W.Fast.tw1936498702177543291:True:=trivial
theorem PySem.W.Fast.tw9909981607839537290:True:=trivial
theorem PySem.W.Fast.tw4482467186587802619:True:=trivial
theorem PySem.W.Fast.tw11686972985785074012:True:=trivial
theorem PySem.W.Fast.tw17364840774348671405:True:=trivial
theorem PySem.W.Fast.tw944545979675670606:True:=trivial
theorem PySem.W.Fast.tw7942001642304074285:True:=trivial
theorem PySem.W.Fast.tw8054457390921683904:True:=trivial
theorem PySem.W.Fast.tw6401369669720526869:True:=trivial
theorem PySem.W.Fast.tw15521311153138147748:True:=trivial
theorem PySem.W.Fast.tw9039700331919125305:True:=trivial
theorem PySem.W.Fast.tw3851687585167840684:True:=trivial
theorem PySem.W.Fast.tw12987601694324142586:True:=trivial
theorem PySem.W.Fast.tw8042075837684298225:True:=trivial
theorem PySem.W.Fast.tw1523923866379013861:True:=trivial
theorem PySem.W.Fast.tw7177940568790254132:True:=trivial
theorem PySem.W.Fast.tw9216734815480462681:True:=trivial
theorem PySem.W.Fast.tw1860631615370773507:True:=trivial
theorem PySem.W.Fast.tw1257489478967001043:True:=trivial
theorem PySem.W.Fast.tw16277604008034719173:True:=trivial
theorem PySem.W.Fast.tw2974140784050925597:True:=trivial
theorem PySem.W.Fast.tw4388054922555342506:True:=trivial
theorem PySem.W.Fast.tw14253303556347630007:True:=trivial
theorem PySem.W.Fast.tw14524153225534304937:True:=trivial
theorem PySem.W.Fast.tw8515454472069751638:True:=trivial
theorem PySem.W.Fast.tw8722434865162016776:True:=trivial
theorem PySem.W.Fast.tw2574478836301755867:True:=trivial
theorem PySem.W.Fast.tw17488907578843938013:True:=trivial
theorem PySem.W.Fast.tw15800976836936473331:True:=trivial
theorem PySem.W.Fast.tw13706333360894279391:True:=trivial
theorem PySem.W.Fast.tw7414446339606292862:True:=trivial
theorem PySem.W.Fast.tw16894519268678176790:True:=trivial
theorem PySem.W.Fast.tw16918974449821801979:True:=trivial
theorem PySem.W.Fast.tw2512542900391084392:True:=trivial
theorem PySem.W.Fast.tw13941078786692597942:True:=trivial
theorem PySem.W.Fast.tw7369523253606589074:True:=trivial
theorem PySem.W.Fast.tw6245822885466547296:True:=trivial
theorem PySem.W.Fast.tw6586813709009703058:True:=trivial
theorem PySem.W.Fast.tw15837966794230068386:True:=trivial
theorem PySem.W.Fast.tw11201092154958966262:True:=trivial
theorem PySem.W.Fast.tw14274659016283962477:True:=trivial
theorem PySem.W.Fast.tw7581735697895156688:True:=trivial
theorem PySem.W.Fast.tw16668475609794002021:True:=trivial
theorem PySem.W.Fast.tw8537630637347644980:True:=trivial
theorem PySem.W.Fast.tw13633533636108212235:True:=trivial
theorem PySem.W.Fast.tw12689459478043404748:True:=trivial
theorem PySem.W.Fast.tw18423228553074971709:True:=trivial
theorem PySem.W.Fast.tw13690946641241561441:True:=trivial
theorem PySem.W.Fast.tw16370050552140370600:True:=trivial
theorem PySem.W.Fast.tw14580245103318583894:True:=trivial
theorem PySem.W.Fast.tw16769538517758360191:True:=trivial
theorem PySem.W.Fast.tw9960034869777291278:True:=trivial
theorem PySem.W.Fast.tw3185737655662172277:True:=trivial
theorem PySem.W.Fast.tw6176380060019354245:True:=trivial
theorem PySem.W.Fast.tw10217041804598087089:True:=trivial
theorem PySem.W.Fast.tw14628059799944388593:True:=trivial
theorem PySem.W.Fast.tw1990811566960042138:True:=trivial
theorem PySem.W.Fast.tw3749952260963760940:True:=trivial
theorem PySem.W.Fast.tw13452665917294082313:True:=trivial
theorem PySem.W.Fast.tw1455314400857705119:True:=trivial
theorem PySem.W.Fast.tw17767761180840399392:True:=trivial
theorem PySem.W.Fast.tw9253709416005474843:True:=trivial
theorem PySem.W.Fast.tw10817733973655941878:True:=trivial
theorem PySem.W.Fast.tw11726505368878514414:True:=trivial
theorem PySem.W.Fast.tw10037952988382088826:True:=trivial
theorem PySem.W.Fast.tw17493140926873328976:True:=trivial
theorem PySem.W.Fast.tw2222756203373639541:True:=trivial
theorem PySem.W.Fast.tw18167871193927980070:True:=trivial
theorem PySem.W.Fast.tw1461742555594042465:True:=trivial
theorem PySem.W.Fast.tw17168281169871092201:True:=trivial
theorem PySem.W.Fast.tw2603491088263226787:True:=trivial
theorem PySem.W.Fast.tw14816928777102031734:True:=trivial
theorem PySem.W.Fast.tw17885774361583165690:True:=trivial
theorem PySem.W.Fast.tw17619404240731994068:True:=trivial
theorem PySem.W.Fast.tw3688591855086948040:True:=trivial
theorem PySem.W.Fast.tw2228288801005992392:True:=trivial
theorem PySem.W.Fast.tw9743957863616420043:True:=trivial
theorem PySem.W.Fast.tw9869917204376723962:True:=trivial
theorem PySem.W.Fast.tw16827918473287961415:True:=trivial
theorem PySem.W.Fast.tw2769197543906599562:True:=trivial
theorem PySem.W.Fast.tw7895289704530521314:True:=trivial
theorem PySem.W.Fast.tw14624850092533987434:True:=trivial
theorem PySem.W.Fast.tw13963742215961922631:True:=trivial
theorem PySem.W.Fast.tw14343475455144790227:True:=trivial
theorem PySem.W.Fast.tw13266789912030732254:True:=trivial
theorem PySem.W.Fast.tw4903216585733459460:True:=trivial
theorem PySem.W.Fast.tw16208594851642482836:True:=trivial
theorem PySem.W.Fast.tw6194619950065072065:True:=trivial
theorem PySem.W.Fast.tw4713242674948108874:True:=trivial
theorem PySem.W.Fast.tw17671915895747187897:True:=trivial
theorem PySem.W.Fast.tw8661755088771703433:True:=trivial
theorem PySem.W.Fast.tw8944315939520814240:True:=trivial
theorem PySem.W.Fast.tw2077520510853950671:True:=trivial
theorem PySem.W.Fast.tw10453448866652718554:True:=trivial
theorem PySem.W.Fast.tw10539839673232184301:True:=trivial
theorem PySem.W.Fast.tw6618069615311494632:True:=trivial
theorem PySem.W.Fast.tw16646252750944511068:True:=trivial
theorem PySem.W.Fast.tw6537170811059534128:True:=trivial
theorem PySem.W.Fast.tw9635574961091373860:True:=trivial
theorem PySem.W.Fast.tw6659437205087948934:True:=trivial
theorem PySem.W.Fast.tw6414500862538598134:True:=trivial
theorem PySem.W.Fast.tw1361246007721596977:True:=trivial
theorem PySem.W.Fast.tw16854287390773834183:True:=trivial
theorem PySem.W.Fast.tw17906945565401463776:True:=trivial
theorem PySem.W.Fast.tw17425258631578690172:True:=trivial
theorem PySem.W.Fast.tw17626178908824405955:True:=trivial
theorem PySem.W.Fast.tw12435058013039806295:True:=trivial
theorem PySem.W.Fast.tw12814166384765544484:True:=trivial
theorem PySem.W.Fast.tw9793161256467486510:True:=trivial
theorem PySem.W.Fast.tw1173774119214006204:True:=trivial
theorem PySem.W.Fast.tw12763898357692230804:True:=trivial
theorem PySem.W.Fast.tw18210667753175531559:True:=trivial
theorem PySem.W.Fast.tw17364612324490710585:True:=trivial
theorem PySem.W.Fast.tw6325827357254881812:True:=trivial
open PySem PySem.W PyProof.Rows
set_option maxRecDepth 100000 in
set_option maxHeartbeats 0 in
theorem PySem.Challenge.cw_currentfloor_k06_texts_written_and_read_holds : PySem.Challenge.rw_currentfloor_k06_texts_written_and_read.Holds := by
  w_on; o_law; k_head; (case hw => w_witness2)
  k_fill
  refine My.walk (l := PySem.Challenge.rw_currentfloor_k06_texts_written_and_read) rfl rfl (fun w h Y => PySem.W.kIn_of Y) ?F
  case F =>
    intro w mg fa h KX G hmg
    refine' My.all_mk KX G hmg ?a1 ?l1 ?c1 ?k1 ?a2 ?l2 ?c2 ?k2 ?a3 ?l3 ?c3 ?k3 ?a4 ?l4 ?c4 ?k4 ?a5 ?l5 ?c5 ?k5 ?a6 ?l6 ?c6 ?k6 ?a7 ?l7 ?c7 ?k7 ?a8 ?l8 ?c8 ?k8 ?a9 ?l9 ?c9 ?k9 ?a10 ?l10 ?c10 ?k10 ?a11 ?l11 ?c11 ?k11 ?a12 ?l12 ?c12 ?k12 ?a13 ?l13 ?c13 ?k13 ?a14 ?l14 ?c14 ?k14 ?a15 ?l15 ?c15 ?k15 ?a16 ?l16 ?c16 ?k16 ?a17 ?l17 ?c17 ?k17 ?a18 ?l18 ?c18 ?k18 ?a19 ?l19 ?c19 ?k19 ?a20 ?l20 ?c20 ?k20 ?a21 ?l21 ?c21 ?k21 ?a22 ?l22 ?c22 ?k22 ?a23 ?l23 ?c23 ?k23 ?a24 ?l24 ?c24 ?k24 ?a25 ?l25 ?c25 ?k25 ?a26 ?l26 ?c26 ?k26 ?a27 ?l27 ?c27 ?k27 ?a28 ?l28 ?c28 ?k28 ?a29 ?l29 ?c29 ?k29 ?a30 ?l30 ?c30 ?k30 ?a31 ?l31 ?c31 ?k31 ?a32 ?l32 ?c32 ?k32 ?a33 ?l33 ?c33 ?k33 ?a34 ?l34 ?c34 ?k34 ?a35 ?l35 ?c35 ?k35 ?a36 ?l36 ?c36 ?k36 ?a37 ?l37 ?c37 ?k37 ?a38 ?l38 ?c38 ?k38 ?a39 ?l39 ?c39 ?k39 ?a40 ?l40 ?c40 ?k40 ?a41 ?l41 ?c41 ?k41 ?a42 ?l42 ?c42 ?k42 ?a43 ?l43 ?c43 ?k43 ?a44 ?l44 ?c44 ?k44 ?a45 ?l45 ?c45 ?k45 ?z_abs ?z_len ?z_range ?z_tuple ?z_enumerate ?z_sorted ?z_min ?z_max ?z_all ?z_isinstance ?z_int ?z_bool ?z_str ?z_reversed
    (case a1 => k_is)
    (case l1 => k_is)
    (case c1 => k_is)
    (case k1 => k_is)
    (case a2 => k_is)
    (case l2 => k_is)
    (case c2 => k_is)
    (case k2 => k_is)
    (case a3 => k_is)
    (case l3 => k_is)
    (case c3 => k_is)
    (case k3 => k_is)
    (case a4 => k_is)
    (case l4 => k_is)
    (case c4 => k_is)
    (case k4 => k_is)
    (case a5 => k_is)
    (case l5 => k_is)
    (case c5 => k_is)
    (case k5 => k_is)
    (case a6 => k_is)
    (case l6 => k_is)
    (case c6 => k_is)
    (case k6 => k_is)
    (case a7 => k_is)
    (case l7 => k_is)
    (case c7 => k_is)
    (case k7 => k_is)
    (case a8 => k_is)
    (case l8 => k_is)
    (case c8 => k_is)
    (case k8 => k_is)
    (case a9 => k_is)
    (case l9 => k_is)
    (case c9 => k_is)
    (case k9 => k_is)
    (case a10 => k_is)
    (case l10 => k_is)
    (case c10 => k_is)
    (case k10 => k_is)
    (case a11 => k_is)
    (case l11 => k_is)
    (case c11 => k_is)
    (case k11 => k_is)
    (case a12 => k_is)
    (case l12 => k_is)
    (case c12 => k_is)
    (case k12 => k_is)
    (case a13 => k_is)
    (case l13 => k_is)
    (case c13 => k_is)
    (case k13 => k_is)
    (case a14 => k_is)
    (case l14 => k_is)
    (case c14 => k_is)
    (case k14 => k_is)
    (case a15 => k_is)
    (case l15 => k_is)
    (case c15 => k_is)
    (case k15 => k_is)
    (case a16 => k_is)
    (case l16 => k_is)
    (case c16 => k_is)
    (case k16 => k_is)
    (case a17 => k_is)
    (case l17 => k_is)
    (case c17 => k_is)
    (case k17 => k_is)
    (case a18 => k_is)
    (case l18 => k_is)
    (case c18 => k_is)
    (case k18 => k_is)
    (case a19 => k_is)
    (case l19 => k_is)
    (case c19 => k_is)
    (case k19 => k_is)
    (case a20 => k_is)
    (case l20 => k_is)
    (case c20 => k_is)
    (case k20 => k_is)
    (case a21 => k_is)
    (case l21 => k_is)
    (case c21 => k_is)
    (case k21 => k_is)
    (case a22 => k_is)
    (case l22 => k_is)
    (case c22 => k_is)
    (case k22 => k_is)
    (case a23 => k_is)
    (case l23 => k_is)
    (case c23 => k_is)
    (case k23 => k_is)
    (case a24 => k_is)
    (case l24 => k_is)
    (case c24 => k_is)
    (case k24 => k_is)
    (case a25 => k_is)
    (case l25 => k_is)
    (case c25 => k_is)
    (case k25 => k_is)
    (case a26 => k_is)
    (case l26 => k_is)
    (case c26 => k_is)
    (case k26 => k_is)
    (case a27 => k_is)
    (case l27 => k_is)
    (case c27 => k_is)
    (case k27 => k_is)
    (case a28 => k_is)
    (case l28 => k_is)
    (case c28 => k_is)
    (case k28 => k_is)
    (case a29 => k_is)
    (case l29 => k_is)
    (case c29 => k_is)
    (case k29 => k_is)
    (case a30 => k_is)
    (case l30 => k_is)
    (case c30 => k_is)
    (case k30 => k_is)
    (case a31 => k_is)
    (case l31 => k_is)
    (case c31 => k_is)
    (case k31 => k_is)
    (case a32 => k_is)
    (case l32 => k_is)
    (case c32 => k_is)
    (case k32 => k_is)
    (case a33 => k_is)
    (case l33 => k_is)
    (case c33 => k_is)
    (case k33 => k_is)
    (case a34 => k_is)
    (case l34 => k_is)
    (case c34 => k_is)
    (case k34 => k_is)
    (case a35 => k_is)
    (case l35 => k_is)
    (case c35 => k_is)
    (case k35 => k_is)
    (case a36 => k_is)
    (case l36 => k_is)
    (case c36 => k_is)
    (case k36 => k_is)
    (case a37 => k_is)
    (case l37 => k_is)
    (case c37 => k_is)
    (case k37 => k_is)
    (case a38 => k_is)
    (case l38 => k_is)
    (case c38 => k_is)
    (case k38 => k_is)
    (case a39 => k_is)
    (case l39 => k_is)
    (case c39 => k_is)
    (case k39 => k_is)
    (case a40 => k_is)
    (case l40 => k_is)
    (case c40 => k_is)
    (case k40 => k_is)
    (case a41 => k_is)
    (case l41 => k_is)
    (case c41 => k_is)
    (case k41 => k_is)
    (case a42 => k_is)
    (case l42 => k_is)
    (case c42 => k_is)
    (case k42 => k_is)
    (case a43 => k_is)
    (case l43 => k_is)
    (case c43 => k_is)
    (case k43 => k_is)
    (case a44 => k_is)
    (case l44 => k_is)
    (case c44 => k_is)
    (case k44 => k_is)
    (case a45 => k_is)
    (case l45 => k_is)
    (case c45 => k_is)
    (case k45 => k_is)
    (case z_abs => k_is)
    (case z_len => k_is)
    (case z_range => k_is)
    (case z_tuple => k_is)
    (case z_enumerate => k_is)
    (case z_sorted => k_is)
    (case z_min => k_is)
    (case z_max => k_is)
    (case z_all => k_is)
    (case z_isinstance => k_is)
    (case z_int => k_is)
    (case z_bool => k_is)
    (case z_str => k_is)
    (case z_reversed => k_is)
